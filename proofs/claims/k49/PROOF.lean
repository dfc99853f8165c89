import PyProof.Rows.All
import Wide.All
import OpenK.AllK
import Wide.FinOn
import Lean
import PyProof.EqAt
import PyProof.EqKinds
import PyProof.TupleCall
import PySem.Challenge.RW_termcourt_k49_whole_books
set_option Elab.async false
set_option linter.all false
set_option maxRecDepth 100000
/-! THE HAND LAYER,for ints,bools,texts,own classes,LISTS and tuples (index,slices,in,append,pop ..),calls,loops. Paste it whole ahead of your own text; what your proof does not reach may be deleted. -/
local macro_rules|`(En)=>`(by decide +kernel)|`(Ez)=>`(by decide)
open PySem.Str renaming ofString->Aa,empty->CF,cps_append->DB
open PySem renaming wpAny_bind->Ab,Shared->Af,wpAny_pure->Ao,sizeLine->A4,Spec->A5,mainGlobals->A8,FuncData->AA,Builtin->AH,Program->AK,Around->AX,sizeLine_eq->Bl,NameKind->B1,PassesOwn->B3,wpAny_Call_Name_kw->B9,wpAny_callSpecial?_slot->BD,wpAny_holding->BL,wpAny_call_entry->BP,wpAny_truthy_bool->BQ,wpAny_field->BS,wpAny_passesOwn->BZ,wpAny_setField->Cb,SetTable->Ce,wpAny_mono->Cf,wpAny_seqItems->Ci,wpAny_newObj_type->Cm,wpAny_setState_of->Cw,wpAny_askSetting->C2,wpAny_setEntries_of->C9,codeAny_mono->CA,wpAny_attempt->CB,builtinLookup_eq_fast->CL,wpAny_call->Db,mem_of_lookup->Dg,wpAny_getItem_str_slice->Dl,wpAny_setField_rec->Dv,wpAny_execs_nil->D0,wpAny_pyIter_list->D6,codeAny_call_builtin->D9,Within->DC,typeLookup_type->DM,codeAny_builtin->DN,Paired->DO,tupleKind_room_in1->DP,wpAny_fieldsOf->Eb,plainObj_wpAny_Assign_Attribute->Ee,call_meets->Ei
open List renaming length_map->Ac,length_append->Ag,getElem?_eq_some_iff->Ah,mem_singleton->Ai,getElem?_map->Ak,getElem?_eq_getElem->Al,mem_cons_self->Am,mem_cons->An,not_mem_nil->Aq,mem_cons_of_mem->Ar,mem_of_getElem?->At,length_cons->Au,map_append->Av,size_toArray->Ax,mem_append->Az,map_cons->A6,append_assoc->AE,mem_append_right->AI,getElem?_of_mem->AL,nodup_cons->AM,getElem?_append_right->AN,nodup_append->AO,mem_map->AS,getElem?_append_left->AT,length_singleton->AU,map_map->AV,contains_iff_mem->AY,length_take->AZ,flatMap_append->Bc,all_eq_true->Be,getElem?_eq_none->Bh,nil_append->Bi,cons_append->Bj,mem_append_left->Bk,append_nil->Bm,flatMap_cons->Bt,length_nil->Bu,getElem_mem->By,ext_getElem?->Bz,mem_flatMap->B0,range->B4,take_of_length_le->B5,take_length->B8,getD_eq_getElem?_getD->BA,map_nil->BC,getElem?_eq_none_iff->BF,mem_or_eq_of_mem_set->BH,length_drop->BN,lookup_cons->BO,Nodup->BY,cons_lt_cons_iff->Cd,getElem?_set_self->Cj,getElem?_set->Cn,mem_of_mem_drop->Cr,drop_eq_getElem_cons->Cy,take_append_drop->C1,all_cons->C3,length_range->C4,length_set->C7,mem_reverse->CG,getElem?_toArray->CM,getElem?_set_ne->CS,lookup->CU,take_add_one->CV,mem_of_mem_take->CW,count_append->CY,filterMap_cons->Df,length_reverse->Dh,mem_map_of_mem->Di,mem_range->Dj,cons_ne_nil->Dn,Perm->Do,nodup_nil->Dp,find?_cons->D3,foldl_append->D8,any_cons->DK,sum_cons->DL,length->DR,length_eq_zero_iff->DU,any_eq_false->DW,all_map->DZ,getElem?_reverse->Eg,any_eq_true->Ej
open PySem.W renaming exmOne->Ad,Frag->Ae,nsIn->AC,findIn->AW,mg_of->Bb,mg_none_of->Bd,keepIn->Bq,fnOf->BB,kitOne->BI,Looks->BR,kia_one->Ca,emptyDict->Ck,codeIn->Co,typeIn->Ct,instObj->C5,callWith_K->CH,hasDictIn->CT,plainGet->DE,lookIn->DV,specialIn->DX,methodCall_KW->Ef
open PySem.Heap renaming get?_push_of_some->Aj,get?_push_size->Aw,lt_size->A1,SameBut->Bf,get?_update_self->Bg,get?_update_other->Bv,size_push->Bx,ExtBut->DS
open PySem.Value renaming ref->Ap,none->BE,type->BV,isStrOf_shape->DI,isStrOf->DJ,str->DQ
open Or renaming inl->Ay,inr->C8
open Nat renaming le_refl->A0,le_trans->A3,lt_of_lt_of_le->AB,ne_of_lt->AG,zero_le->B7,lt_irrefl->BJ,le_of_eq->BW,lt_succ_self->Cc,le_succ->Cp,ne_of_gt->Cs,lt_succ_of_lt->Cu,not_lt_zero->CQ,lt_of_le_of_lt->Dr,lt_of_succ_lt_succ->Dx,le_of_lt->DD,zero_add->DF,succ_le_succ->DG,sub_self->Ed
open Array renaming length_toList->A7,getElem?_eq_getElem->BG,getElem?_toList->C0,getElem?_eq_some_iff->CJ,getElem?_eq_none->Ec
open Option.some renaming inj->A9
open Bool renaming and_eq_true->AD,false_ne_true->AF,false_and->Cg,eq_iff_iff->C6,true_and->CD,or_eq_false_iff->CZ,and_false->Dm,false_eq_true->Dt
open PySem.F renaming plainAttrs_list->AJ,slot_list_append->AQ,type_list_append->AR,plainAttrs_str->B6,slot_tuple_iterator_next->CK,slot_str_join->CN,type_str_join->CO,slot_dict_values->Dd,called_set->Dw,slot_str_split->Dy,type_str_split->Dz,excBase_ValueError->DA
open Ne renaming symm->Ba
open PySem.PassesOwn renaming never->Bp
open PyProof.Rows renaming callWith_type1->Br,callWith_builtin1->Dk
open PySem.NameKind renaming free->Bw
open False renaming elim->BK
open PySem.SeqAt renaming EqAt->BM
open PySem.Txt renaming split->BU,slice_le->Ea,slice->Ek
open PySem.Obj renaming data_mapFields->BX,isFreed_of_fields->Cz,mapFields->CC,mapSeq->CI
open Option renaming bind_some->Cq,map_some->CP,isSome_iff_exists->Dc
open Int renaming toNat_natCast->Cv,zero_add->DH
open True renaming intro->Da
open Sum renaming inr->De
open PySem.Calls renaming spliced_cons->Dq,spliced_nil->D7,callWith_builtin->DY
open Nat.succ renaming inj->Du
open ForInStep renaming yield->D4
open List.cons renaming inj->D5
open PyProof.Rows.F renaming plain_set_update_loop->DT
open PySem.StrLaws renaming glued_eq_join->Eh
theorem Z.{u}{α:Sort u}{a:α}:a=a:=rfl
namespace L2
open PySem PySem.Spec PyProof.Rows
noncomputable abbrev Key:=Sum Int Str
noncomputable def qm9:Key->Value->Bool
 |.inl k,v=>Value.isInt k v
 |.inr x,v=>DJ x v
noncomputable def keyH (w:World):Key->Int
 |.inl k=>hashInt k
 |.inr x=>hashStr w x
theorem qb9:∀{k:Key}{v:Value},qm9 k v=true->(∃i t,k=Sum.inl i/\v=Value.int i t)\/(∃x t,k=De x/\v=DQ x t)
 |.inl i,v,h=>by obtain⟨t,e⟩:=Value.isInt_shape (k:=i) (v:=v) h;exact .inl ⟨i,t,Z,e⟩
 |.inr x,v,h=>by obtain⟨t,e⟩:=DI (x:=x) (v:=v) h;exact .inr ⟨x,t,Z,e⟩
theorem qtk (i:Int)(t:Tok):qm9 (.inl i) (.int i t)=true:=by simp[qm9,Value.isInt]
theorem qtl (x:Str)(t:Tok):qm9 (.inr x) (.str x t)=true:=by simp[qm9,DJ]
theorem key_ll (a b:Int):decide ((Sum.inl a:Key)=Sum.inl b)=(a == b):=by
 by_cases e:a=b
 .subst e;simp
 .have h:¬(Sum.inl a:Key)=Sum.inl b:=λq=>e (Sum.inl.inj q);rw[decide_eq_false h];exact(beq_eq_false_iff_ne.mpr e).symm
theorem key_rr (a b:Str):decide ((De a:Key)=De b)=decide (a=b):=by
 by_cases e:a=b
 .subst e;simp
 .have h:¬(De a:Key)=De b:=λq=>e (De.inj q);rw[decide_eq_false h,decide_eq_false e]
theorem key_lr (a:Int)(b:Str):decide ((Sum.inl a:Key)=De b)=false:=decide_eq_false (λq=>nomatch q)
theorem key_rl (a:Str)(b:Int):decide ((De a:Key)=Sum.inl b)=false:=decide_eq_false (λq=>nomatch q)
noncomputable def qbv (prog:AK)(w:World):PySem.KeyKind prog w Key where
 is:=qm9
 hash:=keyH w
 inj:=λv a b ha hb=>by
  rcases qb9 ha with ⟨i,t,rfl,rfl⟩|⟨x,t,rfl,rfl⟩
  .rcases qb9 hb with ⟨j,u,rfl,e⟩|⟨y,u,rfl,e⟩
   .injection e with e1 _;rw[e1]
   .exact nomatch e
  .rcases qb9 hb with ⟨j,u,rfl,e⟩|⟨y,u,rfl,e⟩
   .exact nomatch e
   .injection e with e1 _;rw[e1]
 byValue:=λk v h=>by rcases qb9 h with ⟨i,t,rfl,rfl⟩|⟨x,t,rfl,rfl⟩ <;>rfl
 pyHash:=λhv h=>by
  rcases qb9 hv with ⟨i,t,rfl,rfl⟩|⟨x,t,rfl,rfl⟩
  .exact wpAny_pyHash_int h
  .exact wpAny_pyHash_str h
 eqBool:=λhu hv h=>by
  rcases qb9 hu with ⟨i,t,rfl,rfl⟩|⟨x,t,rfl,rfl⟩
  .rcases qb9 hv with ⟨j,u,rfl,rfl⟩|⟨y,u,rfl,rfl⟩
   .rw[key_ll]at h;exact wpAny_eqBool_int h
   .rw[key_lr]at h;exact BM.int_str i t y u _ _ _ _ h
  .rcases qb9 hv with ⟨j,u,rfl,rfl⟩|⟨y,u,rfl,rfl⟩
   .rw[key_rl]at h;exact BM.str_int x t j u _ _ _ _ h
   .rw[key_rr]at h;exact wpAny_eqBool_str h
 «strs» := λk x t v h=>by
  rcases qb9 h with ⟨i,u,rfl,e⟩|⟨y,u,rfl,e⟩
  .exact nomatch e
  .injection e with e1 _;subst e1;cases v <;>rfl
theorem qpb (prog:AK)(w:World)(i:Int)(t:Tok):(qbv prog w).is (.inl i) (.int i t)=true:=qtk i t
theorem qpc (prog:AK)(w:World)(x:Str)(t:Tok):(qbv prog w).is (.inr x) (.str x t)=true:=qtl x t
end L2
namespace L2
open PySem PySem.Spec PyProof.Rows
inductive V where
 |non|bl (b:Bool)|int (i:Int)|str (x:Str)|byt (b:Array UInt8)|flt (b:UInt64)|ref (a:Addr)|ty (n:String)
 deriving DecidableEq
def RelV:V->Value->Prop
 |.non,u=>u=BE
 |.bl b,u=>u=Value.bool b
 |.int i,u=>∃t,u=Value.int i t
 |.str x,u=>∃t,u=DQ x t
 |.byt b,u=>∃t,u=Value.bytes b t
 |.flt b,u=>∃t,u=Value.float b t
 |.ref a,u=>u=Ap a
 |.ty n,u=>u=BV n
noncomputable abbrev Vals:List V->List Value->Prop:=DO RelV
theorem Vals.length {xs:List V}{us:List Value}(r:Vals xs us):xs.length=us.length:=DO.length r
theorem Vals.get:∀{xs:List V}{us:List Value}{i:Nat}{x:V},Vals xs us->xs[i]?=some x->∃u,us[i]?=some u/\RelV x u
 |_,_,_,_,.nil,e=>by simp at e
 |_,_,0,_,.cons r _,e=>by simp at e;subst e;exact⟨_,Z,r⟩
 |_,_,i+1,x,.cons _ t,e=>by obtain⟨u,a,b⟩:=Vals.get (i:=i) (x:=x) t (by simpa using e);exact⟨u,by simpa using a,b⟩
theorem Vals.set {x:V}{u:Value}(r:RelV x u):∀{xs:List V}{us:List Value}(i:Nat),Vals xs us->Vals (xs.set i x) (us.set i u)
 |_,_,_,.nil=>.nil
 |_,_,0,.cons _ t=>.cons r t
 |_,_,i+1,.cons q t=>.cons q (Vals.set r i t)
theorem Vals.append:∀{xs ys:List V}{us ws:List Value},Vals xs us->Vals ys ws->Vals (xs++ys) (us++ws)
 |_,_,_,_,.nil,s=>s
 |_,_,_,_,.cons r t,s=>.cons r (Vals.append t s)
theorem Vals.take:∀{xs:List V}{us:List Value}(n:Nat),Vals xs us->Vals (xs.take n) (us.take n)
 |_,_,0,_=>.nil
 |_,_,_+1,.nil=>.nil
 |_,_,n+1,.cons r t=>.cons r (Vals.take n t)
theorem Vals.drop:∀{xs:List V}{us:List Value}(n:Nat),Vals xs us->Vals (xs.drop n) (us.drop n)
 |_,_,0,r=>r
 |_,_,_+1,.nil=>.nil
 |_,_,n+1,.cons _ t=>Vals.drop n t
def RelO:Option V->Option Value->Prop
 |some v,some u=>RelV v u
 |none,none=>True
 |_,_=>False
noncomputable def KV {κ:Type}:List (κ×V)->List (κ×Value)->Prop:=DO λ(p:κ×V)(q:κ×Value)=>p.1=q.1/\RelV p.2 q.2
noncomputable def kV:Key->V
 |.inl i=>.int i
 |.inr x=>.str x
inductive HO where
 /-- a list -/
 |lst (xs:List V)
 /-- a tuple (never changes) -/
 |tup (xs:List V)
 /-- a dict whose keys are ints and texts;one whose keys are tuples of ints and texts (the empty one is both) -/
 |dK (kvs:List (Key×V))|dT (kvs:List (List Key×V))
 /-- a set of ints: its members,its size -/
 |set (S:Int->Bool) (n:Nat)
 /-- an instance of the class at C,its dict at dx,its attributes -/
 |ins (C dx:Addr) (fs:List (Str×V))
 /-- the dict of the instance at x -/
 |own (x:Addr)
 /-- the dict of an exception -/
 |xd (fs:List (Str×V))
 /-- a bound method,f of x -/
 |met (f x:Addr)
 /-- a range object lo,lo+1,.. below hi -/
 |rng (lo hi:Int)
 /-- a thing that is known to the object (the script;a dict while a loop walks it): read,never written while it is so -/
 |frz (o:Obj) (u:HO)
 /-- a code object's table -/
 |tbl (ps:Array Value)
 /-- any other thing,by what is true of its one object (a def of one's own: SetO a S n:=HO.ext λh=>..) -/
 |ext (φ:Heap->Prop)
noncomputable abbrev Hp:=Addr->Option HO
noncomputable def upd (H:Hp)(a:Addr)(o:HO):Hp:=λb=>if b=a then some o else H b
theorem qi {H:Hp}{a:Addr}{o:HO}:upd H a o a=some o:=by unfold upd;rw[if_pos Z]
theorem qp {H:Hp}{a b:Addr}{o:HO}(h:b≠a):upd H a o b=H b:=by unfold upd;rw[if_neg h]
theorem qyi {H:Hp}{a:Addr}{o u:HO}:upd (upd H a o) a u=upd H a u:=by funext b;unfold upd;split <;>rfl
theorem ne_of {H:Hp}{a b:Addr}{o u:HO}(h:H a=some o)(h':H b=some u)(d:o≠u):a≠b:=by intro e;subst e;rw[h]at h';exact d (A9 h')
theorem qaf {H:Hp}{a b:Addr}{o:HO}(h:H a=some o)(h':H b=none):a≠b:=by intro e;subst e;rw[h]at h';cases h'
section
variable (P:AK)(w:World)
def ObjOk (H:Hp)(h:Heap)(a:Addr):HO->Prop
 |.lst xs=>xs.length<=A4/\∃(its:List Value)(n:Nat),Vals xs its/\h.get? a=some {cls:=.type "list",data:=.seq its.toArray n}
 |.tup xs=>xs.length<=A4/\∃its:List Value,Vals xs its/\IsTup h a its.toArray
 |.dK kvs=>kvs.length<=A4/\(a == sysModules)=false/\∃vs,KV kvs vs/\h.DictOf (qbv P w) a vs
 |.dT kvs=>kvs.length<=A4/\(a == sysModules)=false/\∃xs:List (List Key×Addr×Value),
   DO (λ(p:List Key×V)(q:List Key×Addr×Value)=>p.1=q.1/\H q.2.1=some (.tup (p.1.map kV))/\RelV p.2 q.2.2) kvs xs /\
   ∃o es ep,h.get? a=some o/\o.ExactDict/\o.data=.dict es ep/\es.toList=xs.map (entryOfKey (tupleKind (qbv P w)))/\(xs.map (·.1)).Nodup
 |.set S n=>h.SetOf (intKind P w) a S n
 |.ins C dx fs=>H dx=some (.own a)/\fs.length<=1000/\dx≠a/\h.get? a=some (C5 C dx) /\
   ∃mA,h.Ns1 dx mA/\(∀f,RelO (fs.lookup f) (mA f))/\DC mA (fs.map (·.1))
 |.own _=>∃o,h.get? a=some o
 |.xd fs=>∃mA,h.Ns1 a mA/\∀f,RelO (fs.lookup f) (mA f)
 |.rng lo hi=>∃t u v,h.get? a=some {cls:=.type "range",data:=.fields #[.int lo t,.int hi u,.int 1 v]}
 |.frz o u=>h.get? a=some o/\ObjOk H h a u
 |.tbl ps=>h.get? a=some {cls:=.none,data:=.fields ps}
 |.met f x=>h.get? a=some (PySem.W.methodObj (.ref f) (.ref x))
 |.ext φ=>φ h/\(∃o,h.get? a=some o)/\∀h1 h2:Heap,φ h1->(∀o,h1.get? a=some o->h2.get? a=some o)->φ h2
def HOk (H:Hp)(h:Heap):Prop:=∀a o,H a=some o->ObjOk P w H h a o
end
section
variable {P:AK}{w:World}{H H':Hp}{h h':Heap}{a:Addr}{o:HO}
theorem ObjOk.lt (x:ObjOk P w H h a o):a<h.objs.size:=by
 cases o with
 |lst xs=>obtain⟨_,_,_,_,e⟩:=x;exact A1 e
 |tup xs=>obtain⟨_,_,_,p⟩:=x;exact p.lt
 |dK kvs=>obtain⟨_,_,_,_,o,_,_,e,_⟩:=x;exact A1 e
 |dT kvs=>obtain⟨_,_,_,_,o,_,_,e,_⟩:=x;exact A1 e
 |set S n=>obtain⟨o,_,_,_,e,_⟩:=x;exact A1 e
 |ins C dx fs=>obtain⟨_,_,_,e,_⟩:=x;exact A1 e
 |own y=>obtain⟨_,e⟩:=x;exact A1 e
 |xd fs=>obtain⟨_,⟨_,_,_,e,_⟩,_⟩:=x;exact A1 e
 |rng lo hi=>obtain⟨_,_,_,e⟩:=x;exact A1 e
 |frz ob u=>obtain⟨e,_⟩:=x;exact A1 e
 |tbl ps=>exact A1 (show h.get? a=some _ from x)
 |met f y=>exact A1 (show h.get? a=some _ from x)
 |ext φ=>obtain⟨_,⟨_,e⟩,_⟩:=x;exact A1 e
theorem DO.mapP {α β:Type}{F G:α->β->Prop}:∀{c:List α}{d:List β},DO F c d->(∀a b,F a b->G a b)->DO G c d
 |_,_,.nil,_=>.nil
 |_,_,.cons r t,f=>.cons (f _ _ r) (DO.mapP t f)
theorem ObjOk.stay (x:ObjOk P w H h a o)(k:∀b u,(b=a\/H b=some (.own a))->h.get? b=some u->h'.get? b=some u)
  (s:∀b,H b=some (.own a)->H' b=some (.own a))(m:∀b xs,H b=some (.tup xs)->H' b=some (.tup xs)):ObjOk P w H' h' a o:=by
 induction o with
 |lst xs=>obtain⟨z,its,n,r,e⟩:=x;exact⟨z,its,n,r,k _ _ (.inl Z) e⟩
 |tup xs=>obtain⟨z,its,r,g,e,c⟩:=x;exact⟨z,its,r,g,k _ _ (.inl Z) e,c⟩
 |dK kvs=>obtain⟨z,y,vs,r,g,es,ep,e,c⟩:=x;exact⟨z,y,vs,r,g,es,ep,k _ _ (.inl Z) e,c⟩
 |dT kvs =>obtain⟨z,y,xs,r,g,es,ep,e,c⟩:=x;exact⟨z,y,xs,DO.mapP r λp q z=>⟨z.1,m _ _ z.2.1,z.2.2⟩,g,es,ep,k _ _ (.inl Z) e,c⟩
 |set S n=>obtain⟨g,es,ep,t,e,c⟩:=x;exact⟨g,es,ep,t,k _ _ (.inl Z) e,c⟩
 |ins C dx fs =>obtain⟨d,z,j,e,i,⟨od,es,ep,l,c⟩,r⟩:=x;exact⟨s _ d,z,j,k _ _ (.inl Z) e,i,⟨od,es,ep,k _ _ (.inr d) l,c⟩,r⟩
 |own y=>obtain⟨g,e⟩:=x;exact⟨g,k _ _ (.inl Z) e⟩
 |xd fs=>obtain⟨i,⟨od,es,ep,e,c⟩,r⟩:=x;exact⟨i,⟨od,es,ep,k _ _ (.inl Z) e,c⟩,r⟩
 |rng lo hi=>obtain⟨t,u,v,e⟩:=x;exact⟨t,u,v,k _ _ (.inl Z) e⟩
 |frz g u ih=>obtain⟨e,q⟩:=x;exact⟨k _ _ (.inl Z) e,ih q⟩
 |tbl ps =>have e:h.get? a=some {cls:=.none,data:=.fields ps}:=x;show h'.get? a=some {cls:=.none,data:=.fields ps};exact k a _ (.inl Z) e
 |met f y =>have e:h.get? a=some (PySem.W.methodObj (.ref f) (.ref y)):=x;show h'.get? a=some (PySem.W.methodObj (.ref f) (.ref y));exact k a _ (.inl Z) e
 |ext φ=>obtain⟨p,⟨o,e⟩,st⟩:=x;exact⟨st _ _ p λo q=>k _ _ (.inl Z) q,⟨o,k _ _ (.inl Z) e⟩,st⟩
theorem HOk.lt (x:HOk P w H h)(e:H a=some o):a<h.objs.size:=(x a o e).lt
theorem HOk.fresh (x:HOk P w H h)(e:h.objs.size<=a):H a=none:=by
 cases q:H a with|none=>rfl|some u=>exact absurd (AB (x.lt q) e) (BJ _)
theorem HOk.kept (x:HOk P w H h)(k:∀b u,h.get? b=some u->h'.get? b=some u):HOk P w H h':=λa o e =>
 (x a o e).stay (λb u _ q=>k b u q) (λ_ q=>q) λ_ _ q=>q
theorem HOk.laid (x:HOk P w H h)(k:∀b u,h.get? b=some u->h'.get? b=some u)(i:h.objs.size<=a)(f:ObjOk P w (upd H a o) h' a o):HOk P w (upd H a o) h':=λb u e=>by
 have d:=x.fresh i;by_cases g:b=a
 .subst g;rw[qi]at e;cases e;exact f
 .rw[qp g]at e;exact(x b u e).stay (λc v _ q=>k c v q) (λc q=>by rw[qp (qaf q d)];exact q) λc xs q=>by rw[qp (qaf q d)];exact q
end
def Rd (H:Hp)(a:Addr)(u:HO):Prop:=H a=some u \/ ∃o,H a=some (.frz o u)
theorem Rd.ok {P:AK}{w:World}{H:Hp}{h:Heap}{a:Addr}{u:HO}(r:Rd H a u)(x:HOk P w H h):ObjOk P w H h a u:=by
 rcases r with r|⟨o,r⟩
 .exact x a u r
 .obtain⟨_,q⟩:=x a _ r;exact q
def Mut:Option HO->Prop
 |some (.lst _)=>True
 |some (.dK _)=>True
 |some (.dT _)=>True
 |some (.set _ _)=>True
 |some (.ins _ _ _)=>True
 |some (.ext _)=>True
 |_=>False
section
variable {P:AK}{w:World}{H:Hp}{h h':Heap}{x e:Addr}{o':HO}
theorem HOk.write (ok:HOk P w H h)(g:Mut (H x))(l:e=x\/H e=some (.own x))(k:∀b u,b≠e->h.get? b=some u->h'.get? b=some u)(n:∃u,h'.get? e=some u)
  (o:ObjOk P w (upd H x o') h' x o'):HOk P w (upd H x o') h':=λb u q=>by
 have d:∀c y,H c=some (.own y)->c≠x:=λc y r z=>by subst z;rw[r]at g;exact g
 have j:∀c xs,H c=some (.tup xs)->c≠x:=λc xs r z=>by subst z;rw[r]at g;exact g
 by_cases f:b=x
 .subst f;rw[qi]at q;cases q;exact o
 .rw[qp f]at q;by_cases a:b=e
  .have m:H b=some (.own x):=by
    rcases l with z|z
    .exact absurd (a.trans z) f
    .rw[a];exact z
   rw[q]at m;cases m
   obtain⟨v,p⟩:=n
   exact⟨v,by rw[a];exact p⟩
  .refine(ok b u q).stay (λc v i r=>k c v ?_ r) (λc r=>by rw[qp (d c b r)];exact r) λc xs r=>by rw[qp (j c xs r)];exact r
   rcases i with rfl|i
   .exact a
   .rintro rfl;rcases l with z|z
    .exact d c b i z
    .rw[i]at z;cases z;exact f rfl
end
structure Un (fs ex:List Addr)(H H':Hp)(h h':Heap):Prop where
 keep:∀b o,h.get? b=some o->H b=none->b∉fs->b∉ex->h'.get? b=some o
 slot:∀b o,h.get? b=some o->H b=none->b∈fs->b∉ex->∃sl,h'.get? b=some {o with slots:=sl}
 free:∀b o,h.get? b=some o->H b=none->b∉ex->H' b=none
 there:∀b o,h.get? b=some o->b∉ex->∃o',h'.get? b=some o'
 tups:∀b xs,H b=some (.tup xs)->H' b=some (.tup xs)
 frzs:∀b o u,H b=some (.frz o u)->H' b=some (.frz o u)
 tbls:∀b ps,H b=some (.tbl ps)->∃qcj,H' b=some (.tbl (ps++qcj))
section
variable {fs fs' ex ex':List Addr}{H H1 H2:Hp}{h h1 h2 h':Heap}{a x e:Addr}{o:HO}
theorem Un.any (u:Un fs ex H H1 h h1){b:Addr}{a:Obj}(q:h.get? b=some a)(n:H b=none)(c:b∉ex):∃sl,h1.get? b=some {a with slots:=sl}:=by
 by_cases d:b∈fs
 .exact u.slot b a q n d c
 .exact⟨a.slots,u.keep b a q n d c⟩
theorem Un.kept (k:∀b u,h.get? b=some u->h'.get? b=some u):Un fs ex H H h h' :=
 ⟨λb a q _ _ _=>k b a q,λb a q _ _ _=>⟨a.slots,k b a q⟩,λ_ _ _ n _=>n,λb a q _=>⟨a,k b a q⟩,λ_ _ q=>q,λ_ _ _ q=>q,λ_ ps q=>⟨#[],by rw[q];simp⟩⟩
theorem Un.refl:Un fs ex H H h h:=Un.kept λ_ _ q=>q
theorem Un.laid (k:∀b u,h.get? b=some u->h'.get? b=some u)(d:h.objs.size<=a)(c:H a=none):Un fs ex H (upd H a o) h h' where
 keep:=λb u q _ _ _=>k b u q
 slot:=λb u q _ _ _=>⟨u.slots,k b u q⟩
 free:=λb u q n _=>by rw[qp (AG (AB (A1 q) d))];exact n
 there:=λb u q _=>⟨u,k b u q⟩
 tups:=λb xs q=>by rw[qp (qaf q c)];exact q
 frzs:=λb u xs q=>by rw[qp (qaf q c)];exact q
 tbls:=λb ps q=>⟨#[],by rw[qp (qaf q c),q];simp⟩
theorem Un.write (a:Mut (H x))(j:e=x\/H e=some (.own x))(k:∀b u,b≠e->h.get? b=some u->h'.get? b=some u)(g:∃u,h'.get? e=some u):Un fs ex H (upd H x o) h h':=by
 have f:∀b,H b=none->b≠x:=λb n z=>by subst z;rw[n]at a;exact a
 have i:∀b,H b=none->b≠e:=λb n z=>by
  subst z;rcases j with r|r
  .exact f b n r
  .rw[n]at r;cases r
 have d:∀b u,H b=some u->¬Mut (some u)->b≠x:=λb u q nm z=>by subst z;rw[q]at a;exact nm a
 refine⟨λb u q n _ _=>k b u (i b n) q,λb u q n _ _=>⟨u.slots,k b u (i b n) q⟩,λb u q n _=>by rw[qp (f b n)];exact n,λb u q _=>?_,
  λb xs q=>by rw[qp (d b _ q λz=>z)];exact q,λb u xs q=>by rw[qp (d b _ q λz=>z)];exact q,λb ps q=>⟨#[],by rw[qp (d b _ q λz=>z),q];simp⟩⟩
 by_cases c:b=e
 .subst c;exact g
 .exact⟨u,k b u c q⟩
end
noncomputable def trk (h:Heap)(H:Hp):List Addr:=(B4 h.objs.size).filter λa=>(H a).isSome
noncomputable def qoa (h:Heap)(H:Hp):Heap:=PySem.W.hideAll h (trk h H)
theorem qtm (h:Heap)(H:Hp):(qoa h H).objs.size=h.objs.size:=PySem.W.hideAll_size _ _
theorem qvh {h:Heap}{H:Hp}{b:Addr}{o:Obj}(e:h.get? b=some o)(n:H b=none):(qoa h H).get? b=some o :=
 PySem.W.hideAll_get _ e λa=>by have q:(H b).isSome=true:=(List.mem_filter.mp a).2;rw[n]at q;simp at q
theorem qyj {h:Heap}{H:Hp}{b:Addr}{o:Obj}(e:(qoa h H).get? b=some o):h.get? b=some o/\H b=none:=by
 have a:h.get? b=some o:=PySem.W.of_hideAll (trk h H) e;refine⟨a,?_⟩;cases q:H b with|none=>rfl|some x =>have c:b∈trk h H:=List.mem_filter.mpr ⟨Dj.mpr (A1 a),by simp[q]⟩;have z:(qoa h H).get? b=none:=PySem.W.hideAll_none (trk h H) c;rw[z]at e;cases e
noncomputable def qyk (g h:Heap)(L:Addr):List (Addr×Obj):=(B4 h.objs.size).filterMap λa=>if a=L\/(g.get? a).isSome=true then none else (h.get? a).map λo=>(a,o)
noncomputable def qbm (g h:Heap)(L d:Addr):List (Addr×Obj):=(qyk g h L).filter λp=>decide (p.1≠d)
end L2
namespace L2
open PySem PySem.Spec PyProof.Rows
structure Mod (K:Ae)(mg:Str->Option Value)(base:Heap):Prop where
 kin:K.In base
 glob:base.Ns A8 mg
 blt:∃mb,base.Ns builtinsNs mb/\∀x:Str,x ≠ "__name__" -> mb x=bootBuiltins x
 nolimit:base.NoLimit
structure Cx where
 prog:AK
 w:World
 K:Ae
 mg:Str->Option Value
 base:Heap
 A:AX
 N:List Str
 s₀:Af
 H₀:Hp
 env:Env
 outer:List Env
 stack:List Env
 ex:List Addr
 fn:Str->Bool
 calm:Bool
 pn:List (Addr×Obj)
 xe:Value->Af->Prop
noncomputable def frs (l:List Env):List Addr:=l.filterMap (·.frame)
noncomputable abbrev Cx.fs (X:Cx):List Addr:=frs X.outer
def Vis (sc:Scope)(x:Str):Prop:=sc.names.lookup x=some .local\/sc.names.lookup x=some .cell\/sc.names.lookup x=some .free
def Loc (sc:Scope)(x:Str):Prop:=sc.names.lookup x=some .local\/sc.names.lookup x=some .cell
def Look (env:Env)(h:Heap)(m:Str->Option Value)(x:Str)(u:Value):Prop :=
 (env.kindOf x=some .local/\m x=some u)\/((env.kindOf x=some .cell\/env.kindOf x=some .free)/\∃c,env.cells.lookup x=some c/\h.IsCell c (some u))
structure Cx.Ok (X:Cx):Prop where
 mod:Mod X.K X.mg X.base
 kind:X.env.scope.kind=.function
 glob:X.env.globals=A8
 blt:X.env.builtins=builtinsNs
 above:X.s₀.heap.objs.size<=X.env.locals
 inj:∀x y c,X.env.cells.lookup x=some c->X.env.cells.lookup y=some c->x=y
 has:∀x,(X.env.kindOf x=some .cell\/X.env.kindOf x=some .free)->∃c,X.env.cells.lookup x=some c
 cab:∀x c,X.fn x=true->X.env.cells.lookup x=some c->X.s₀.heap.objs.size<=c
 hd:X.calm=true->X.A.handled=none
 frames:X.A.frames=some X.stack
 stk:X.stack=X.outer\/(X.stack=X.env::X.outer/\X.env.frame=some X.env.locals)
 exf:∀b∈X.ex,b≠X.env.locals/\∀x c,X.env.cells.lookup x=some c->c≠b
 bs:∀b o,X.base.get? b=some o->X.s₀.heap.get? b=some o/\X.H₀ b=none
 bsz:X.base.objs.size<=X.s₀.heap.objs.size
 noex:∀b o,X.base.get? b=some o->b∉X.ex
 exfs:∀b∈X.ex,b∉X.fs
 funs:X.s₀.heap.FunFrames X.base X.outer
 frf:∀b∈X.fs,X.H₀ b=none
structure Inv (X:Cx)(pins:List (Addr×Obj))(σ:List (Option V))(H:Hp)(s:Af):Prop where
 ok:X.Ok
 os:s.os=X.s₀.os
 bare:AllBare s.gens
 base:Un X.fs X.ex X.H₀ H X.s₀.heap s.heap
 loc:∃m,s.heap.Ns X.env.locals m/\∀(i:Nat)(x:Str)(v:V),X.N[i]?=some x->σ[i]?=some (some v)->Vis X.env.scope x->∃u,RelV v u/\Look X.env s.heap m x u
 cell:∀x c,X.env.cells.lookup x=some c->∃v,s.heap.IsCell c v
 free:H X.env.locals=none
 freeC:∀x c,X.env.cells.lookup x=some c->H c=none
 pin:∀p∈X.pn++pins,s.heap.get? p.1=some p.2/\H p.1=none/\p.1≠X.env.locals/\p.1∉X.fs/\∀v,p.2.data ≠ .cell v
 hok:HOk X.prog X.w H s.heap
 len:σ.length=X.N.length
section
variable {X:Cx}{pins:List (Addr×Obj)}{σ:List (Option V)}{H H':Hp}{s:Af}{h':Heap}
theorem Cx.Ok.nofr (ok:X.Ok){b:Addr}{o:Obj}(e:X.base.get? b=some o):b∉X.fs:=λa=>by have:=(ok.funs.mem a).1;rw[e]at this;cases this
theorem Inv.bs (I:Inv X pins σ H s):∀b o,X.base.get? b=some o->s.heap.get? b=some o/\H b=none:=λb o e =>
 ⟨I.base.keep b o (I.ok.bs b o e).1 (I.ok.bs b o e).2 (I.ok.nofr e) (I.ok.noex b o e),I.base.free b o (I.ok.bs b o e).1 (I.ok.bs b o e).2 (I.ok.noex b o e)⟩
theorem Inv.bk (I:Inv X pins σ H s):∀b o,X.base.get? b=some o->s.heap.get? b=some o:=λb o e=>(I.bs b o e).1
theorem Inv.mod (I:Inv X pins σ H s):Mod X.K X.mg X.base:=I.ok.mod
theorem Inv.kIn (I:Inv X pins σ H s):X.K.In s.heap:=I.ok.mod.kin.keeps I.bk
theorem Inv.lt (I:Inv X pins σ H s):X.env.locals<s.heap.objs.size:=let ⟨_,hn,_⟩:=I.loc;hn.lt
theorem Inv.sz (I:Inv X pins σ H s):X.s₀.heap.objs.size<=s.heap.objs.size:=A3 I.ok.above (DD I.lt)
theorem Inv.nofs (I:Inv X pins σ H s){a:Addr}(h:s.heap.objs.size<=a):a∉X.fs:=λc=>by obtain⟨_,o,b,_⟩:=I.ok.funs.mem c;exact absurd (AB (A1 b) (A3 I.sz h)) (BJ _)
theorem Inv.cne (I:Inv X pins σ H s):∀x c,X.env.cells.lookup x=some c->c≠X.env.locals:=λx c e z=>by obtain⟨v,o,d,hd⟩:=I.cell x c e;obtain⟨m,⟨o',es,ep,a,b,_⟩,_⟩:=I.loc;rw[z,a]at d;cases d;rw[b]at hd;cases hd
theorem Inv.funs (I:Inv X pins σ H s):s.heap.FunFrames X.base X.outer:=by
 have all:∀(l:List Env),(∀b∈frs l,b∈X.fs)->X.s₀.heap.FunFrames X.base l->s.heap.FunFrames X.base l:=by
  intro l
  induction l with
  |nil=>intro _ _;trivial
  |cons env r ih =>intro f hl;obtain⟨hk,⟨L,o,d,i,g,hd⟩,h⟩:=hl;have c:L∈X.fs:=f L (by unfold frs;rw[Df,d];exact Am);obtain⟨sl,e⟩:=I.base.slot L o g (I.ok.frf L c) c λz=>I.ok.exfs L z c;exact⟨hk,⟨L,_,d,i,e,hd⟩,ih (λb a=>f b (by unfold frs;rw[Df,d];exact Ar _ a)) h⟩
 exact all X.outer (λ_ a=>a) I.ok.funs
theorem Inv.stack (I:Inv X pins σ H s):s.heap.FunFrames X.base X.stack:=by
 rcases I.ok.stk with e|⟨e,b⟩
 .rw[e];exact I.funs
 .rw[e];obtain⟨m,a,_⟩:=I.loc;refine .cons (by rw[I.ok.kind];decide) b a ?_ I.funs;exact Heap.get?_none_of_le (A3 I.ok.bsz I.ok.above)
theorem Inv.stkSub (I:Inv X pins σ H s):∀b∈frs X.stack,b∈X.env.locals::X.fs:=λb a=>by
 rcases I.ok.stk with e|⟨e,c⟩
 .rw[e]at a;exact Ar _ a
 .rw[e]at a;unfold frs at a;rw[Df,c]at a;exact a
theorem Inv.stkFree (I:Inv X pins σ H s):∀b∈frs X.stack,H b=none:=λb a=>by
 rcases An.mp (I.stkSub b a) with e|a
 .rw[e];exact I.free
 .obtain⟨_,o,c,_⟩:=I.ok.funs.mem a;exact I.base.free b o c (I.ok.frf b a) λz=>I.ok.exfs b z a
theorem Inv.step {g':Array GenState}{t':Nat}{d':Drawn}{ch:List Addr}(I:Inv X pins σ H s)
  (h:∀b∈ch,(b∈X.ex\/X.s₀.heap.objs.size<=b)/\b≠X.env.locals/\(∀x c,X.env.cells.lookup x=some c->c≠b)/\∀p∈X.pn++pins,p.1≠b)
  (keep:∀b o,b≠X.env.locals->b∉X.fs->b∉ch->s.heap.get? b=some o->H b=none->h'.get? b=some o)
  (slot:∀b o,b≠X.env.locals->b∈X.fs->b∉ch->s.heap.get? b=some o->H b=none->∃sl,h'.get? b=some {o with slots:=sl})(free:∀b o,b∉ch->s.heap.get? b=some o->H b=none->H' b=none)
  (there:∀b o,b∉ch->s.heap.get? b=some o->∃o',h'.get? b=some o')
  (tups:∀b xs,H b=some (.tup xs)->H' b=some (.tup xs))(frzs:∀b o u,H b=some (.frz o u)->H' b=some (.frz o u))(tbls:∀b ps,H b=some (.tbl ps)->∃qcj,H' b=some (.tbl (ps++qcj)))
  (ns:∀m,s.heap.Ns X.env.locals m->h'.Ns X.env.locals m)(hok:HOk X.prog X.w H' h')(hg:AllBare g') :
  Inv X pins σ H' {s with heap:=h',gens:=g',drawn:=d',toks:=t'}:=by
 have C:∀b o,X.s₀.heap.get? b=some o->b≠X.env.locals:=λb o e=>AG (AB (A1 e) I.ok.above);have t:∀b o,X.s₀.heap.get? b=some o->b∉X.ex->b∉ch:=λb o e a j=>by
  rcases (h b j).1 with z|z
  .exact a z
  .exact absurd (AB (A1 e) z) (BJ _)
 have y:∀x c,X.env.cells.lookup x=some c->∀v,s.heap.IsCell c v->h'.IsCell c v:=λx c e v ⟨o,A,hd⟩=>by
  have g:c∉ch:=λz=>(h c z).2.2.1 x c e rfl;by_cases E:c∈X.fs
  .obtain⟨sl,q⟩:=slot c o (I.cne x c e) E g A (I.freeC x c e);exact⟨_,q,hd⟩
  .exact⟨o,keep c o (I.cne x c e) E g A (I.freeC x c e),hd⟩
 refine⟨I.ok,I.os,hg,⟨λb o e n j a=>?_,λb o e n j a=>?_,λb o e n a=>?_,λb o e a=>?_,λb xs e=>tups b xs (I.base.tups b xs e),λb o xs e=>frzs b o xs (I.base.frzs b o xs e),λb ps e=>?_⟩,?_,λx c e=>?_,?_,λx c e=>?_,λp J=>?_,hok,I.len⟩
 .exact keep b o (C b o e) j (t b o e a) (I.base.keep b o e n j a) (I.base.free b o e n a)
 .obtain⟨sl,f⟩:=I.base.slot b o e n j a;obtain⟨F,B⟩:=slot b _ (C b o e) j (t b o e a) f (I.base.free b o e n a);exact⟨F,B⟩
 .obtain⟨o',f⟩:=I.base.there b o e a;exact free b o' (t b o e a) f (I.base.free b o e n a)
 .obtain⟨o',f⟩:=I.base.there b o e a;exact there b o' (t b o e a) f
 .obtain⟨M,f⟩:=I.base.tbls b ps e;obtain⟨K,B⟩:=tbls b _ f;exact⟨M++K,by rw[B,Array.append_assoc]⟩
 .obtain⟨m,L,hl⟩:=I.loc;refine⟨m,ns m L,λi x v f B N=>?_⟩;obtain⟨u,r,l⟩:=hl i x v f B N;refine⟨u,r,?_⟩;rcases l with l|⟨k,c,e,z⟩
  .exact .inl l
  .exact .inr ⟨k,c,e,y x c e _ z⟩
 .obtain⟨v,z⟩:=I.cell x c e;exact⟨v,y x c e v z⟩
 .obtain⟨m,⟨o,_,_,A,_⟩,_⟩:=I.loc;exact free _ o (λz=>(h _ z).2.1 Z) A I.free
 .obtain⟨v,o,A,hd⟩:=I.cell x c e;exact free c o (λz=>(h c z).2.2.1 x c e Z) A (I.freeC x c e)
 .obtain⟨e,n,D,G,d⟩:=I.pin p J;have g:p.1∉ch:=λz=>(h p.1 z).2.2.2 p J rfl;exact⟨keep p.1 p.2 D G g e n,free p.1 p.2 g e n,D,G,d⟩
theorem Inv.un {t':Nat}(I:Inv X pins σ H s)(u:Un X.fs [] H H' s.heap h')(g:HOk X.prog X.w H' h'):Inv X pins σ H' {s with heap:=h',toks:=t'}:=by obtain⟨m,⟨o,es,ep,d,r⟩,_⟩:=id I.loc;obtain⟨sl,h⟩:=u.any d I.free (by simp);exact I.step (g':=s.gens) (d':=s.drawn) (ch:=[]) (λ_ z=>nomatch z) (λb o _ c _ e n=>u.keep b o e n c (by simp)) (λb o _ c _ e n=>u.slot b o e n c (by simp)) (λb o _ e n=>u.free b o e n (by simp)) (λb o _ e=>u.there b o e (by simp)) u.tups u.frzs u.tbls (λm' i=>by obtain⟨o',es',f,a,r'⟩:=i;rw[d]at a;cases a;exact⟨_,es',f,h,r'⟩) g I.bare
theorem Inv.call {g':Array GenState}{t':Nat}{d':Drawn}{ch:List Addr}(I:Inv X pins σ H s)(u:Un (frs X.stack) ch H H' s.heap h')(j:HOk X.prog X.w H' h')(q:AllBare g')
  (f:∀b∈ch,(b∈X.ex\/X.s₀.heap.objs.size<=b)/\b≠X.env.locals/\(∀x c,X.env.cells.lookup x=some c->c≠b)/\∀p∈X.pn++pins,p.1≠b) :
  Inv X pins σ H' {s with heap:=h',gens:=g',drawn:=d',toks:=t'}:=by
 obtain⟨m,⟨o,es,ep,h,r⟩,_⟩:=id I.loc;obtain⟨sl,g⟩:=u.any h I.free λz=>(f _ z).2.1 rfl;exact I.step (ch:=ch) f (λb o g k a e n=>u.keep b o e n (λz=>(An.mp (I.stkSub b z)).elim g k) a) (λb o _ _ a e n=>u.any e n a) (λb o a e n=>u.free b o e n a) (λb o a e=>u.there b o e a) u.tups u.frzs u.tbls (λm' l=>by obtain⟨o',es',i,d,r'⟩:=l;rw[h]at d;cases d;exact⟨_,es',i,g,r'⟩) j q
theorem Inv.turned {t':Nat}{it:Addr}(I:Inv X pins σ H s)(k:∀b o,b≠it->s.heap.get? b=some o->h'.get? b=some o)(t:H it=none)(f:it≠X.env.locals)
  (i:it∈X.ex\/X.s₀.heap.objs.size<=it)(g:∀x c,X.env.cells.lookup x=some c->c≠it)(l:∀p∈X.pn++pins,p.1≠it):Inv X pins σ H {s with heap:=h',toks:=t'}:=by
 have d:∀b u,H b=some u->b≠it:=λb u e z=>by rw[z,t]at e;cases e
 refine I.step (g':=s.gens) (d':=s.drawn) (ch:=[it]) (λb h=>?_) (λb o _ _ a e _=>k b o (λz=>a (by simp[z])) e) (λb o _ _ a e _=>⟨o.slots,k b o (λz=>a (by simp[z])) e⟩) (λ_ _ _ _ n=>n)
  (λb o a e=>⟨o,k b o (λz=>a (by simp[z])) e⟩) (λ_ _ e=>e) (λ_ _ _ e=>e) (λb ps e=>⟨#[],by rw[e];simp⟩) (λm w=>?_) (λb u e=>?_) I.bare
 .have e:b=it:=by simpa using h
  subst e;exact⟨i,f,g,l⟩
 .obtain⟨o,es,ep,j,r⟩:=w;exact⟨o,es,ep,k _ o (Ba f) j,r⟩
 .refine(I.hok b u e).stay (λc v a q=>k c v ?_ q) (λ_ q=>q) λ_ _ q=>q;rcases a with z|z
  .rw[z];exact d b u e
  .exact d c _ z
theorem Inv.tok (I:Inv X pins σ H s)(t:Nat):Inv X pins σ H {s with toks:=t}:=I.un (h':=s.heap) (t':=t) Un.refl I.hok
theorem Inv.kept {t':Nat}(I:Inv X pins σ H s)(k:∀b u,s.heap.get? b=some u->h'.get? b=some u):Inv X pins σ H {s with heap:=h',toks:=t'}:=I.un (Un.kept k) (I.hok.kept k)
theorem Inv.laid {a:Addr}{o:HO}{t':Nat}(I:Inv X pins σ H s)(k:∀b u,s.heap.get? b=some u->h'.get? b=some u)(c:s.heap.objs.size<=a)(d:ObjOk X.prog X.w (upd H a o) h' a o) :
  Inv X pins σ (upd H a o) {s with heap:=h',toks:=t'}:=I.un (Un.laid k c (I.hok.fresh c)) (I.hok.laid k c d)
theorem Inv.write {x e:Addr}{o:HO}{t':Nat}(I:Inv X pins σ H s)(d:Mut (H x))(c:e=x\/H e=some (.own x))(k:∀b u,b≠e->s.heap.get? b=some u->h'.get? b=some u)(a:∃u,h'.get? e=some u)
  (f:ObjOk X.prog X.w (upd H x o) h' x o):Inv X pins σ (upd H x o) {s with heap:=h',toks:=t'}:=I.un (Un.write d c k a) (I.hok.write d c k a f)
theorem Inv.pins_of {a:List (Addr×Obj)}(I:Inv X pins σ H s)(h:∀p∈a,s.heap.get? p.1=some p.2/\H p.1=none/\p.1≠X.env.locals/\p.1∉X.fs/\∀v,p.2.data ≠ .cell v):Inv X a σ H s :=
 ⟨I.ok,I.os,I.bare,I.base,I.loc,I.cell,I.free,I.freeC,λp b=>(Az.mp b).elim (λz=>I.pin p (Bk _ z)) (h p),I.hok,I.len⟩
theorem qla {N:List Str}(d:N.Nodup){i j:Nat}{x:Str}(a:N[i]?=some x)(b:N[j]?=some x):i=j:=by obtain⟨h1,e⟩:=Ah.mp a;obtain⟨h2,c⟩:=Ah.mp b;exact(List.getElem_inj d).mp (e.trans c.symm)
theorem qtn {M:Model}{A:AX}{E:Value->Af->Prop}{i:Nat}{x:Str}{v:V}{u:Value}{Q:Unit->Af->Prop}(I:Inv X pins σ H s)(hN:X.N.Nodup)(K:X.N[i]?=some x)(t:Loc X.env.scope x)(r:RelV v u)
  (h:∀s',Inv X pins (σ.set i (some v)) H s'->(∃a,Bf a s.heap s'.heap/\(a=X.env.locals\/X.env.cells.lookup x=some a))->Q () s')(hf:X.fn x=true\/X.env.scope.names.lookup x=some .local:=by first|exact .inl rfl|exact .inr rfl|assumption):wpAny M A (storeName X.env x u) Q E s:=by
 obtain⟨m,hn,hl⟩:=id I.loc;have aa:(X.env.scope.kind == .class || (X.env.scope.kind == .module && X.env.locals != X.env.globals))=false:=by rw[I.ok.kind];rfl
 have U:i<σ.length:=by rw[I.len];exact(Ah.mp K).1
 have cne:=I.cne;have B:∀{a:Addr}{h':Heap},(∃o,s.heap.get? a=some o/\H a=none)->Bf a s.heap h'->HOk X.prog X.w H h':=λ{a h'} ha f b ob e=>by
  obtain⟨_,_,G⟩:=ha;refine(I.hok b ob e).stay (λc P l q=>(f.2 c ?_).trans q) (λ_ q=>q) λ_ _ q=>q;rintro rfl;rcases l with rfl|l
  .rw[G]at e;cases e
  .rw[G]at l;cases l
 rcases t with hk|hk
 .refine wpAny_storeName_local hk hn (λh' ad f=>?_) aa;obtain⟨oL,_,_,ac,_⟩:=id hn;refine h _ ⟨I.ok,I.os,I.bare,⟨λb o e n D t=>?_,λb o e n D t=>?_,I.base.free,λb o e t=>?_,I.base.tups,I.base.frzs,I.base.tbls⟩,⟨_,ad,λj y v' g C W=>?_⟩,λy c e=>?_,I.free,I.freeC,λp hp=>?_,B ⟨oL,ac,I.free⟩ f,by simpa using I.len⟩ ⟨_,f,.inl Z⟩
  .exact(f.2 b (AG (AB (A1 e) I.ok.above))).trans (I.base.keep b o e n D t)
  .obtain⟨sl,g⟩:=I.base.slot b o e n D t;exact⟨sl,(f.2 b (AG (AB (A1 e) I.ok.above))).trans g⟩
  .obtain⟨o',g⟩:=I.base.there b o e t;exact⟨o',(f.2 b (AG (AB (A1 e) I.ok.above))).trans g⟩
  .by_cases F:j=i
   .subst F;rw[K]at g;cases g;rw[Cj U]at C;cases C;exact⟨u,r,.inl ⟨hk,by simp⟩⟩
   .rw[CS (Ba F)]at C;obtain⟨u',r',q⟩:=hl j y v' g C W;refine⟨u',r',?_⟩;rcases q with ⟨k,e⟩|⟨k,c,e,z⟩
    .refine .inl ⟨k,?_⟩;have:y≠x:=λe=>F (qla hN g (e ▸ K));simp[this,e]
    .exact .inr ⟨k,c,e,z.sameBut f (cne y c e)⟩
  .obtain⟨P,z⟩:=I.cell y c e;exact⟨P,z.sameBut f (cne y c e)⟩
  .obtain⟨e,n,L,nf,d⟩:=I.pin p hp;exact⟨(f.2 p.1 L).trans e,n,L,nf,d⟩
 .have J:X.fn x=true:=by
   rcases hf with z|z
   .exact z
   .rw[z]at hk;cases hk
  obtain⟨c,l⟩:=I.ok.has x (.inl hk)
  obtain⟨P,z⟩:=I.cell x c l
  refine wpAny_storeName_cell I.ok.kind hk l z (λh' S f=>?_)
  obtain⟨oc,R,Y⟩:=id z
  refine h {s with heap:=h'} ⟨I.ok,I.os,I.bare,⟨λb o e n D t=>?_,λb o e n D t=>?_,I.base.free,λb o e t=>?_,I.base.tups,I.base.frzs,I.base.tbls⟩,⟨m,hn.sameBut f (Ba (cne x c l)),λj y v' g C W=>?_⟩,λy O e=>?_,I.free,I.freeC,λp hp=>?_,B ⟨oc,R,I.freeC x c l⟩ f,by simpa using I.len⟩ ⟨c,f,.inr l⟩
  .exact(f.2 b (AG (AB (A1 e) (I.ok.cab x c J l)))).trans (I.base.keep b o e n D t)
  .obtain⟨sl,g⟩:=I.base.slot b o e n D t;exact⟨sl,(f.2 b (AG (AB (A1 e) (I.ok.cab x c J l)))).trans g⟩
  .obtain⟨o',g⟩:=I.base.there b o e t;exact⟨o',(f.2 b (AG (AB (A1 e) (I.ok.cab x c J l)))).trans g⟩
  .by_cases F:j=i
   .subst F;rw[K]at g;cases g;rw[Cj U]at C;cases C;exact⟨u,r,.inr ⟨.inl hk,c,l,S⟩⟩
   .rw[CS (Ba F)]at C;obtain⟨u',r',q⟩:=hl j y v' g C W;refine⟨u',r',?_⟩;rcases q with q|⟨k,O,e,z'⟩
    .exact .inl q
    .refine .inr ⟨k,O,e,z'.sameBut f ?_⟩;rintro rfl;exact F (qla hN g (I.ok.inj _ _ _ e l ▸ K))
  .by_cases T:O=c
   .subst T;exact⟨_,S⟩
   .obtain⟨w2,z2⟩:=I.cell y O e;exact⟨w2,z2.sameBut f T⟩
  .obtain⟨e,n,L,nf,d⟩:=I.pin p hp;refine⟨(f.2 p.1 ?_).trans e,n,L,nf,d⟩;intro q;rw[q,R]at e;have q':oc=p.2:=A9 e;exact d P (by rw[<- q'];exact Y)
theorem qix {M:Model}{A:AX}{E:Value->Af->Prop}{i:Nat}{x:Str}{v:V}{u:Value}{Q:Unit->Af->Prop}(I:Inv X pins σ H s)(c:X.N.Nodup)(e:X.N[i]?=some x)(b:Loc X.env.scope x)(r:RelV v u)
  (h:∀a,Inv X pins (σ.set i (some v)) H a->Q () a)(f:X.fn x=true\/X.env.scope.names.lookup x=some .local:=by first|exact .inl rfl|exact .inr rfl|assumption):wpAny M A (storeName X.env x u) Q E s :=
 qtn I c e b r (λa d _=>h a d) f
theorem Inv.call' {a:Af}{ch:List Addr}(I:Inv X pins σ H s)(h:a.os=s.os)(u:Un (frs X.stack) ch H H' s.heap a.heap)(f:HOk X.prog X.w H' a.heap)(g:AllBare a.gens)
  (d:∀b∈ch,(b∈X.ex\/X.s₀.heap.objs.size<=b)/\b≠X.env.locals/\(∀x c,X.env.cells.lookup x=some c->c≠b)/\∀p∈X.pn++pins,p.1≠b):Inv X pins σ H' a:=by
 obtain⟨h',g',d',t',o'⟩:=a;have e:o'=s.os:=h;subst e;exact I.call (g':=g') (t':=t') (d':=d') u f g d
end
abbrev XK:=Value->Option Addr->Hp->Prop
noncomputable abbrev St:=List (Option V)
abbrev VK:=V->Hp->Prop
abbrev TE:=St->Hp->VK->Prop
abbrev TT:=St->Hp->(Bool->Hp->Prop)->Prop
abbrev TA:=St->Hp->(List V->Hp->Prop)->Prop
structure Ends where
 nx:St->Hp->Prop
 rt:VK
 bk:St->Hp->Prop:=λ_ _=>False
 ct:St->Hp->Prop:=λ_ _=>False
abbrev TS:=Ends->St->Hp->Prop
def EP (X:Cx)(pins:List (Addr×Obj))(σ:St)(Q:VK)(u:Value)(s':Af):Prop:=∃v H',Inv X pins σ H' s'/\RelV v u/\Q v H'
def TP (X:Cx)(pins:List (Addr×Obj))(σ:St)(Q:Bool->Hp->Prop)(b:Bool)(s':Af):Prop:=∃H',Inv X pins σ H' s'/\Q b H'
def AP (X:Cx)(pins:List (Addr×Obj))(σ:St)(Q:List V->Hp->Prop)(us:List Value)(s':Af):Prop:=∃vs H',Inv X pins σ H' s'/\Vals vs us/\Q vs H'
def SP (X:Cx)(pins:List (Addr×Obj))(D:Ends)(f:Flow)(s':Af):Prop :=
 match f with
 |.next=>∃σ' H',Inv X pins σ' H' s'/\D.nx σ' H'
 |.brk=>∃σ' H',Inv X pins σ' H' s'/\D.bk σ' H'
 |.cont=>∃σ' H',Inv X pins σ' H' s'/\D.ct σ' H'
 |.ret u=>∃v σ' H',Inv X pins σ' H' s'/\RelV v u/\D.rt v H'
def PE (X:Cx)(e:Expr)(t:TE):Prop :=
 ∀(pins:List (Addr×Obj))(s:Af)(σ:St)(H:Hp)(Q:VK),Inv X pins σ H s->t σ H Q->wpAny (model X.prog X.w) X.A (eval e X.env) (EP X pins σ Q) X.xe s
def PT (X:Cx)(e:Expr)(t:TT):Prop :=
 ∀(pins:List (Addr×Obj))(s:Af)(σ:St)(H:Hp)(Q:Bool->Hp->Prop),Inv X pins σ H s->t σ H Q->wpAny (model X.prog X.w) X.A (isTrue e X.env (eval e X.env)) (TP X pins σ Q) X.xe s
def PW (X:Cx)(e:Expr)(t:TT):Prop :=
 ∀(whole:Sem Value)(pins:List (Addr×Obj))(s:Af)(σ:St)(H:Hp)(Q:Bool->Hp->Prop),Inv X pins σ H s->t σ H Q->wpAny (model X.prog X.w) X.A (isTrue e X.env whole) (TP X pins σ Q) X.xe s
theorem PW.pt {X:Cx}{e:Expr}{t:TT}(h:PW X e t):PT X e t:=h _
def PA (X:Cx)(es:List Expr)(t:TA):Prop :=
 ∀(pos:Pos)(pins:List (Addr×Obj))(s:Af)(σ:St)(H:Hp)(Q:List V->Hp->Prop),Inv X pins σ H s->t σ H Q->wpAny (model X.prog X.w) X.A (spliced (backTo pos (starEach es X.env))) (AP X pins σ Q) X.xe s
def PS (X:Cx)(st:Stmt)(t:TS):Prop :=
 ∀(pins:List (Addr×Obj))(s:Af)(σ:St)(H:Hp)(D:Ends),Inv X pins σ H s->t D σ H->wpAny (model X.prog X.w) X.A (exec st X.env) (SP X pins D) X.xe s
def PSs (X:Cx)(st:List Stmt)(t:TS):Prop :=
 ∀(pins:List (Addr×Obj))(s:Af)(σ:St)(H:Hp)(D:Ends),Inv X pins σ H s->t D σ H->wpAny (model X.prog X.w) X.A (execs st X.env) (SP X pins D) X.xe s
theorem thn {α:Type}{t:Sem α}{Q b:α->Af->Prop}{M:Model}{A:AX}{E:Value->Af->Prop}{s:Af}(h:wpAny M A t Q E s)(c:∀a s,Q a s->b a s):wpAny M A t b E s:=Cf h c λ_ _ x=>x
end L2
namespace L2
open PySem PySem.Spec PyProof.Rows
section
variable {X:Cx}
def tVar (i:Nat):TE:=λσ H Q=>∃v,σ[i]?=some (some v)/\Q v H
def tC (v:V):TE:=λ_ H Q=>Q v H
theorem pe_var {i:Nat}{x:Str}{pos:Pos}(g:X.N[i]?=some x)(n:Vis X.env.scope x)(hd:(x == ("__debug__" : Str))=false:=by decide)(hcd:(x == ("__classdict__" : Str))=false:=by decide):PE X (.Name x pos) (tVar i):=by
 intro d s σ H Q I h;obtain⟨v,e,h⟩:=h;obtain⟨m,j,hl⟩:=I.loc;obtain⟨u,r,l⟩:=hl i x v g e n;have b:EP X d σ Q u s:=⟨v,H,I,r,h⟩;rcases l with ⟨hk,k⟩|⟨hk,c,f,a⟩
 .exact wpAny_Name (wpAny_loadName_local I.ok.kind hk j k b) hd
 .rcases hk with hk|hk
  .exact wpAny_Name (wpAny_loadName_cell I.ok.kind hk f a b) hd
  .exact wpAny_Name (wpAny_loadName_free I.ok.kind hk f a b hcd) hd
theorem qg {i j pos}:PE X (.Constant (.int i) j pos) (tC (.int i)):=λ_ _ _ H _ I h=>wpAny_Constant_int ⟨.int i,H,I.tok _,⟨_,Z⟩,h⟩
theorem qdr {b j pos}:PE X (.Constant (.bool b) j pos) (tC (.bl b)):=λ_ _ _ H _ I h=>Constant_bool ⟨.bl b,H,I,Z,h⟩
theorem qas {j pos}:PE X (.Constant .none j pos) (tC .non):=λ_ _ _ H _ I h=>Constant_none ⟨.non,H,I,Z,h⟩
theorem zi {x j pos}:PE X (.Constant (.str x) j pos) (tC (.str x)):=λ_ _ _ H _ I h=>Calls.Constant_str ⟨.str x,H,I.tok _,⟨_,Z⟩,h⟩
def Gl (X:Cx)(x:Str):Prop:=X.env.kindOf x=some .globalImplicit
theorem qfs {E:Value->Af->Prop}{a:List (Addr×Obj)}{s:Af}{σ:St}{H:Hp}{x:Str}{u:Value}{pos:Pos}{Q:Value->Af->Prop}(I:Inv X a σ H s)(c:Gl X x)(b:X.mg x=some u)(h:Q u s)
  (hd:(x == ("__debug__" : Str))=false:=by decide):wpAny (model X.prog X.w) X.A (eval (.Name x pos) X.env) Q E s :=
 Calls.Name_function_global I.ok.kind c (Calls.loadGlobal_global (by rw[I.ok.glob];exact I.mod.glob.keeps I.bk) b h) hd
theorem qez {E:Value->Af->Prop}{a:List (Addr×Obj)}{s:Af}{σ:St}{H:Hp}{x:Str}{u:Value}{pos:Pos}{Q:Value->Af->Prop}(I:Inv X a σ H s)(c:Gl X x)(b:X.mg x=none)(g:bootBuiltins x=some u)(h:Q u s)
  (f:x ≠ "__name__" := by decide)(hd:(x == ("__debug__" : Str))=false:=by decide):wpAny (model X.prog X.w) X.A (eval (.Name x pos) X.env) Q E s:=by
 obtain⟨mb,d,e⟩:=I.mod.blt;exact Calls.Name_function_global I.ok.kind c (Calls.loadGlobal_builtin (by rw[I.ok.glob];exact I.mod.glob.keeps I.bk) b (by rw[I.ok.blt];exact d.keeps I.bk) ((e x f).trans g) h) hd
theorem qbs {x:Str}{v:V}{u:Value}{pos:Pos}(b:Gl X x)(a:X.mg x=some u)(r:RelV v u)(hd:(x == ("__debug__" : Str))=false:=by decide):PE X (.Name x pos) (tC v) :=
 λ_ _ _ H _ I h=>qfs I b a ⟨v,H,I,r,h⟩ hd
theorem qdy {x:Str}{v:V}{u:Value}{pos:Pos}(b:Gl X x)(a:X.mg x=none)(d:bootBuiltins x=some u)(r:RelV v u)(c:x ≠ "__name__" := by decide)(hd:(x == ("__debug__" : Str))=false:=by decide):PE X (.Name x pos) (tC v) :=
 λ_ _ _ H _ I h=>qez I b a d ⟨v,H,I,r,h⟩ c hd
variable {a b:Expr}{ta tb:TE}{pos:Pos}
def PC (X:Cx)(op:CmpOp)(a b:Expr)(t:TE):Prop :=
 ∀(pins:List (Addr×Obj))(s:Af)(σ:St)(H:Hp)(Q:VK),Inv X pins σ H s->t σ H Q ->
  wpAny (model X.prog X.w) X.A (eval a X.env) (λv s₁=>wpAny (model X.prog X.w) X.A (eval b X.env) (λu s₂=>wpAny (model X.prog X.w) X.A (compareOp op v u) (EP X pins σ Q) X.xe s₂) X.xe s₁) X.xe s
def tB (t:TE):TT:=λσ H Q=>t σ H λx H1=>∃c,x=.bl c/\Q c H1
theorem qlb {g:CmpOp}{t:TE}(h:PC X g a b t)(e:behindInMarks g b=false:=by first|exact nobehind _ Ez Ez|rfl):PT X (.Compare a [g] [b] pos) (tB t):=by intro f s σ H Q I m;refine wpAny_isTrue_Compare1 (thn (h f s σ H _ I m) λv s1 e=>thn e λu s2 k=>thn k λc s3 i=>?_) e;obtain⟨x,j,o,l,n⟩:=i;obtain⟨d,rfl,q⟩:=n;cases l;exact BQ ⟨j,o,q⟩
theorem zh {e:Expr}{t:TE}(h:PE X e t)(c:∀whole,isTrue e X.env whole=(do let v <- whole;standAt e.pos;holding [v] (truthy v)):=by intro _;rfl):PT X e (tB t):=by intro a s σ H Q I i;refine isTrue_plain (thn (h a s σ H _ I i) λv s1 b=>?_) (c _);obtain⟨x,f,k,g,j⟩:=b;obtain⟨d,rfl,q⟩:=j;cases g;exact BQ ⟨f,k,q⟩
variable {tA tB':TT}{qbm:List Expr}
def tAnd (t u:TT):TT:=λσ H Q=>t σ H λc H1=>if c=true then u σ H1 Q else Q false H1
def tOr (t u:TT):TT:=λσ H Q=>t σ H λc H1=>if c=true then Q true H1 else u σ H1 Q
def tNot (t:TT):TT:=λσ H Q=>t σ H λc H1=>Q (!c) H1
theorem qdz (d:PT X a tA):PW X (.BoolOp .And [a] pos) tA:=by
 intro wh b s σ H Q I h;refine isTrue_and (thn (d b s σ H Q I h) λc s1 e=>?_);cases c with|true=>exact isTrue_and_nil e|false=>exact e
theorem qdp (d:PT X a tA):PW X (.BoolOp .Or [a] pos) tA:=by
 intro wh b s σ H Q I h;refine isTrue_or (thn (d b s σ H Q I h) λc s1 e=>?_);cases c with|false=>exact isTrue_or_nil e|true=>exact e
theorem qdq (j:PT X a tA)(k:PW X (.BoolOp .And (b::qbm) pos) tB'):PW X (.BoolOp .And (a::b::qbm) pos) (tAnd tA tB'):=by
 intro m d s σ H Q I h;refine isTrue_and (thn (j d s σ H _ I h) λc l i=>?_);obtain⟨g,e,f⟩:=i;cases c with|true=>exact k m d l σ g Q e f|false=>exact⟨g,e,f⟩
theorem qdb (j:PT X a tA)(k:PW X (.BoolOp .Or (b::qbm) pos) tB'):PW X (.BoolOp .Or (a::b::qbm) pos) (tOr tA tB'):=by
 intro m d s σ H Q I h;refine isTrue_or (thn (j d s σ H _ I h) λc l i=>?_);obtain⟨g,e,f⟩:=i;cases c with|true=>exact⟨g,e,f⟩|false=>exact k m d l σ g Q e f
theorem qe0 (e:PT X a tA):PT X (.UnaryOp .Not a pos) (tNot tA):=by intro b s σ H Q I h;exact isTrue_not (e b s σ H (λc d=>Q (!c) d) I h)
def tAndV (ta tb:TE):TE:=λσ H Q=>ta σ H λx H1=>∃c,x=.bl c/\if c=true then tb σ H1 Q else Q (.bl false) H1
def tOrV (ta tb:TE):TE:=λσ H Q=>ta σ H λx H1=>∃c,x=.bl c/\if c=true then Q (.bl true) H1 else tb σ H1 Q
def tNotV (ta:TE):TE:=λσ H Q=>ta σ H λx H1=>∃c,x=.bl c/\Q (.bl (!c)) H1
theorem qe1 {op}{t:TE}(h:PE X a t):PE X (.BoolOp op [a] pos) t:=λb s σ H Q I c=>BoolOp_one (h b s σ H Q I c)
theorem qd9 (k:PE X a ta)(l:PE X (.BoolOp .And (b::qbm) pos) tb):PE X (.BoolOp .And (a::b::qbm) pos) (tAndV ta tb):=by
 intro d s σ H Q I h;refine BoolOp_and (thn (k d s σ H _ I h) λv m g=>?_);obtain⟨x,f,i,j,e⟩:=g;obtain⟨c,rfl,e⟩:=e;cases j;refine BQ ?_;cases c with|true=>exact l d m σ f Q i e|false=>exact⟨.bl false,f,i,Z,e⟩
theorem pe_or (k:PE X a ta)(l:PE X (.BoolOp .Or (b::qbm) pos) tb):PE X (.BoolOp .Or (a::b::qbm) pos) (tOrV ta tb):=by
 intro d s σ H Q I h;refine BoolOp_or (thn (k d s σ H _ I h) λv m g=>?_);obtain⟨x,f,i,j,e⟩:=g;obtain⟨c,rfl,e⟩:=e;cases j;refine BQ ?_;cases c with|false=>exact l d m σ f Q i e|true=>exact⟨.bl true,f,i,Z,e⟩
theorem qlc (j:PE X a ta):PE X (.UnaryOp .Not a pos) (tNotV ta):=by intro d s σ H Q I h;refine UnaryOp_ (thn (j d s σ H _ I h) λv s1 e=>?_);obtain⟨x,g,f,i,b⟩:=e;obtain⟨c,rfl,b⟩:=b;cases i;exact not_of (BQ ⟨.bl (!c),g,f,Z,b⟩)
def tIf (t:TT)(ta tb:TE):TE:=λσ H Q=>t σ H λc H1=>if c=true then ta σ H1 Q else tb σ H1 Q
theorem qea {c:Expr}(n:PT X c tA)(l:PE X a ta)(m:PE X b tb):PE X (.IfExp c a b pos) (tIf tA ta tb):=by
 intro e s σ H Q I h;refine wpAny_IfExp (thn (n e s σ H _ I h) λd j k=>?_);obtain⟨i,f,g⟩:=k;cases d with|true=>exact l e j σ i Q f g|false=>exact m e j σ i Q f g
end
end L2
namespace L2
open PySem PySem.Spec PyProof.Rows
def SqL (K:Ae)(H:Hp)(a:Addr)(xs:List V):Prop :=
 Rd H a (.lst xs) \/
  ∃(o:Obj)(its:Array Value)(n:Nat),K.lookup a=some o/\o.cls=.type "list" /\ o.dict=none/\o.data=.seq its n/\its.size<=A4/\Vals xs its.toList
def SqT (K:Ae)(H:Hp)(a:Addr)(xs:List V):Prop :=
 Rd H a (.tup xs) \/
  ∃(o:Obj)(its:Array Value)(n:Nat),K.lookup a=some o/\o.cls=.type "tuple" /\ o.data=.seq its n/\its.size<=A4/\Vals xs its.toList
noncomputable def absV:Value->Option V
 |.none=>some .non
 |.bool b=>some (.bl b)
 |.int i _=>some (.int i)
 |.str x _=>some (.str x)
 |.bytes b _=>some (.byt b)
 |.float b _=>some (.flt b)
 |.ref a=>some (.ref a)
 |.type n=>some (.ty n)
 |_=>none
theorem RelV.abs {x:V}{u:Value}(r:RelV x u):absV u=some x:=by
 cases x with
 |non=>cases r;rfl
 |bl _=>cases r;rfl
 |int _=>obtain⟨t,rfl⟩:=r;rfl
 |str _=>obtain⟨t,rfl⟩:=r;rfl
 |byt _=>obtain⟨t,rfl⟩:=r;rfl
 |flt _=>obtain⟨t,rfl⟩:=r;rfl
 |ref _=>cases r;rfl
 |ty _=>cases r;rfl
theorem RelV.inj {x y:V}{u:Value}(r:RelV x u)(q:RelV y u):x=y:=A9 (r.abs.symm.trans q.abs)
theorem Vals.inj:∀{xs ys:List V}{us:List Value},Vals xs us->Vals ys us->xs=ys
 |_,_,_,.nil,.nil=>rfl
 |_,_,_,.cons r t,.cons r' t'=>by rw[r.inj r',Vals.inj t t']
section
variable {X:Cx}{pins:List (Addr×Obj)}{σ:St}{H:Hp}{s:Af}{a:Addr}{xs ys:List V}
theorem SqL.of {K:Ae}(h:H a=some (.lst xs)):SqL K H a xs:=.inl (.inl h)
theorem SqT.of {K:Ae}(h:H a=some (.tup xs)):SqT K H a xs:=.inl (.inl h)
theorem Inv.list (I:Inv X pins σ H s)(h:SqL X.K H a xs):∃its:List Value,Vals xs its/\PlainL s.heap a its.toArray/\xs.length<=A4:=by
 rcases h with h|⟨o,its,n,hk,c,hd,b,hz,r⟩
 .obtain⟨z,its,n,r,e⟩:=h.ok I.hok;exact⟨its,r,⟨_,n,e,Z,Z,Z⟩,z⟩
 .refine⟨its.toList,r,⟨o,n,I.kIn a o hk,c,hd,by simpa using b⟩,?_⟩;have e:=r.length;simp only[A7]at e;lia
theorem Inv.tuple (I:Inv X pins σ H s)(h:SqT X.K H a xs):∃its:List Value,Vals xs its/\IsTup s.heap a its.toArray/\xs.length<=A4:=by
 rcases h with h|⟨o,its,n,hk,c,b,hz,r⟩
 .obtain⟨z,its,r,p⟩:=h.ok I.hok;exact⟨its,r,p,z⟩
 .refine⟨its.toList,r,⟨o,I.kIn a o hk,c,n,by simpa using b⟩,?_⟩;have e:=r.length;simp only[A7]at e;lia
theorem Inv.list_inj (I:Inv X pins σ H s)(h:SqL X.K H a xs)(h':SqL X.K H a ys):xs=ys:=by
 obtain⟨its,r,⟨o,n,e,_,_,d⟩,_⟩:=I.list h;obtain⟨its',r',⟨o',n',b,_,_,d'⟩,_⟩:=I.list h';rw[e]at b;cases b;rw[d]at d';injection d' with d1 _;have:its=its':=by simpa using congrArg Array.toList d1
 subst this;exact r.inj r'
theorem Inv.tuple_inj (I:Inv X pins σ H s)(h:SqT X.K H a xs)(h':SqT X.K H a ys):xs=ys:=by
 obtain⟨its,r,⟨o,e,_,n,d⟩,_⟩:=I.tuple h;obtain⟨its',r',⟨o',b,_,n',d'⟩,_⟩:=I.tuple h';rw[e]at b;cases b;rw[d]at d';injection d' with d1 _;have:its=its':=by simpa using congrArg Array.toList d1
 subst this;exact r.inj r'
end
noncomputable abbrev Cx.wish (X:Cx)(E:Value->Af->Prop):Cx:={X with xe:=E}
noncomputable abbrev Cx.nox (X:Cx):Cx:=X.wish λ_ _=>False
theorem Cx.Ok.wish {X:Cx}(ok:X.Ok)(E:Value->Af->Prop):(X.wish E).Ok :=
 ⟨ok.mod,ok.kind,ok.glob,ok.blt,ok.above,ok.inj,ok.has,ok.cab,ok.hd,ok.frames,ok.stk,ok.exf,ok.bs,ok.bsz,ok.noex,ok.exfs,ok.funs,ok.frf⟩
theorem Cx.Ok.unwish {X:Cx}{E:Value->Af->Prop}(ok:(X.wish E).Ok):X.Ok :=
 ⟨ok.mod,ok.kind,ok.glob,ok.blt,ok.above,ok.inj,ok.has,ok.cab,ok.hd,ok.frames,ok.stk,ok.exf,ok.bs,ok.bsz,ok.noex,ok.exfs,ok.funs,ok.frf⟩
section
variable {X:Cx}{pins:List (Addr×Obj)}{σ:St}{H:Hp}{s:Af}{E:Value->Af->Prop}
theorem Inv.wish (I:Inv X pins σ H s)(E:Value->Af->Prop):Inv (X.wish E) pins σ H s:=⟨I.ok.wish E,I.os,I.bare,I.base,I.loc,I.cell,I.free,I.freeC,I.pin,I.hok,I.len⟩
theorem Inv.unwish (I:Inv (X.wish E) pins σ H s):Inv X pins σ H s:=⟨I.ok.unwish,I.os,I.bare,I.base,I.loc,I.cell,I.free,I.freeC,I.pin,I.hok,I.len⟩
theorem SP.unwish {D:Ends}{f:Flow}{a:Af}(h:SP (X.wish E) pins D f a):SP X pins D f a:=by
 cases f with
 |next=>obtain⟨σ',H',I,q⟩:=h;exact⟨σ',H',I.unwish,q⟩
 |brk=>obtain⟨σ',H',I,q⟩:=h;exact⟨σ',H',I.unwish,q⟩
 |cont=>obtain⟨σ',H',I,q⟩:=h;exact⟨σ',H',I.unwish,q⟩
 |ret u=>obtain⟨v,σ',H',I,r,q⟩:=h;exact⟨v,σ',H',I.unwish,r,q⟩
theorem PSs.nox {st:List Stmt}{t:TS}(h:PSs X.nox st t):PSs X st t:=λa s σ H D I b =>
 Cf (h a s σ H D (I.wish _) b) (λ_ _ q=>q.unwish) λ_ _ z=>BK z
end
section
variable {X:Cx}{st:Stmt}{qbm:List Stmt}{t u:TS}{e:Expr}{te:TE}{pos:Pos}
def qna:TS:=λD σ H=>D.nx σ H
def qyl (t u:TS):TS:=λD σ H=>t {D with nx:=u D} σ H
theorem qad:PSs X [] qna:=λ_ _ σ H _ I h=>D0 ⟨σ,H,I,h⟩
theorem qe (b:PS X st t)(c:PSs X qbm u):PSs X (st::qbm) (qyl t u):=by
 intro a s σ H D I h;refine wpAny_execs_cons (thn (b a s σ H {D with nx:=u D} I h) λf e q=>?_);cases f with
 |next =>obtain⟨σ',H',d,q⟩:=q;exact c a e σ' H' D d q
 |ret v=>exact q
 |brk=>exact q
 |cont=>exact q
theorem qh (b:PS X st t):PSs X [st] t:=by
 intro a s σ H D I h;refine wpAny_execs_cons (thn (b a s σ H D I h) λf s1 q=>?_);cases f with|next=>exact D0 q|ret v=>exact q|brk=>exact q|cont=>exact q
theorem Inv.quiet {a:List (Addr×Obj)}{σ:St}{H:Hp}{s:Af}(I:Inv X a σ H s):interactive X.env=false:=by simp[interactive,I.ok.kind]
def tDrop (te:TE):TS:=λD σ H=>te σ H λ_ H1=>D.nx σ H1
theorem zd (d:PE X e te)(f:swapsWith e none pos.line X.env=pure false:=by rfl):PS X (.Expr e pos) (tDrop te):=by intro a s σ H D I h;exact wpAny_Expr_any (thn (d a s σ H _ I h) λv s1 ⟨x,c,g,r1,b⟩=>⟨σ,c,g,b⟩) I.quiet f
def tRet (te:TE):TS:=λD σ H=>te σ H D.rt
theorem qk (f:PE X e te):PS X (.Return (some e) pos) (tRet te):=by intro a s σ H D I h;exact wpAny_Return_some (thn (f a s σ H _ I h) λv s1 ⟨x,c,g,d,b⟩=>⟨x,σ,c,g,d,b⟩)
def tIfS (c:TT)(t u:TS):TS:=λD σ H=>c σ H λb H1=>if b=true then t D σ H1 else u D σ H1
theorem ze {c:Expr}{a b:List Stmt}{j:TT}(o:PT X c j)(m:PSs X a t)(n:PSs X b u):PS X (.If c a b pos) (tIfS j t u):=by
 intro e s σ H D I h;refine wpAny_If (thn (o e s σ H _ I h) λd g i=>?_);obtain⟨f,l,k⟩:=i;cases d with|true=>exact m e g σ f D l k|false=>exact n e g σ f D l k
end
abbrev TG:=V->St->Hp->(St->Hp->Prop)->Prop
abbrev TGs:=List V->St->Hp->(St->Hp->Prop)->Prop
def PG (X:Cx)(target:Expr)(t:TG):Prop :=
 ∀(pins:List (Addr×Obj))(s:Af)(σ:St)(H:Hp)(v:V)(u:Value)(Q:St->Hp->Prop),Inv X pins σ H s->RelV v u->t v σ H Q ->
  wpAny (model X.prog X.w) X.A (assign target X.env u) (λ_ s'=>∃σ' H',Inv X pins σ' H' s'/\Q σ' H') X.xe s
def PGs (X:Cx)(ts:List Expr)(t:TGs):Prop :=
 ∀(pins:List (Addr×Obj))(s:Af)(σ:St)(H:Hp)(vs:List V)(us:List Value)(Q:St->Hp->Prop),Inv X pins σ H s->Vals vs us->t vs σ H Q ->
  wpAny (model X.prog X.w) X.A (assignInOrder ((assignEach ts X.env).map (·.2)) us) (λ_ s'=>∃σ' H',Inv X pins σ' H' s'/\Q σ' H') X.xe s
abbrev TSet:=V->V->V->Hp->(Hp->Prop)->Prop
def PSet (X:Cx)(t:TSet):Prop :=
 ∀(pins:List (Addr×Obj))(s:Af)(σ:St)(H:Hp)(o i v:V)(ov iv u:Value)(Q:Hp->Prop),Inv X pins σ H s->RelV o ov->RelV i iv->RelV v u->t o i v H Q ->
  wpAny (model X.prog X.w) X.A (setItem ov iv u) (λ_ s'=>∃H',Inv X pins σ H' s'/\Q H') X.xe s
abbrev TIp:=V->V->Hp->VK->Prop
def PIp (X:Cx)(op:Operator)(t:TIp):Prop :=
 ∀(pins:List (Addr×Obj))(s:Af)(σ:St)(H:Hp)(x y:V)(v u:Value)(Q:VK),Inv X pins σ H s->RelV x v->RelV y u->t x y H Q ->
  wpAny (model X.prog X.w) X.A (inplaceOp op v u) (EP X pins σ Q) X.xe s
section
variable {X:Cx}{pos:Pos}
def qf4 (i:Nat):TG:=λv σ H Q=>Q (σ.set i (some v)) H
theorem qaj {i:Nat}{x:Str}(b:X.N.Nodup)(d:X.N[i]?=some x)(a:Loc X.env.scope x)(e:X.fn x=true\/X.env.scope.names.lookup x=some .local:=by first|exact .inl rfl|exact .inr rfl|assumption):PG X (.Name x pos) (qf4 i):=by intro pins s σ H v u Q I r h;exact wpAny_assign_Name (qix I b d a r (λs' c=>⟨_,H,c,h⟩) e)
def gNil:TGs:=λvs σ H Q=>vs=[]/\Q σ H
def qld (t:TG)(u:TGs):TGs:=λvs σ H Q=>∃v r,vs=v::r/\t v σ H λσ' H'=>u r σ' H' Q
theorem qh1:PGs X [] gNil:=by intro pins s σ H vs us Q I r h;obtain⟨e,h⟩:=h;subst e;cases r;exact assignInOrder_nil ⟨σ,H,I,h⟩
theorem qca {e:Expr}{es:List Expr}{t:TG}{u:TGs}(i:PG X e t)(d:PGs X es u)
  (f:(assignEach (e::es) X.env).map (·.2)=assign e X.env::(assignEach es X.env).map (·.2):=by rfl):PGs X (e::es) (qld t u):=by
 intro a s σ H vs us Q I r h;obtain⟨v,vr,j,h⟩:=h;subst j;cases r with
 |cons r rr =>rw[f];refine assignInOrder_cons (thn (i a s σ H _ _ _ I r h) λ_ g b=>?_);obtain⟨σ1,c,l,k⟩:=b;exact d a g σ1 c _ _ Q l rr k
def qto (K:Ae)(n:Nat)(t:TGs):TG:=λv σ H Q=>∃a xs,v=.ref a/\SqT K H a xs/\xs.length=n/\t xs σ H Q
theorem qle {es:List Expr}{k:Nat}{t:TGs}{n:Nat}(j:X.calm=true)(h:PGs X es t)
  (l:(assignEach es X.env).length=n:=by rfl)(hst:(assignEach es X.env).findIdx? (·.1)=none:=by rfl):PG X (.Tuple es k pos) (qto X.K n t):=by
 intro c s σ H v u Q I r d;obtain⟨a,xs,g,p,hl,d⟩:=d;subst g;cases r;obtain⟨its,f,i,hz⟩:=I.tuple p;refine assign_Tuple_tuple (I.ok.hd j) i (by simp[l,<- hl,f.length]) hst λh' m=>?_;have q:Inv X c σ H {s with heap:=h'}:=I.kept (t':=s.toks) λb o e=>m b o (AG (A1 e)) e;exact h c _ σ H xs _ Q q (by simpa using f) d
def gSub (to ti:TE)(t:TSet):TG:=λv σ H Q=>to σ H λo H1=>ti σ H1 λi H2=>t o i v H2 λH3=>Q σ H3
theorem pg_sub {o i:Expr}{e d:TE}{t:TSet}(w:PE X o e)(z:PE X i d)(g:PSet X t)
  (k:∀v,assign (.Subscript o i pos) X.env v=(do
   let ov <- holding [v] (eval o X.env)
   let c <- holding [v,ov] (eval i X.env)
   standAt pos
   holding [v,ov,c] (setItem ov c v)
   release [v,ov,c] []):=by intro _;rfl):PG X (.Subscript o i pos) (gSub e d t):=by
 intro b s σ H v u Q I r h
 rw[k]
 refine Ab (BL (thn (w b s σ H _ I h) λov l a=>?_))
 obtain⟨x,f,F,j,C⟩:=a
 refine Ab (BL (thn (z b l σ f _ F C) λc q a=>?_))
 obtain⟨y,D,m,p,B⟩:=a
 refine Ab (wpAny_standAt (Ab (BL (thn (g b q σ D x y v ov c u _ m j p r B) λ_ s3 a=>?_))))
 obtain⟨E,A,n⟩:=a
 exact wpAny_release ⟨σ,E,A,n⟩
def tAsg (te:TE)(g:TG):TS:=λD σ H=>te σ H λx H1=>g x σ H1 D.nx
theorem qvi {a e:Expr}{c:TE}{g:TG}(f:PE X e c)(m:PG X a g)(j:swapsWithSole [a] e pos.line X.env=pure false:=by rfl)(hw:swappedStores [a] e X.env=pure none:=by rfl)
  (h1:(assignEach [a] X.env).map (·.2)=[assign a X.env]:=by rfl):PS X (.Assign [a] e pos) (tAsg c g):=by
 intro b s σ H D I h;refine wpAny_Assign_stores (thn (f b s σ H _ I h) λv l d=>?_) j hw;obtain⟨x,i,o,k,n⟩:=d;rw[h1];exact thn (m b l σ i x v _ o k n) λ_ s2 q=>q
theorem qz {i:Nat}{x:Str}{e:Expr}{c:TE}{a:Pos}(m:X.N.Nodup)(n:X.N[i]?=some x)(o:Loc X.env.scope x)(f:PE X e c)(j:swapsWith e (some (.Name x a)) pos.line X.env=pure false:=by rfl)(hf:X.fn x=true\/X.env.scope.names.lookup x=some .local:=by first|exact .inl rfl|exact .inr rfl|assumption) :
  PS X (.Assign [.Name x a] e pos) (tAsg c (qf4 i)):=by
 intro b s σ H D I h;refine wpAny_Assign_Name (thn (f b s σ H _ I h) λv s1 d=>?_) j;obtain⟨y,g,q,k,p⟩:=d;exact qix q m n o k (λs2 l=>⟨_,g,l,p⟩) hf
def tAug (i:Nat)(te:TE)(ti:TIp):TS:=λD σ H=>∃x,σ[i]?=some (some x)/\te σ H λy H1=>ti x y H1 λz H2=>D.nx (σ.set i (some z)) H2
theorem qij {i:Nat}{x:Str}{e:Expr}{n:TE}{j:Operator}{o:TIp}{f:Pos}(P:X.N.Nodup)(q:X.N[i]?=some x)(g:Loc X.env.scope x)(B:PE X e n)(Q:PIp X j o)(F:X.fn x=true\/X.env.scope.names.lookup x=some .local:=by first|exact .inl rfl|exact .inr rfl|assumption) :
  PS X (.AugAssign (.Name x f) j e pos) (tAug i n o):=by
 intro a s σ H D I h;obtain⟨v,L,h⟩:=h;obtain⟨m,R,hl⟩:=I.loc;have t:Vis X.env.scope x:=by rcases g with k|k;exact .inl k;exact .inr (.inl k)
 obtain⟨u,r,l⟩:=hl i x v q L t;refine wpAny_AugAssign_Name ?_;have p:wpAny (model X.prog X.w) X.A (eval e X.env) (λw K=>wpAny (model X.prog X.w) X.A (inplaceOp j u w) (λr M=>wpAny (model X.prog X.w) X.A (storeName X.env x r) (λ_=>SP X a D .next) X.xe M) X.xe K) X.xe s:=by refine thn (B a s σ H _ I h) λw G b=>?_;obtain⟨y,C,I1,E,V⟩:=b;refine thn (Q a G σ C v y u w _ I1 r E V) λz s2 b=>?_;obtain⟨zv,W,J,O,U⟩:=b;exact qix J P q g O (λs3 S=>⟨_,W,S,U⟩) F
 rcases l with ⟨hk,T⟩|⟨hk,c,Y,d⟩
 .exact wpAny_loadName_local I.ok.kind hk R T p
 .rcases hk with hk|hk
  .exact wpAny_loadName_cell I.ok.kind hk Y d p
  .rcases g with k|k
   .have:X.env.scope.names.lookup x=some .free:=hk;rw[k]at this;cases this
   .have:X.env.scope.names.lookup x=some .free:=hk;rw[k]at this;cases this
end
section
variable {X:Cx}{pos:Pos}
def tWhile (c:TT)(tb:TS):TS:=λD σ H=>∃W:Nat->St->Hp->Prop,(∃m,W m σ H)/\∀m σ H,W m σ H ->
 c σ H λb H1=>if b=true then ∃N:St->Hp->Prop,(∀σ' H',N σ' H'->∃m',m'<m/\W m' σ' H')/\tb {D with nx:=N,ct:=N,bk:=D.nx} σ H1 else D.nx σ H1
theorem qpd {c:Expr}{d:List Stmt}{u:TT}{x:TS}(B:B3 (model X.prog X.w) X.A X.env X.xe)(K:PT X c u)(G:PSs X d x):PS X (.While c d [] pos) (tWhile u x):=by
 intro a s σ H D I h;obtain⟨W,⟨E,O⟩,m⟩:=h;refine wpAny_While (codeAny_whileLoop (λn J=>∃σ' H',Inv X a σ' H' J/\W n σ' H') ?_ E ⟨σ,H,I,O⟩);rintro n F ⟨σ1,q,M,C⟩;refine BZ B (thn (K a F σ1 q _ M (m n σ1 q C)) λb L t=>?_);obtain⟨z,r,i⟩:=t;cases b with
 |true =>
  obtain⟨N,y,i⟩:=i;rw[if_pos Z];refine BZ B (thn (G a L σ1 z _ r i) λf s3 g=>?_);cases f with
  |next =>obtain⟨σ3,e,o,k⟩:=g;obtain⟨j,p,l⟩:=y σ3 e k;exact⟨j,p,σ3,e,o,l⟩
  |cont =>obtain⟨σ3,e,o,k⟩:=g;obtain⟨j,p,l⟩:=y σ3 e k;exact⟨j,p,σ3,e,o,l⟩
  |brk=>exact g
  |ret v=>exact g
 |false =>rw[if_neg AF];exact D0 ⟨σ1,z,r,i⟩
end
structure It where
 go:Nat->Hp->Prop
 yld:Nat->Hp->V->Hp->Prop
 stop:Nat->Hp->Prop
def qe2 (X:Cx)(pins:List (Addr×Obj))(H:Hp)(b:Addr):Prop :=
 H b=none/\b≠X.env.locals/\b∉X.fs/\(b∈X.ex\/X.s₀.heap.objs.size<=b)/\(∀x c,X.env.cells.lookup x=some c->c≠b)/\∀p∈X.pn++pins,p.1≠b
theorem Inv.fpOk {X:Cx}{a:List (Addr×Obj)}{σ:St}{H H':Hp}{s:Af}{b:Addr}(I:Inv X a σ H s)(d:s.heap.objs.size<=b)(f:H' b=none):qe2 X a H' b:=by
 refine⟨f,Cs (AB I.lt d),I.nofs d,.inr (A3 I.sz d),λx c e z=>?_,λp g z=>?_⟩
 .obtain⟨v,q⟩:=I.cell x c e;exact absurd (AB q.lt (by rw[z];exact d)) (BJ _)
 .exact absurd (AB (A1 (I.pin p g).1) (by rw[z];exact d)) (BJ _)
structure Turn (P:AK)(w:World)(K:Ae)(tg:Expr)(J:It)(fp:List Addr)(it:Addr)(tn:Nat->Heap->Prop):Prop where
 mem:it∈fp
 obj:∀i h,tn i h->∀b∈fp,∃o,h.get? b=some o/\∀v,o.data ≠ .cell v
 keep:∀i h h',tn i h->(∀b∈fp,∀o,h.get? b=some o->h'.get? b=some o)->tn i h'
 item:∀(X:Cx),X.prog=P->X.w=w->X.K=K->X.calm=true->∀(i:Nat)(pins:List (Addr×Obj))(s:Af)(σ:St)(H:Hp)(E:Value->Af->Prop),Inv X pins σ H s->(∀b∈fp,qe2 X pins H b)->tn i s.heap->J.go i H ->
  wpAny (model P w) X.A (pyNext (.ref it)) (λr s1=>∃u,r=some u /\
   wpAny (model P w) X.A (letOwnedTupleGo tg (.ref it) u) (λ_ s2=>∃x H',Inv X pins σ H' s2/\RelV x u/\J.yld i H x H'/\tn (i+1) s2.heap/\∀b∈fp,H' b=none) E s1) E s
 done:∀(X:Cx),X.prog=P->X.w=w->X.K=K->X.calm=true->∀(i:Nat)(pins:List (Addr×Obj))(s:Af)(σ:St)(H:Hp)(E:Value->Af->Prop),Inv X pins σ H s->(∀b∈fp,qe2 X pins H b)->tn i s.heap->J.stop i H ->
  wpAny (model P w) X.A (pyNext (.ref it)) (λr s1=>r=none/\Inv X pins σ H s1) E s
 self:∀(A:AX)(i:Nat)(s:Af)(Q:Value->Af->Prop)(E:Value->Af->Prop),tn i s.heap->Q (.ref it) s->wpAny (model P w) A (pyIter (.ref it)) Q E s
abbrev TI:=St->Hp->(It->Hp->Prop)->Prop
def PIE (X:Cx)(pins:List (Addr×Obj))(σ:St)(tg:Expr)(R:It->Hp->Prop)(itv:Value)(s2:Af):Prop :=
 ∃(it:Addr)(fp:List Addr)(tn:Nat->Heap->Prop)(J:It)(H':Hp),itv=.ref it/\Inv X pins σ H' s2/\Turn X.prog X.w X.K tg J fp it tn/\tn 0 s2.heap/\(∀b∈fp,qe2 X pins H' b)/\R J H'
def PI (X:Cx)(tg iter:Expr)(wi:TI):Prop :=
 ∀(pins:List (Addr×Obj))(s:Af)(σ:St)(H:Hp)(R:It->Hp->Prop),Inv X pins σ H s->wi σ H R ->
  wpAny (model X.prog X.w) X.A (eval iter X.env) (λv s1=>wpAny (model X.prog X.w) X.A (pyIter v) (PIE X pins σ tg R) X.xe s1) X.xe s
theorem qsi {M:Model}{A:AX}{E:Value->Af->Prop}{s:Af}{b:Expr}{it:Addr}{u:Value}{o:Obj}{n:String}{vs:Array Value}{Q:Unit->Af->Prop}(c:s.heap.get? it=some o)(e:o.cls=.type n)(hd:o.data=.fields vs)
  (d:["enumerate","zip","dict_itemiterator","dict_reverseitemiterator","odict_iterator","itertools.zip_longest","itertools.pairwise"].contains n=false)(a:Q () s):wpAny M A (letOwnedTupleGo b (.ref it) u) Q E s:=by
 unfold letOwnedTupleGo;cases b <;>first
  |exact Ao a
  | (cases u <;>first
    |exact Ao a
    | (refine Ab (wpAny_load c ?_)
       rw[e,hd]
       show wpAny M A (if (["enumerate","zip","dict_itemiterator","dict_reverseitemiterator","odict_iterator","itertools.zip_longest","itertools.pairwise"].contains n && vs[0]? == some (rawInt _))=true then _ else _) Q E s
       rw[if_neg (by intro h;rw[d,Cg]at h;cases h)]
       exact Ao a))
noncomputable def Itl (K:Ae)(a:Addr):It :=
 ⟨λi H=>∃xs x,SqL K H a xs/\xs[i]?=some x,λi H x H'=>H'=H/\∀xs,SqL K H a xs->xs[i]?=some x,λi H=>∃xs,SqL K H a xs/\xs.length<=i⟩
noncomputable def Itt (K:Ae)(a:Addr):It :=
 ⟨λi H=>∃xs x,SqT K H a xs/\xs[i]?=some x,λi H x H'=>H'=H/\∀xs,SqT K H a xs->xs[i]?=some x,λi H=>∃xs,SqT K H a xs/\xs.length<=i⟩
noncomputable def Itr (lo:Int)(n:Nat):It:=⟨λi _=>i<n,λi H x H'=>H'=H/\x=.int (lo+i),λi _=>n<=i⟩
theorem qtp {P:AK}{w:World}{K:Ae}{S:Expr}(a it:Addr):Turn P w K S (Itl K a) [it] it (λi h=>h.IsListIter it a i) where
 mem:=by simp
 obj:=λi h st b f=>by
  have e:b=it:=by simpa using f
  subst e;obtain⟨o,e,c,d⟩:=st;exact⟨o,e,λv z=>by rw[d]at z;cases z⟩
 keep:=λi h h' st k=>st.at λo e=>k it (by simp) o e
 item:=by intro X r F n J i g s σ H E I j st C;subst r F n;obtain⟨xs,x,l,B⟩:=C;obtain⟨its,G,p,hz⟩:=I.list l;obtain⟨u,N,Q⟩:=G.get B;obtain⟨A,t,L,D,q,y⟩:=j it (by simp);refine wpAny_pyNext_list_item st p.isList (x:=u) (by simpa using N) λh' m M=>?_;have T:Inv X g σ H {s with heap:=h'}:=I.turned (t':=s.toks) (λb o f e=>(M.2 b f).trans e) A t D q y;obtain⟨o,e,c,d⟩:=id m;exact⟨u,Z,qsi (s:={s with heap:=h'}) e c d Ez ⟨x,H,T,Q,⟨Z,λys O=>by rw[I.list_inj O l];exact B⟩,m,λb f=>(j b f).1⟩⟩
 done:=by intro X r F n J i g s σ H E I j st C;subst r F n;obtain⟨xs,l,B⟩:=C;obtain⟨its,G,p,hz⟩:=I.list l;obtain⟨A,t,L,D,q,y⟩:=j it (by simp);have hl:=G.length;exact wpAny_pyNext_list_end (I.ok.hd J) st p.isList (by simp;lia) λh' R=>⟨Z,I.turned (t':=s.toks) (λb o f e=>R b o f e) A t D q y⟩
 self:=λ_ _ _ _ _ st h=>wpAny_pyIter_listiter st h
theorem qqz {P:AK}{w:World}{K:Ae}{S:Expr}(a it:Addr):Turn P w K S (Itt K a) [it] it (λi h=>h.IsTupleIter it a i) where
 mem:=by simp
 obj:=λi h st b f=>by
  have e:b=it:=by simpa using f
  subst e;obtain⟨o,e,c,d⟩:=st;exact⟨o,e,λv z=>by rw[d]at z;cases z⟩
 keep:=λi h h' st k=>st.at λo e=>k it (by simp) o e
 item:=by intro X r F n J i g s σ H E I j st C;subst r F n;obtain⟨xs,x,l,B⟩:=C;obtain⟨its,G,p,hz⟩:=I.tuple l;obtain⟨u,N,Q⟩:=G.get B;obtain⟨A,t,L,D,q,y⟩:=j it (by simp);refine wpAny_pyNext_tuple_item st (show s.heap.IsTuple a its.toArray from p) (x:=u) (by simpa using N) λh' m M=>?_;have T:Inv X g σ H {s with heap:=h'}:=I.turned (t':=s.toks) (λb o f e=>(M.2 b f).trans e) A t D q y;obtain⟨o,e,c,d⟩:=id m;exact⟨u,Z,qsi (s:={s with heap:=h'}) e c d Ez ⟨x,H,T,Q,⟨Z,λys O=>by rw[I.tuple_inj O l];exact B⟩,m,λb f=>(j b f).1⟩⟩
 done:=by intro X r F n J i g s σ H E I j st C;subst r F n;obtain⟨xs,l,B⟩:=C;obtain⟨its,G,p,hz⟩:=I.tuple l;obtain⟨A,t,L,D,q,y⟩:=j it (by simp);have hl:=G.length;exact wpAny_pyNext_tuple_end (I.ok.hd J) st (show s.heap.IsTuple a its.toArray from p) (by simp;lia) λh' R=>⟨Z,I.turned (t':=s.toks) (λb o f e=>R b o f e) A t D q y⟩
 self:=λ_ _ _ _ _ st h=>wpAny_pyIter_tupleiter st h
theorem qq0 {P:AK}{w:World}{K:Ae}{G:Expr}(it:Addr)(lo:Int)(n:Nat):Turn P w K G (Itr lo n) [it] it (λi h=>IsRangeIter h it (lo+(i:Nat)*1) ((n:Int)-(i:Nat)) 1) where
 mem:=by simp
 obj:=λi h st b a=>by
  have e:b=it:=by simpa using a
  subst e;exact⟨_,st,λv z=>by have D:Data.fields _=Data.cell v:=z;cases D⟩
 keep:=λi h h' st k=>k it (by simp) _ st
 item:=by intro X l x g y i c s σ H E I d st r;subst l x g;obtain⟨q,m,A,u,j,p⟩:=d it (by simp);have W:=Walks.range (prog:=X.prog) (w:=X.w) (I.ok.hd y) it lo 1 n;refine W.item i s _ _ r st λv h' tk F f B=>?_;obtain⟨t,rfl⟩:=F;have J:Inv X c σ H {s with heap:=h',toks:=tk}:=I.turned (λb o a e=>B b o (by simpa using a) e) q m u j p;refine⟨_,Z,qsi (s:={s with heap:=h',toks:=tk}) (n := "range_iterator") f Z Z Ez ⟨.int (lo+i),H,J,⟨t,?_⟩,⟨Z,Z⟩,f,λb a=>(d b a).1⟩⟩;rw[Int.mul_one]
 done:=by intro X l x g y i c s σ H E I d st r;subst l x g;obtain⟨q,m,A,u,j,p⟩:=d it (by simp);exact wpAny_pyNext_range_end (I.ok.hd y) st (by have:n<=i:=r;lia) λh' C=>⟨Z,I.turned (t':=s.toks) (λb o a e=>C b o a e) q m u j p⟩
 self:=λ_ _ _ _ _ st h=>wpAny_pyIter_rangeiter st h
end L2
namespace L2
open PySem PySem.Spec PyProof.Rows
section
variable {X:Cx}{tg:Expr}
def iList (K:Ae)(tl:TE):TI:=λσ H R=>tl σ H λx H1=>∃a,x=.ref a/\(∃xs,SqL K H1 a xs)/\R (Itl K a) H1
def iTup (K:Ae)(tl:TE):TI:=λσ H R=>tl σ H λx H1=>∃a,x=.ref a/\(∃xs,SqT K H1 a xs)/\R (Itt K a) H1
theorem qbn {l:Expr}{i:TE}(hl:PE X l i):PI X tg l (iList X.K i):=by
 intro f s σ H R I h;refine thn (hl f s σ H _ I h) λv c g=>?_;obtain⟨x,j,d,k,r⟩:=g;obtain⟨a,e,⟨xs,m⟩,q⟩:=r;subst e;cases k;obtain⟨its,rv,p,hz⟩:=d.list m;refine D6 p.isList ?_;refine⟨c.heap.objs.size,[c.heap.objs.size],_,_,j,Z,d.kept (t':=c.toks) λb o e=>Aj _ e,qtp a _,⟨_,Aw _ Z,Z,Z⟩,λb n=>?_,q⟩;have e:b=c.heap.objs.size:=by simpa using n
 subst e;exact d.fpOk (A0 _) (d.hok.fresh (A0 _))
theorem pi_tup {l:Expr}{i:TE}(hl:PE X l i):PI X tg l (iTup X.K i):=by
 intro f s σ H R I h;refine thn (hl f s σ H _ I h) λv c g=>?_;obtain⟨x,j,d,k,r⟩:=g;obtain⟨a,e,⟨xs,m⟩,q⟩:=r;subst e;cases k;obtain⟨its,rv,p,hz⟩:=d.tuple m;refine wpAny_pyIter_tuple (show c.heap.IsTuple a its.toArray from p) ?_;refine⟨c.heap.objs.size,[c.heap.objs.size],_,_,j,Z,d.kept (t':=c.toks) λb o e=>Aj _ e,qqz a _,⟨_,Aw _ Z,Z,Z⟩,λb n=>?_,q⟩;have e:b=c.heap.objs.size:=by simpa using n
 subst e;exact d.fpOk (A0 _) (d.hok.fresh (A0 _))
theorem qpe {c:List (Addr×Obj)}{σ:St}{H:Hp}{s:Af}{R:It->Hp->Prop}{E:Value->Af->Prop}{lo a:Int}{t u v:Tok}{tk:Nat}(I:Inv X c σ H s)(i : -(2 ^ 62)<=lo)(f:lo<2 ^ 62)(k : -(2 ^ 62)<=a)(l:a<2 ^ 62)
  (q:R (Itr lo (a-lo).toNat) H):wpAny (model X.prog X.w) X.A (pyIter (.ref s.heap.objs.size)) (PIE X c σ tg R) E {s with heap:=s.heap.push {cls:=.type "range",data:=.fields #[.int lo t,.int a u,.int 1 v]},toks:=tk}:=by
 refine wpAny_pyIter_range (IsRange.new ..) (small_one i f k l) ?_;have d:Inv X c σ H {s with heap:=s.heap.push {cls:=.type "range",data:=.fields #[.int lo t,.int a u,.int 1 v]},toks:=tk}:=I.kept λb o e=>Aj _ e;refine⟨(s.heap.push {cls:=.type "range",data:=.fields #[.int lo t,.int a u,.int 1 v]}).objs.size,[(s.heap.push {cls:=.type "range",data:=.fields #[.int lo t,.int a u,.int 1 v]}).objs.size],_,_,H,Z,
  d.kept (t':=tk) λb o e=>Aj _ e,qq0 _ lo (a-lo).toNat,?_,λb g=>?_,q⟩
 .have j:lo+((0:Nat):Int)*1=lo:=by simp
  have h:(((a-lo).toNat:Nat):Int)-((0:Nat):Int)=AH.Range.rangeSize lo a 1:=by rw[rangeSize_one];split <;>lia
  show IsRangeIter _ _ (lo+((0:Nat):Int)*1) ((((a-lo).toNat:Nat):Int)-((0:Nat):Int)) 1;rw[j,h];exact Aw _ rfl
 .have e:b=(s.heap.push {cls:=.type "range",data:=.fields #[.int lo t,.int a u,.int 1 v]}).objs.size:=by simpa using g
  subst e;exact d.fpOk (A0 _) (d.hok.fresh (A0 _))
def iRng1 (ta:TA):TI:=λσ H R=>ta σ H λvs H1=>∃j:Int,vs=[.int j] /\ -(2 ^ 62)<=j/\j<2 ^ 62/\R (Itr 0 j.toNat) H1
def iRng2 (ta:TA):TI:=λσ H R=>ta σ H λvs H1=>∃i j:Int,vs=[.int i,.int j]/\(-(2 ^ 62)<=i/\i<2 ^ 62 /\ -(2 ^ 62)<=j/\j<2 ^ 62)/\R (Itr i (j-i).toNat) H1
theorem qd7 {a:Expr}{f:TA}{p pos:Pos}(m:Gl X "range")(l:X.mg "range"=none)(k:PA X [a] f)(g:starEach [a] X.env=[(false,eval a X.env)]:=by rfl):PI X tg (.Call (.Name "range" p) [a] [] pos) (iRng1 f):=by
 intro b s σ H R I h;refine Call_ (qez I m l boot_range (Br (thn (k pos b s σ H _ I h) λus s1 d=>?_) g Z));obtain⟨vs,H1,o,i,c⟩:=d;obtain⟨j,e,c,n,q⟩:=c;subst e;cases i with
 |cons r rr =>cases rr;obtain⟨t,rfl⟩:=r;exact call_range_1 (qpe o (by lia) (by lia) c n (by simpa using q))
theorem qtq {a b:Expr}{g:TA}{p pos:Pos}(v:Gl X "range")(u:X.mg "range"=none)(n:PA X [a,b] g)(k:starEach [a,b] X.env=[(false,eval a X.env),(false,eval b X.env)]:=by rfl)(hs2:starEach [b] X.env=[(false,eval b X.env)]:=by rfl) :
  PI X tg (.Call (.Name "range" p) [a,b] [] pos) (iRng2 g):=by
 intro c s σ H R I h;refine Call_ (qez I v u boot_range (Br (thn (n pos c s σ H _ I h) λus s1 f=>?_) (by rw[k,hs2]) (by rw[hs2];rfl)));obtain⟨vs,H1,x,l,d⟩:=f;obtain⟨i,j,e,⟨d,w,o,m⟩,q⟩:=d;subst e;cases l with
 |cons r rr =>
  cases rr with
  |cons r' rr =>cases rr;obtain⟨t,rfl⟩:=r;obtain⟨t',rfl⟩:=r';exact call_range_2 (qpe x d w o m q)
def tFor (wi:TI)(g:TG)(tb:TS):TS:=λD σ H=>wi σ H λJ H1=>∃W:Nat->Nat->St->Hp->Prop,(∃m,W 0 m σ H1)/\∀i m σ H,W i m σ H ->
 (J.stop i H/\D.nx σ H)\/(J.go i H/\∃N:St->Hp->Prop,(∀σ' H',N σ' H'->∃m',m'<m/\W (i+1) m' σ' H')/\∀x H',J.yld i H x H'->g x σ H' λσ2 H2=>tb {D with nx:=N,ct:=N,bk:=D.nx} σ2 H2)
noncomputable def qjv (fp:List Addr)(h:Heap):List (Addr×Obj):=fp.filterMap λb=>(h.get? b).map λo=>(b,o)
theorem qfd {fp:List Addr}{h:Heap}{b:Addr}{o:Obj}(a:b∈fp)(e:h.get? b=some o):(b,o)∈qjv fp h:=List.mem_filterMap.mpr ⟨b,a,by rw[e];rfl⟩
theorem qtr {fp:List Addr}{h:Heap}{p:Addr×Obj}(d:p∈qjv fp h):p.1∈fp/\h.get? p.1=some p.2:=by
 obtain⟨b,c,e⟩:=List.mem_filterMap.mp d;cases q:h.get? b with|none=>rw[q]at e;cases e|some o =>rw[q]at e;have a:(b,o)=p:=A9 e;subst a;exact⟨c,q⟩
theorem Inv.pinned {a:List (Addr×Obj)}{σ:St}{H:Hp}{s:Af}{fp:List Addr}(I:Inv X a σ H s)(l:∀b∈fp,qe2 X a H b)(i:∀b∈fp,∃o,s.heap.get? b=some o/\∀v,o.data ≠ .cell v):Inv X (a++qjv fp s.heap) σ H s :=
 I.pins_of λp k=>(Az.mp k).elim (λz=>I.pin p (AI _ z)) λz=>by obtain⟨c,e⟩:=qtr z;obtain⟨j,h,g,_⟩:=l p.1 c;obtain⟨o,f,d⟩:=i p.1 c;rw[e]at f;cases f;exact⟨e,j,h,g,d⟩
theorem Inv.unpinned {a pl:List (Addr×Obj)}{σ:St}{H:Hp}{s:Af}(I:Inv X (a++pl) σ H s):Inv X a σ H s:=I.pins_of λp b=>I.pin p (AI _ (Bk _ b))
theorem qch {q:Expr}{B:List Stmt}{wi:TI}{g:TG}{tb:TS}{pos:Pos}(E:B3 (model X.prog X.w) X.A X.env X.xe)(S:X.calm=true)(hi:PI X tg q wi)(hg:PG X tg g)(c:PSs X B tb)
  (hs:∀x,foldedSetIterable q X.env x=pure x:=by intro _;rfl):PS X (.For tg q B [] pos) (tFor wi g tb):=by
 intro a s σ H D I h;refine wpAny_For (thn (hi a s σ H _ I h) λv s1 h1=>thn h1 λitv s2 h2=>?_) hs;obtain⟨it,fp,U,J,H2,e,I2,T,Y,P,W,⟨m0,w0⟩,M⟩:=h2;subst e
 -- what stays true of the iterator's objects through the loop
 have t:∀{H':Hp},(∀b∈fp,H' b=none)->∀b∈fp,qe2 X a H' b:=λhn b c=>⟨hn b c,(P b c).2⟩;refine codeAny_forLoop_any (λn s'=>∃i σ' H',Inv X a σ' H' s'/\U i s'.heap/\(∀b∈fp,H' b=none)/\W i n σ' H') ?_ m0 ⟨0,σ,H2,I2,Y,λb c=>(P b c).1,w0⟩;rintro n Q ⟨i,σ3,F,I3,K,G,w3⟩;rcases M i n σ3 F w3 with ⟨stop,qn⟩|⟨go,N,hN,step⟩
 .refine BZ E (thn (T.done X Z Z Z S i a Q σ3 F X.xe I3 (t G) K stop) λr s4 j=>?_);obtain⟨O,I4⟩:=j;subst O;exact D0 ⟨σ3,F,I4,qn⟩
 .refine BZ E (thn (T.item X Z Z Z S i a Q σ3 F X.xe I3 (t G) K go) λr s4 j=>?_);obtain⟨u,O,h4⟩:=j;subst O;refine BZ E (thn h4 λ_ s5 j=>?_);obtain⟨x,H5,I5,r5,y5,C,V⟩:=j;have R:=I5.pinned (t V) (T.obj _ _ C);refine BZ E (thn (hg _ s5 σ3 H5 x u _ R r5 (step x H5 y5)) λ_ s6 j=>?_);obtain⟨σ6,H6,I6,q6⟩:=j;refine BZ E (thn (c _ s6 σ6 H6 _ I6 q6) λf L p=>?_);have y:∀{σ7:St}{l:Hp},Inv X (a++qjv fp s5.heap) σ7 l L->N σ7 l->∃m,m<n/\∃i σ' H',Inv X a σ' H' L/\U i L.heap/\(∀b∈fp,H' b=none)/\W i m σ' H':=λ{σ7 l} k z=>by obtain⟨m',hm,w7⟩:=hN σ7 l z;refine⟨m',hm,i+1,σ7,l,k.unpinned,T.keep _ _ _ C λb c o e=>(k.pin (b,o) (AI _ (AI _ (qfd c e)))).1,λb c=>?_,w7⟩;obtain⟨o,e,d⟩:=T.obj _ _ C b c;exact(k.pin (b,o) (AI _ (AI _ (qfd c e)))).2.1
  cases f with
  |next=>obtain⟨σ7,l,k,z⟩:=p;exact y k z
  |cont=>obtain⟨σ7,l,k,z⟩:=p;exact y k z
  |brk=>obtain⟨σ7,l,k,p⟩:=p;exact⟨σ7,l,k.unpinned,p⟩
  |ret v=>obtain⟨x7,σ7,l,k,r7,p⟩:=p;exact⟨x7,σ7,l,k.unpinned,r7,p⟩
end
theorem qds {K:Ae}{a:Addr}{xs:List V}{g:TG}{f:TS}{D:Ends}{σ:St}{H:Hp}(b:Nat->St->Hp->Prop)(k:b 0 σ H)(hl:∀i σ H,i<=xs.length->b i σ H->SqL K H a xs)
  (h:∀i x σ H,xs[i]?=some x->b i σ H->g x σ H λσ2 d=>f {D with nx:=b (i+1),ct:=b (i+1),bk:=D.nx} σ2 d)(hd:∀σ H,b xs.length σ H->D.nx σ H) :
  ∃W:Nat->Nat->St->Hp->Prop,(∃m,W 0 m σ H)/\∀i m σ H,W i m σ H ->
   ((Itl K a).stop i H/\D.nx σ H)\/((Itl K a).go i H/\∃N:St->Hp->Prop,(∀σ' H',N σ' H'->∃m',m'<m/\W (i+1) m' σ' H')/\∀x H',(Itl K a).yld i H x H'->g x σ H' λσ2 d=>f {D with nx:=N,ct:=N,bk:=D.nx} σ2 d):=by
 refine⟨λi m σ H=>m=xs.length-i/\i<=xs.length/\b i σ H,⟨xs.length,by simp,B7 _,k⟩,?_⟩
 rintro i m σ H ⟨rfl,l,p⟩
 have q:=hl i σ H l p
 by_cases c:i<xs.length
 .refine .inr ⟨⟨xs,xs[i],q,by simp[c]⟩,b (i+1),λσ' H' j=>⟨xs.length-(i+1),by lia,Z,c,j⟩,λx H' y=>?_⟩;obtain⟨e,y⟩:=y;subst e;exact h i x σ _ (y xs q) p
 .have e:i=xs.length:=by lia
  subst e;exact .inl ⟨⟨xs,q,A0 _⟩,hd σ H p⟩
theorem qym {K:Ae}{a:Addr}{xs:List V}{g:TG}{f:TS}{D:Ends}{σ:St}{H:Hp}(b:Nat->St->Hp->Prop)(k:b 0 σ H)(hl:∀i σ H,i<=xs.length->b i σ H->SqT K H a xs)
  (h:∀i x σ H,xs[i]?=some x->b i σ H->g x σ H λσ2 d=>f {D with nx:=b (i+1),ct:=b (i+1),bk:=D.nx} σ2 d)(hd:∀σ H,b xs.length σ H->D.nx σ H) :
  ∃W:Nat->Nat->St->Hp->Prop,(∃m,W 0 m σ H)/\∀i m σ H,W i m σ H ->
   ((Itt K a).stop i H/\D.nx σ H)\/((Itt K a).go i H/\∃N:St->Hp->Prop,(∀σ' H',N σ' H'->∃m',m'<m/\W (i+1) m' σ' H')/\∀x H',(Itt K a).yld i H x H'->g x σ H' λσ2 d=>f {D with nx:=N,ct:=N,bk:=D.nx} σ2 d):=by
 refine⟨λi m σ H=>m=xs.length-i/\i<=xs.length/\b i σ H,⟨xs.length,by simp,B7 _,k⟩,?_⟩
 rintro i m σ H ⟨rfl,l,p⟩
 have q:=hl i σ H l p
 by_cases c:i<xs.length
 .refine .inr ⟨⟨xs,xs[i],q,by simp[c]⟩,b (i+1),λσ' H' j=>⟨xs.length-(i+1),by lia,Z,c,j⟩,λx H' y=>?_⟩;obtain⟨e,y⟩:=y;subst e;exact h i x σ _ (y xs q) p
 .have e:i=xs.length:=by lia
  subst e;exact .inl ⟨⟨xs,q,A0 _⟩,hd σ H p⟩
theorem qej {lo:Int}{n:Nat}{g:TG}{d:TS}{D:Ends}{σ:St}{H:Hp}(a:Nat->St->Hp->Prop)(j:a 0 σ H)
  (f:∀i σ H,i<n->a i σ H->g (.int (lo+i)) σ H λσ2 c=>d {D with nx:=a (i+1),ct:=a (i+1),bk:=D.nx} σ2 c)(hd:∀σ H,a n σ H->D.nx σ H) :
  ∃W:Nat->Nat->St->Hp->Prop,(∃m,W 0 m σ H)/\∀i m σ H,W i m σ H ->
   ((Itr lo n).stop i H/\D.nx σ H)\/((Itr lo n).go i H/\∃N:St->Hp->Prop,(∀σ' H',N σ' H'->∃m',m'<m/\W (i+1) m' σ' H')/\∀x H',(Itr lo n).yld i H x H'->g x σ H' λσ2 c=>d {D with nx:=N,ct:=N,bk:=D.nx} σ2 c):=by
 refine⟨λi m σ H=>m=n-i/\i<=n/\a i σ H,⟨n,by simp,B7 _,j⟩,?_⟩
 rintro i m σ H ⟨rfl,hi,p⟩
 by_cases b:i<n
 .refine .inr ⟨b,a (i+1),λσ' H' h=>⟨n-(i+1),by lia,Z,b,h⟩,λx H' y=>?_⟩;obtain⟨e,y⟩:=y;subst e y;exact f i σ _ b p
 .have e:i=n:=by lia
  subst e;exact .inl ⟨A0 _,hd σ H p⟩
end L2
namespace L2
open PySem PySem.Spec PyProof.Rows
abbrev R2:=V->V->Hp->VK->Prop
def OpR (X:Cx)(f:Value->Value->Sem Value)(r:R2):Prop :=
 ∀(pins:List (Addr×Obj))(s:Af)(σ:St)(H:Hp)(x y:V)(v u:Value)(Q:VK),Inv X pins σ H s->RelV x v->RelV y u->r x y H Q ->
  wpAny (model X.prog X.w) X.A (f v u) (EP X pins σ Q) X.xe s
def qer (X:Cx)(f:Value)(r:List V->Hp->VK->Prop):Prop :=
 ∀(pins:List (Addr×Obj))(s:Af)(σ:St)(H:Hp)(xs:List V)(us:List Value)(Q:VK),Inv X pins σ H s->Vals xs us->r xs H Q ->
  wpAny (model X.prog X.w) X.A (call f us) (EP X pins σ Q) X.xe s
def tOp (r:R2)(ta tb:TE):TE:=λσ H Q=>ta σ H λx H1=>tb σ H1 λy H2=>r x y H2 Q
def rI (C:Int->Int->Prop)(g:Int->Int->V):R2:=λx y H Q=>∃i j,x=.int i/\y=.int j/\C i j/\Q (g i j) H
def rI0 (g:Int->Int->V):R2:=λx y H Q=>∃i j,x=.int i/\y=.int j/\Q (g i j) H
section
variable {X:Cx}{a b c:Expr}{ta tb tc:TE}{pos:Pos}
theorem binT (l:PE X a ta)(o:PE X b tb){c:List (Addr×Obj)}{s:Af}{σ:St}{H:Hp}{R:V->V->Hp->Prop}(I:Inv X c σ H s)
  (h:ta σ H λx i=>tb σ i λy d=>R x y d){Q:Value->Af->Prop}{f:Value->Value->Sem Value}
  (k:∀v u g x y d,Inv X c σ d g->RelV x v->RelV y u->R x y d->wpAny (model X.prog X.w) X.A (f v u) Q X.xe g) :
  wpAny (model X.prog X.w) X.A (eval a X.env) (λv z=>wpAny (model X.prog X.w) X.A (eval b X.env) (λu p=>wpAny (model X.prog X.w) X.A (f v u) Q X.xe p) X.xe z) X.xe s:=by
 refine thn (l c s σ H _ I h) λv m e=>?_;obtain⟨x,i,B,j,t⟩:=e;refine thn (o c m σ i _ B t) λu g e=>?_;obtain⟨y,d,n,q,r⟩:=e;exact k v u g x y d n j q r
theorem zb {d:Operator}{r:R2}(k:OpR X (binaryOp d) r)(e:PE X a ta)(f:PE X b tb):PE X (.BinOp a d b pos) (tOp r ta tb):=by intro c s σ H Q I h;exact wpAny_BinOp (binT e f I h λv u j x y l g i m q=>k c j σ l x y v u Q g i m q)
theorem opI {f:Value->Value->Sem Value}{C:Int->Int->Prop}{g:Int->Int->Int}
  (rule:∀(i j:Int)(t u:Tok)(s:Af)(Q:Value->Af->Prop)(E:Value->Af->Prop),C i j->Q (.int (g i j) s.toks) {s with toks:=s.toks+1}->wpAny (model X.prog X.w) X.A (f (.int i t) (.int j u)) Q E s) :
  OpR X f (rI C λi j=>.int (g i j)):=by
 intro pins s σ H x y v u Q I a c h;obtain⟨i,j,rfl,rfl,b,q⟩:=h;obtain⟨t,rfl⟩:=a;obtain⟨t',rfl⟩:=c;exact rule i j t t' s _ _ b ⟨.int (g i j),H,I.tok _,⟨_,Z⟩,q⟩
theorem opI0 {f:Value->Value->Sem Value}{g:Int->Int->Int}
  (rule:∀(i j:Int)(t u:Tok)(s:Af)(Q:Value->Af->Prop)(E:Value->Af->Prop),Q (.int (g i j) s.toks) {s with toks:=s.toks+1}->wpAny (model X.prog X.w) X.A (f (.int i t) (.int j u)) Q E s) :
  OpR X f (rI0 λi j=>.int (g i j)):=by
 intro pins s σ H x y v u Q I a b h;obtain⟨i,j,rfl,rfl,q⟩:=h;obtain⟨t,rfl⟩:=a;obtain⟨t',rfl⟩:=b;exact rule i j t t' s _ _ ⟨.int (g i j),H,I.tok _,⟨_,Z⟩,q⟩
theorem opB0 {f:Value->Value->Sem Value}{g:Int->Int->Bool}
  (rule:∀(i j:Int)(t u:Tok)(s:Af)(Q:Value->Af->Prop)(E:Value->Af->Prop),Q (.bool (g i j)) s->wpAny (model X.prog X.w) X.A (f (.int i t) (.int j u)) Q E s) :
  OpR X f (rI0 λi j=>.bl (g i j)):=by
 intro pins s σ H x y v u Q I a b h;obtain⟨i,j,rfl,rfl,q⟩:=h;obtain⟨t,rfl⟩:=a;obtain⟨t',rfl⟩:=b;exact rule i j t t' s _ _ ⟨.bl (g i j),H,I,Z,q⟩
def CDiv (i j:Int):Prop:=0<j/\j<1073741824
def CMul (i j:Int):Prop:=(-(2 ^ 64)<i/\i<2 ^ 64)\/(-(2 ^ 64)<j/\j<2 ^ 64)
theorem CMul.ok {i j:Int}(h:CMul i j):IntMulOk i j:=by
 rcases h with ⟨a,b⟩|⟨a,b⟩
 .exact .of_left (intBits_le_64 a b)
 .exact .of_right (intBits_le_64 a b)
theorem qb2:OpR X (binaryOp .Add) (rI0 λi j=>.int (i+j)):=opI0 λ_ _ _ _ _ _ _ q=>add_int q
theorem qjw:OpR X (binaryOp .Sub) (rI0 λi j=>.int (i-j)):=opI0 λ_ _ _ _ _ _ _ q=>sub_int q
theorem qlf:OpR X (binaryOp .Mult) (rI CMul λi j=>.int (i*j)):=opI λ_ _ _ _ _ _ _ a q=>mul_int q a.ok
theorem qa7:OpR X (binaryOp .FloorDiv) (rI CDiv λi j=>.int (i / j)):=opI λi j _ _ _ _ _ a q=>by have h1:(0:Int)<j:=a.1;have h2:j<1073741824:=a.2;exact floordiv_int (by lia) (by rw[Int.fdiv_eq_ediv_of_nonneg i (by lia)];exact q) (.inl (PyProof.noPylong_small (by lia)))
theorem qau:OpR X (binaryOp .Mod) (rI (λ_ j=>0<j) λi j=>.int (i % j)):=opI λi j _ _ _ _ _ a q=>by have h1:(0:Int)<j:=a;exact mod_int' (by lia) (by rw[Int.fmod_eq_emod_of_nonneg i (by lia)];exact q)
end
noncomputable def scal:V->V->Bool
 |.non,.non=>true | .non,.int _=>true | .int _,.non=>true | .non,.bl _=>true | .bl _,.non=>true | .non,.str _=>true | .str _,.non=>true
 |.int _,.int _=>true | .bl _,.bl _=>true | .str _,.str _=>true | .byt _,.byt _=>true
 |.int _,.str _=>true | .str _,.int _=>true | .bl _,.str _=>true | .str _,.bl _=>true
 |_,_=>false
def rEq:R2:=λx y H Q=>scal x y=true/\Q (.bl (decide (x=y))) H
def rNe:R2:=λx y H Q=>scal x y=true/\Q (.bl (!decide (x=y))) H
theorem qsj {i j:Int}:decide (V.int i=V.int j)=(i == j):=by rw[C6];simp
theorem qvj {i j:Bool}:decide (V.bl i=V.bl j)=(i == j):=by rw[C6];simp
theorem qsk {i j:Str}:decide (V.str i=V.str j)=(i == j):=by rw[C6];simp
theorem qsl {i j:Array UInt8}:decide (V.byt i=V.byt j)=(i.toList == j.toList):=by rw[C6];cases i;cases j;simp
section
variable {X:Cx}{a b c:Expr}{ta tb tc:TE}{pos:Pos}
theorem qa3 {a:List (Addr×Obj)}{σ:St}{H:Hp}{s:Af}{Q:VK}{k b:Bool}(I:Inv X a σ H s)(q:Q (.bl k) H)(e:k=b):EP X a σ Q (.bool b) s:=by subst e;exact⟨.bl k,H,I,Z,q⟩
theorem qav:OpR X (compareOp .Eq) rEq:=by
 intro pins s σ H x y v u Q I c a h;obtain⟨b,q⟩:=h;cases x with
 |non =>
  cases c;cases y with
  |non=>cases a;exact PySem.EqNone.eq_none_none (qa3 I q (by simp))
  |bl j=>cases a;exact PySem.EqNone.eq_none_bool (qa3 I q (by simp))
  |int j=>obtain⟨t',rfl⟩:=a;exact PySem.EqNone.eq_none_int (qa3 I q (by simp))
  |str j=>obtain⟨t',rfl⟩:=a;exact PySem.EqNone.eq_none_str (qa3 I q (by simp))
  |_=>exact absurd (show false=true from b) AF
 |bl i =>
  cases c;cases y with
  |non=>cases a;exact PySem.EqNone.eq_bool_none (qa3 I q (by simp))
  |bl j=>cases a;exact eq_bool (qa3 I q qvj)
  |str j=>obtain⟨t',rfl⟩:=a;exact PySem.EqMixed.eq_bool_str (qa3 I q (by simp))
  |_=>exact absurd (show false=true from b) AF
 |int i =>
  obtain⟨t,rfl⟩:=c;cases y with
  |non=>cases a;exact PySem.EqNone.eq_int_none (qa3 I q (by simp))
  |int j=>obtain⟨t',rfl⟩:=a;exact eq_int (qa3 I q qsj)
  |str j=>obtain⟨t',rfl⟩:=a;exact PySem.EqMixed.eq_int_str (qa3 I q (by simp))
  |_=>exact absurd (show false=true from b) AF
 |str i =>
  obtain⟨t,rfl⟩:=c;cases y with
  |non=>cases a;exact PySem.EqNone.eq_str_none (qa3 I q (by simp))
  |bl j=>cases a;exact PySem.EqMixed.eq_str_bool (qa3 I q (by simp))
  |int j=>obtain⟨t',rfl⟩:=a;exact PySem.EqMixed.eq_str_int (qa3 I q (by simp))
  |str j=>obtain⟨t',rfl⟩:=a;exact eq_str (qa3 I q qsk)
  |_=>exact absurd (show false=true from b) AF
 |byt i =>
  obtain⟨t,rfl⟩:=c;cases y with
  |byt j=>obtain⟨t',rfl⟩:=a;exact PySem.W.eq_bytes (qa3 I q qsl)
  |_=>exact absurd (show false=true from b) AF
 |_=>cases y <;>exact absurd (show false=true from b) AF
theorem qie:OpR X (compareOp .NotEq) rNe:=by
 intro pins s σ H x y v u Q I c a h;obtain⟨b,q⟩:=h;cases x with
 |non =>
  cases c;cases y with
  |non=>cases a;exact PySem.EqNone.ne_none_none (qa3 I q (by simp))
  |bl j=>cases a;exact PySem.EqNone.ne_none_bool (qa3 I q (by simp))
  |int j=>obtain⟨t',rfl⟩:=a;exact PySem.EqNone.ne_none_int (qa3 I q (by simp))
  |str j=>obtain⟨t',rfl⟩:=a;exact PySem.EqNone.ne_none_str (qa3 I q (by simp))
  |_=>exact absurd (show false=true from b) AF
 |bl i =>
  cases c;cases y with
  |non=>cases a;exact PySem.EqNone.ne_bool_none (qa3 I q (by simp))
  |bl j=>cases a;exact ne_bool (qa3 I q (congrArg not qvj))
  |str j=>obtain⟨t',rfl⟩:=a;exact PySem.EqMixed.ne_bool_str (qa3 I q (by simp))
  |_=>exact absurd (show false=true from b) AF
 |int i =>
  obtain⟨t,rfl⟩:=c;cases y with
  |non=>cases a;exact PySem.EqNone.ne_int_none (qa3 I q (by simp))
  |int j=>obtain⟨t',rfl⟩:=a;exact ne_int (qa3 I q (congrArg not qsj))
  |str j=>obtain⟨t',rfl⟩:=a;exact PySem.EqMixed.ne_int_str (qa3 I q (by simp))
  |_=>exact absurd (show false=true from b) AF
 |str i =>
  obtain⟨t,rfl⟩:=c;cases y with
  |non=>cases a;exact PySem.EqNone.ne_str_none (qa3 I q (by simp))
  |bl j=>cases a;exact PySem.EqMixed.ne_str_bool (qa3 I q (by simp))
  |int j=>obtain⟨t',rfl⟩:=a;exact PySem.EqMixed.ne_str_int (qa3 I q (by simp))
  |str j=>obtain⟨t',rfl⟩:=a;exact ne_str (qa3 I q (congrArg not qsk))
  |_=>exact absurd (show false=true from b) AF
 |byt i =>
  obtain⟨t,rfl⟩:=c;cases y with
  |byt j=>obtain⟨t',rfl⟩:=a;exact PySem.W.ne_bytes (qa3 I q (congrArg not qsl))
  |_=>exact absurd (show false=true from b) AF
 |_=>cases y <;>exact absurd (show false=true from b) AF
theorem qg4:OpR X (compareOp .Lt) (rI0 λi j=>.bl (decide (i<j))):=opB0 λ_ _ _ _ _ _ _ q=>lt_int q
theorem qlg:OpR X (compareOp .LtE) (rI0 λi j=>.bl (decide (i<=j))):=opB0 λ_ _ _ _ _ _ _ q=>le_int q
theorem op_gt:OpR X (compareOp .Gt) (rI0 λi j=>.bl (decide (j<i))):=opB0 λ_ _ _ _ _ _ _ q=>gt_int q
theorem qfe:OpR X (compareOp .Is) (λx y H Q=>y=.non/\Q (.bl (decide (x=.non))) H):=by
 intro pins s σ H x y v u Q I a b h;obtain⟨rfl,q⟩:=h;cases b;refine is_none_gen (qa3 I q ?_);cases x <;>first
  | (cases a;rfl)
  | (obtain⟨t,rfl⟩:=a;rfl)
theorem qct:OpR X (compareOp .IsNot) (λx y H Q=>y=.non/\Q (.bl (!decide (x=.non))) H):=by
 intro pins s σ H x y v u Q I a b h;obtain⟨rfl,q⟩:=h;cases b;refine isnot_none_gen (qa3 I q ?_);cases x <;>first
  | (cases a;rfl)
  | (obtain⟨t,rfl⟩:=a;rfl)
theorem qob:OpR X (compareOp .NotIn) (λx y H Q=>∃i j,x=.str i/\y=.str j/\Q (.bl (!(!(AH.Str.occurrences j i 0 j.length 1).isEmpty))) H):=by intro pins s σ H x y v u Q I a b h;obtain⟨i,j,rfl,rfl,q⟩:=h;obtain⟨t,rfl⟩:=a;obtain⟨t',rfl⟩:=b;exact notIn_str (qa3 I q Z)
theorem qac (b:Expr){a:CmpOp}(h:a ≠ .In:=by decide)(h2:a ≠ .NotIn:=by decide):behindInMarks a b=false:=by
 have d:(a == CmpOp.In)=false:=by cases a <;>first|rfl|exact absurd rfl h
 have c:(a == CmpOp.NotIn)=false:=by cases a <;>first|rfl|exact absurd rfl h2
 cases b <;>simp[behindInMarks,d,c]
theorem qcb {d:CmpOp}{r:R2}(k:OpR X (compareOp d) r)(e:PE X a ta)(f:PE X b tb)(l:behindInMarks d b=false):PE X (.Compare a [d] [b] pos) (tOp r ta tb):=by intro c s σ H Q I h;exact wpAny_Compare1 (binT e f I h λv u j x y m g i n q=>k c j σ m x y v u Q g i n q) l
def tTest (t:TE):TT:=λσ H Q=>t σ H λx H'=>∃k,x=.bl k/\Q k H'
theorem qu {f:CmpOp}{r:R2}(t:OpR X (compareOp f) r)(j:PE X a ta)(n:PE X b tb)(B:behindInMarks f b=false):PT X (.Compare a [f] [b] pos) (tTest (tOp r ta tb)):=by
 intro d s σ H Q I h;refine wpAny_isTrue_Compare1 (thn (j d s σ H _ I h) λv l ⟨x,g,G,i,D⟩=>thn (n d l σ g _ G D) λu q ⟨y,E,m,p,C⟩ =>
  thn (t d q σ E x y v u _ m i p C) λc s3 ⟨z,F,w,A,k,e,o⟩=>?_) B
 subst e;cases A;exact BQ ⟨F,w,o⟩
def qvk (r r':R2)(ta tb tc:TE):TE:=λσ H Q=>ta σ H λx H1=>tb σ H1 λy H2=>r x y H2 λz H3=>∃k,z=.bl k /\
 (if k=true then tc σ H3 λw' H4=>r' y w' H4 Q else Q (.bl false) H3)
theorem qpf {i g:CmpOp}{r r':R2}(L:OpR X (compareOp i) r)(m:OpR X (compareOp g) r')(w:PE X a ta)(D:PE X b tb)(U:PE X c tc)
  (N:lastMarks [i,g] [b,c]=false:=by with_unfolding_all rfl):PE X (.Compare a [i,g] [b,c] pos) (qvk r r' ta tb tc):=by
 intro f s σ H Q I h;refine Compare_chain (thn (w f s σ H _ I h) λv B ⟨x,p,V,q,P⟩=>chain_link (thn (D f B σ p _ V P) λu K ⟨y,R,C,l,O⟩ =>
  thn (L f K σ R x y v u _ C q l O) λd G ⟨z,o,n,M,k,e,j⟩=>?_)) N
 subst e;cases M;refine BQ ?_;cases k with|false=>exact ite_ff ⟨.bl false,o,n,Z,j⟩|true=>exact ite_tt (chain_last (thn (U f G σ o _ n j) λS F ⟨T,J,E,A,t⟩=>m f F σ J y T u S Q E l A t))
theorem qlh {i g:CmpOp}{r r':R2}(S:OpR X (compareOp i) r)(n:OpR X (compareOp g) r')(F:PE X a ta)(G:PE X b tb)(hc:PE X c tc)
  (U:lastMarks [i,g] [b,c]=false:=by with_unfolding_all rfl):PT X (.Compare a [i,g] [b,c] pos) (tTest (qvk r r' ta tb tc)):=by
 intro f s σ H Q I h;refine isTrue_chain (thn (F f s σ H _ I h) λv C ⟨x,q,I1,t,q1⟩=>test_link (thn (G f C σ q _ I1 q1) λu R ⟨y,H2,D,m,W⟩ =>
  thn (S f R σ H2 x y v u _ D t m W) λd M ⟨z,p,o,T,k,e,j⟩=>?_)) U
 subst e;cases T;refine BQ ?_;cases k with
 |false =>obtain⟨k',V,N⟩:=j;cases V;exact ite_ff ⟨p,o,N⟩
 |true =>refine ite_tt (test_last (thn (hc f M σ p _ o j) λw' L ⟨z',O,J,B,w⟩=>thn (n f L σ O y z' u w' _ J m B w) λd' s5 l=>?_));obtain⟨z2,A,P,Y,k2,K,E⟩:=l;subst K;cases Y;exact BQ ⟨A,P,E⟩
theorem qli:(A4:Nat)<2 ^ 63:=by rw[Bl];decide
theorem qaa:OpR X (binaryOp .Add) (λx y H Q=>∃i j,x=.str i/\y=.str j/\i.length+j.length<=A4/\Q (.str (i++j)) H):=by intro pins s σ H x y v u Q I a b h;obtain⟨i,j,rfl,rfl,hz,q⟩:=h;obtain⟨t,rfl⟩:=a;obtain⟨t',rfl⟩:=b;exact add_str (λt' tk=>⟨.str (i++j),H,I.tok _,⟨_,Z⟩,q⟩) hz
theorem qf5 {x:V}{us:List Value}(r:Vals [x] us):∃u,us=[u]/\RelV x u:=by
 cases r with|cons r1 r2=>cases r2;exact⟨_,Z,r1⟩
theorem vals2 {x y:V}{us:List Value}(r:Vals [x,y] us):∃u w',us=[u,w']/\RelV x u/\RelV y w':=by
 cases r with
 |cons r1 r2 =>
  cases r2 with|cons r3 r4=>cases r4;exact⟨_,_,Z,r1,r3⟩
theorem qjx (b:X.calm=true):qer X (.builtin "max") (λxs H Q=>∃i j,xs=[.int i,.int j]/\Q (.int (if j > i then j else i)) H):=by
 intro pins s σ H xs us Q I r h;obtain⟨i,j,rfl,q⟩:=h;obtain⟨u,w',rfl,⟨t,rfl⟩,⟨t',rfl⟩⟩:=vals2 r;refine max_two_ints (I.ok.hd b) λh' tk k=>⟨_,H,I.kept k,?_,q⟩;by_cases a:j > i
 .rw[if_pos a,if_pos a];exact⟨_,Z⟩
 .rw[if_neg a,if_neg a];exact⟨_,Z⟩
theorem qnb (b:X.calm=true):qer X (.builtin "min") (λxs H Q=>∃i j,xs=[.int i,.int j]/\Q (.int (if j<i then j else i)) H):=by
 intro pins s σ H xs us Q I r h;obtain⟨i,j,rfl,q⟩:=h;obtain⟨u,w',rfl,⟨t,rfl⟩,⟨t',rfl⟩⟩:=vals2 r;refine min_two_ints (I.ok.hd b) λh' tk k=>⟨_,H,I.kept k,?_,q⟩;by_cases a:j<i
 .rw[if_pos a,if_pos a];exact⟨_,Z⟩
 .rw[if_neg a,if_neg a];exact⟨_,Z⟩
theorem qjy:qer X (.type "int") (λxs H Q=>(∃i,xs=[.int i]/\Q (.int i) H) \/ ∃k,xs=[.bl k]/\Q (.int (if k then 1 else 0)) H):=by
 intro pins s σ H xs us Q I r h;rcases h with ⟨i,rfl,q⟩|⟨k,rfl,q⟩
 .obtain⟨u,rfl,t,rfl⟩:=qf5 r;exact call_int_int ⟨.int i,H,I,⟨_,Z⟩,q⟩
 .obtain⟨u,rfl,a⟩:=qf5 r;cases a;exact call_int_bool ⟨.int (if k then 1 else 0),H,I.tok _,⟨_,Z⟩,q⟩
theorem qb3:qer X (.type "str") (λxs H Q=>∃i,xs=[.int i]/\i.natAbs.log2<1920/\Q (.str (toString i)) H):=by intro pins s σ H xs us Q I r h;obtain⟨i,rfl,hz,q⟩:=h;obtain⟨u,rfl,t,rfl⟩:=qf5 r;exact PySem.P.str_of_int hz ⟨.str _,H,I.tok _,⟨_,Z⟩,q⟩
def LenV (K:Ae)(x:V)(H:Hp)(n:Nat):Prop :=
 match x with
 |.str y=>y.length<=A4/\n=y.length
 |.byt y=>y.size<=A4/\n=y.size
 |.ref p=>(∃xs,SqL K H p xs/\n=xs.length) \/ ∃xs,SqT K H p xs/\n=xs.length
 |_=>False
theorem qa5:qer X (.builtin "len") (λxs H Q=>∃x n,xs=[x]/\LenV X.K x H n/\Q (.int n) H):=by
 intro pins s σ H xs us Q I r h;obtain⟨x,n,rfl,e,q⟩:=h;obtain⟨u,rfl,c⟩:=qf5 r;have hl:=qli;have hs:A4=16777216:=Bl;cases x with
 |str y =>obtain⟨t,rfl⟩:=c;obtain⟨hy,a⟩:y.length<=A4/\n=y.length:=e;subst a;exact len_str (by lia) ⟨.int _,H,I.tok _,⟨_,Z⟩,q⟩
 |byt y =>obtain⟨t,rfl⟩:=c;obtain⟨hy,a⟩:y.size<=A4/\n=y.size:=e;subst a;exact PySem.W.len_bytes (by lia) ⟨.int _,H,I.tok _,⟨_,Z⟩,q⟩
 |ref p =>
  cases c;have a:(∃xs,SqL X.K H p xs/\n=xs.length) \/ ∃xs,SqT X.K H p xs/\n=xs.length:=e;rcases a with ⟨xs,d,a⟩|⟨xs,d,a⟩
  .subst a;obtain⟨its,r',pl,hz⟩:=I.list d;have b:=r'.length;exact Calls.call_len_list pl.isList (by simp only[Ax];lia) ⟨.int xs.length,H,I.tok _,⟨_,by simp only[Ax];rw[b]⟩,q⟩
  .subst a;obtain⟨its,r',pl,hz⟩:=I.tuple d;have b:=r'.length;exact len_tuple pl (by simp only[Ax];lia) ⟨.int xs.length,H,I.tok _,⟨_,by simp only[Ax];rw[b]⟩,q⟩
 |_=>exact(show False from e).elim
end
end L2
namespace L2
open PySem PySem.Spec PyProof.Rows
structure ObjM (h:Heap)(x dx C:Addr)(mA:Str->Option Value):Prop where
 obj:h.get? x=some (C5 C dx)
 ns:h.Ns1 dx mA
 ne:dx≠x
theorem qnc {h:Heap}{dx:Addr}{c:Str->Option Value}(n:h.Ns1 dx c):∃od,h.get? dx=some od/\∀name,DV name od=some (c name):=by
 obtain⟨o,es,ep,f,hd,hk,_,g⟩:=n;refine⟨o,f,λname=>?_⟩;have e:=g name;unfold nsFind findBy at e;rw[<- Array.find?_toList]at e;unfold DV;rw[hd];dsimp only;split
 .rename_i y q;rw[q]at e;exact congrArg some e
 .rename_i q;rw[q]at e;have a:es.toList.any (·.refKey)=false:=by rw[DW];intro y i;obtain⟨z,t,b⟩:=hk y (Array.mem_toList_iff.mp i);simp[DictEntry.refKey,b]
  have d:¬es.toList.any (·.refKey)=true:=by rw[a];exact AF
  rw[if_neg d];exact congrArg some e
theorem ObjM.look {h:Heap}{x dx C:Addr}{a:Str->Option Value}(I:ObjM h x dx C a):∃od,PySem.W.InstAt h x (C5 C dx) C (some od)/\∀name,DV name od=some (a name) :=
 let ⟨od,ho,hl⟩:=qnc I.ns
 ⟨od,⟨I.obj,Z,Z,ho⟩,hl⟩
section
variable {prog:AK}{w:World}{A:AX}{E:Value->Af->Prop}{s:Af}{K:Ae}{x dx C f:Addr}{mA:Str->Option Value}{name:Str}{v:Value}
theorem qyn {a:Bool}{Q:Value->Af->Prop}(X:K.In s.heap)(I:ObjM s.heap x dx C mA)(c:DE K C name=true)(d:CT K C=true)
  (e:AW K (.ref C) name=some none)(f:mA name=some v)(b:PySem.W.handedIn v=true)(h:Q v {s with toks:=s.toks+1}) :
  wpAny (model prog w) A (getAttr (.ref x) name a) Q E s:=by
 obtain⟨od,J,hl⟩:=I.look;exact PySem.W.get_value X J (PySem.W.plainGet_of c).1 (PySem.W.findObj_own d e Z (by rw[hl,f])) b h
theorem qvl {pl:Sem Bool}{Q:Value×List Value->Af->Prop}(X:K.In s.heap)(I:ObjM s.heap x dx C mA)(a:DE K C name=true)
  (d:AW K (.ref C) name=some (some (.ref f)))(b:PySem.W.isFn K (.ref f)=true)(c:mA name=none)(h:Q (.ref f,[.ref x]) s) :
  wpAny (model prog w) A (getMethod (.ref x) name pl) Q E s:=by
 obtain⟨od,J,hl⟩:=I.look;exact PySem.W.method_fn X J (PySem.W.plainGet_of a).1 (PySem.W.plainGet_of a).2 d (beq_iff_eq.mp b) (by show (DV name od).map (·.isSome)=some false;rw[hl,c];rfl) h
theorem qyo {ns:List Str}{Q:Unit->Af->Prop}(X:K.In s.heap)(I:ObjM s.heap x dx C mA)
  (j:AW K (.ref C) "__setattr__"=some (some (.builtin "object.__setattr__")))(o:PySem.W.plainOver K C=true)(k:PySem.W.takerIn K C name=some none)(l:CT K C=true)
  (n:DC mA ns)(hsz:ns.length<=A4)
  (h:∀h',ObjM h' x dx C (λy=>if y=name then some v else mA y)->Bf dx s.heap h'->Q () {s with heap:=h',toks:=s.toks+2}) :
  wpAny (model prog w) A (setAttr (.ref x) name v) Q E s:=by
 obtain⟨od,J,hl⟩:=I.look;refine PySem.W.set_plain X J j (PySem.W.osa_open (s:={s with toks:=s.toks+1}) (r:=none) X J o k λb=>?_);obtain⟨cd,p,f⟩:=PySem.W.any_some l;have m:s.heap.get? x=some ⟨.ref C,some dx,.plain,#[]⟩:=I.obj;refine Ab (Ao (Ab (Ab (wpAny_loadPart m (Ab (BR.here (s:={s with toks:=s.toks+1}) (PySem.W.looks_clsIn X p) ?_))))));rw[f];refine Ao (a:=some dx) (Ab (Ao (Ab ?_)));refine wpAny_nsSet1 (s:={s with toks:=s.toks+1}) I.ns λh' d c=>?_;obtain⟨oD,esD,epD,e,i,g⟩:=d.count (DC.cons name v n);refine Ab (wpAny_lookBehind e (by rw[i];exact pastItsLine_dict (A3 g (by rw[Au];lia))) ?_);exact Ao (h _ ⟨(c.2 _ (Ba I.ne)).trans I.obj,d,I.ne⟩ c)
theorem qpg {R:Result->Af->Prop}{vs:List Value}{a:List (Str×Value)}(X:K.In s.heap)(c:PySem.W.makesIn K C=true)
  (e:AW K (.ref C) "__init__"=some (some (.ref f)))(i:Ct K (.ref f)=some (.type "function"))
  (h:codeAny (model prog w) (A.under (.builtin "type.__call__" ⟨.ref C::vs,a⟩)) (.call (.ref f) ⟨.ref (s.heap.objs.size+1)::vs,a⟩) (PySem.W.InitBack (s.heap.objs.size+1) R)
   {s with heap:=(s.heap.push Ck).push (C5 C s.heap.objs.size)}) :
  codeAny (model prog w) A (.call (.ref C) ⟨vs,a⟩) R s:=by
 obtain⟨hh,g,d,t,os⟩:=s;exact PySem.W.make_core (PySem.W.makes_of X c) (PySem.W.looks_findIn X e) (λb=>PySem.W.bind_fn X b i) (.inl Z) h
end
noncomputable def qdc (f:Str)(v:V):List (Str×V)->List (Str×V)
 | []=>[(f,v)]
 | (g,x)::r=>if g=f then (g,v)::r else (g,x)::qdc f v r
theorem qg5 (f g:Str)(v:V):∀fs:List (Str×V),(qdc f v fs).lookup g=if g=f then some v else fs.lookup g
 | []=>by
  show CU g [(f,v)]=_;by_cases h:g=f
  .have a:(g == f)=true:=beq_iff_eq.mpr h;simp only[CU,a,if_pos h]
  .have a:(g == f)=false:=beq_eq_false_iff_ne.mpr h;simp only[CU,a,if_neg h]
 | (k,x)::r=>by
  have b:=qg5 f g v r;rw[show qdc f v ((k,x)::r)=(if k=f then (k,v)::r else (k,x)::qdc f v r) from Z];by_cases hk:k=f
  .rw[if_pos hk];by_cases h:g=k
   .have a:(g == k)=true:=beq_iff_eq.mpr h;simp only[CU,a,if_pos (h.trans hk)]
   .have a:(g == k)=false:=beq_eq_false_iff_ne.mpr h;simp only[CU,a,if_neg (λe:g=f=>h (e.trans hk.symm))]
  .rw[if_neg hk];by_cases h:g=k
   .have a:(g == k)=true:=beq_iff_eq.mpr h;simp only[CU,a,if_neg (λe:g=f=>hk (h.symm.trans e))]
   .have a:(g == k)=false:=beq_eq_false_iff_ne.mpr h;simp only[CU,a];exact b
theorem qf6 (f:Str)(v:V):∀fs:List (Str×V),f∈(qdc f v fs).map (·.1)/\∀g,g∈fs.map (·.1)->g∈(qdc f v fs).map (·.1)
 | []=>⟨by simp[qdc],λg h=>by simp at h⟩
 | (k,x)::r=>by
  obtain⟨b,a⟩:=qf6 f v r;rw[show qdc f v ((k,x)::r)=(if k=f then (k,v)::r else (k,x)::qdc f v r) from Z];by_cases hk:k=f
  .rw[if_pos hk];subst hk;exact⟨by simp,λg h=>by simpa using h⟩
  .rw[if_neg hk];refine⟨?_,λg h=>?_⟩
   .rw[A6];exact Ar _ b
   .rw[A6]at h |-;rcases An.mp h with e|e
    .exact An.mpr (.inl e)
    .exact Ar _ (a g e)
theorem qkj (f:Str)(v:V):∀fs:List (Str×V),(qdc f v fs).length<=fs.length+1
 | []=>by simp[qdc]
 | (k,x)::r=>by
  have ih:=qkj f v r;rw[show qdc f v ((k,x)::r)=(if k=f then (k,v)::r else (k,x)::qdc f v r) from Z];by_cases hk:k=f
  .rw[if_pos hk,Au,Au];lia
  .rw[if_neg hk,Au,Au];lia
theorem RelO.some_of {v:V}{o:Option Value}(r:RelO (some v) o):∃u,o=some u/\RelV v u:=by
 cases o with|none=>exact(show False from r).elim|some u=>exact⟨u,Z,r⟩
theorem RelO.none_of {o:Option Value}(r:RelO none o):o=none:=by
 cases o with|none=>rfl|some u=>exact(show False from r).elim
theorem qnd {v:V}{u:Value}(r:RelV v u):PySem.W.handedIn u=true:=by
 cases v with
 |non=>cases (show u=BE from r);rfl
 |bl b=>cases (show u=Value.bool b from r);rfl
 |int i=>obtain⟨t,e⟩:=(show ∃t,u=Value.int i t from r);cases e;rfl
 |str x=>obtain⟨t,e⟩:=(show ∃t,u=DQ x t from r);cases e;rfl
 |byt b=>obtain⟨t,e⟩:=(show ∃t,u=Value.bytes b t from r);cases e;rfl
 |flt b=>obtain⟨t,e⟩:=(show ∃t,u=Value.float b t from r);cases e;rfl
 |ref a=>cases (show u=Ap a from r);rfl
 |ty n=>cases (show u=BV n from r);rfl
section
variable {P:AK}{w:World}{H H':Hp}{h h':Heap}{a C dx:Addr}{fs fs':List (Str×V)}
theorem qk2 (c:HOk P w H h)(e:H a=some (.ins C dx fs)):∃b,ObjM h a dx C b/\(∀f,RelO (fs.lookup f) (b f))/\DC b (fs.map (·.1))/\fs.length<=1000/\H dx=some (.own a):=by obtain⟨d,z,g,i,b,n,r,q⟩:=(show ObjOk P w H h a (.ins C dx fs) from c a _ e);exact⟨b,⟨i,n,g⟩,r,q,z,d⟩
end
structure Cls (K:Ae)(C:Addr):Prop where
 pg:DE K C CF=true
 hd:CT K C=true
 po:PySem.W.plainOver K C=true
 sa:AW K (.ref C) "__setattr__"=some (some (.builtin "object.__setattr__"))
theorem Cls.get {K:Ae}{C:Addr}(c:Cls K C)(f:Str):DE K C f=true:=c.pg
def NoAttr (K:Ae)(C:Addr)(f:Str):Prop:=AW K (.ref C) f=some none
theorem NoAttr.taker {K:Ae}{C:Addr}{f:Str}(n:NoAttr K C f):PySem.W.takerIn K C f=some none:=by unfold PySem.W.takerIn;rw[show AW K (.ref C) f=some none from n];rfl
structure Meth (K:Ae)(C:Addr)(m:Str)(f:Addr):Prop where
 at_:AW K (.ref C) m=some (some (.ref f))
 fn:PySem.W.isFn K (.ref f)=true
 kp:Bq K (.ref f)=true
section
variable {X:Cx}{pins:List (Addr×Obj)}{σ:St}{H:Hp}{s:Af}{a C dx:Addr}{fs:List (Str×V)}{f:Str}{v:V}{A:AX}{E:Value->Af->Prop}
theorem qq1 {b:Bool}{Q:Value->Af->Prop}(I:Inv X pins σ H s)(e:H a=some (.ins C dx fs))(c:Cls X.K C)(n:NoAttr X.K C f)(l:fs.lookup f=some v)
  (h:∀u s',Inv X pins σ H s'->RelV v u->Q u s'):wpAny (model X.prog X.w) A (getAttr (.ref a) f b) Q E s:=by
 obtain⟨g,O,r,_,_,_⟩:=qk2 I.hok e;obtain⟨u,i,d⟩:=RelO.some_of (v:=v) (o:=g f) (by rw[<- l];exact r f);exact qyn I.kIn O (c.get f) c.hd n i (qnd d) (h u _ (I.tok _) d)
theorem qlj {m:Str}{g:Addr}{pl:Sem Bool}{Q:Value×List Value->Af->Prop}(I:Inv X pins σ H s)(e:H a=some (.ins C dx fs))(c:Cls X.K C)(k:Meth X.K C m g)(l:fs.lookup m=none)
  (h:Q (.ref g,[.ref a]) s):wpAny (model X.prog X.w) A (getMethod (.ref a) m pl) Q E s:=by
 obtain⟨b,O,r,_,_,_⟩:=qk2 I.hok e;have d:b m=none:=RelO.none_of (by rw[<- l];exact r m);exact qvl I.kIn O (c.get m) k.at_ k.fn d h
theorem qq2 {y:V}{u:Value}{Q:Unit->Af->Prop}(I:Inv X pins σ H s)(e:H a=some (.ins C dx fs))(c:Cls X.K C)(n:NoAttr X.K C f)(hl:fs.length<1000)(t:RelV y u)
  (h:∀s',Inv X pins σ (upd H a (.ins C dx (qdc f y fs))) s'->Q () s'):wpAny (model X.prog X.w) A (setAttr (.ref a) f u) Q E s:=by
 obtain⟨i,O,r,k,_,j⟩:=qk2 I.hok e;have hz:(fs.map (·.1)).length<=A4:=by rw[Ac,Bl];lia
 refine qyo I.kIn O c.sa c.po n.taker c.hd k hz λh' d m=>h _ ?_;have hd:∃o,h'.get? dx=some o:=let ⟨o,_,_,e',_⟩:=d.ns;⟨o,e'⟩;refine I.write (x:=a) (e:=dx) (by rw[e];exact Da) (.inr j) (λb q l z=>(m.2 b l).trans z) hd ?_;refine⟨by rw[qp O.ne];exact j,?_,O.ne,d.obj,_,d.ns,λg=>?_,λg p=>?_⟩
 .have:=qkj f y fs;lia
 .show RelO ((qdc f y fs).lookup g) (if g=f then some u else i g);rw[qg5];by_cases q:g=f
  .rw[if_pos q,if_pos q];exact t
  .rw[if_neg q,if_neg q];exact r g
 .by_cases q:g=f
  .rw[q];exact(qf6 f y fs).1
  .refine(qf6 f y fs).2 g (k g λz=>p ?_);show (if g=f then some u else i g)=none;rw[if_neg q];exact z
theorem Inv.made (I:Inv X pins σ H s):Inv X pins σ (upd (upd H s.heap.objs.size (.own (s.heap.objs.size+1))) (s.heap.objs.size+1) (.ins C s.heap.objs.size []))
  {s with heap:=(s.heap.push Ck).push (C5 C s.heap.objs.size)}:=by
 have d:(s.heap.push Ck).get? s.heap.objs.size=some Ck:=Aw s.heap rfl;have f:((s.heap.push Ck).push (C5 C s.heap.objs.size)).get? (s.heap.objs.size+1)=some (C5 C s.heap.objs.size):=by
  have:=Aw (s.heap.push Ck) (o:=C5 C s.heap.objs.size) rfl
  rwa [Bx]at this
 have j:(s.heap.push Ck).Ns s.heap.objs.size (λ_=>none):=⟨Ck,#[],_,d,Z,(λe h=>absurd h (by simp)),λ_=>rfl⟩;have i:=I.laid (a:=s.heap.objs.size) (o:=.own (s.heap.objs.size+1)) (h':=s.heap.push Ck) (t':=s.toks) (λb u q=>Aj _ q) (A0 _) ⟨_,d⟩;refine i.laid (a:=s.heap.objs.size+1) (o:=.ins C s.heap.objs.size []) (t':=s.toks) (λb u q=>Aj _ q) (BW (Bx _ _)) ?_;have c:s.heap.objs.size≠s.heap.objs.size+1:=AG (Cc _);refine⟨by rw[qp c,qi],B7 _,c,f,λ_=>none,(Heap.Ns1.of_empty j).at λo q=>Aj _ q,λ_=>Da,λy g=>absurd Z g⟩
theorem qsm {prog:AK}{w:World}{env:Env}{e:Expr}{f:Str}{pos:Pos}{s:Af}{Q:Value->Af->Prop}(b:attributeBase e f env (eval e env)=eval e env)
  (h:wpAny (model prog w) A (eval e env) (λo a=>wpAny (model prog w) A (getAttr o f true) Q E a) E s):wpAny (model prog w) A (eval (.Attribute e f pos) env) Q E s :=
 Attribute_any_ h (by rw[arm_eval_Attribute,b])
end
def tFld (K:Ae)(ta:TE)(f:Str):TE:=λσ H Q=>ta σ H λx H1=>∃a C dx fs v,x=.ref a/\H1 a=some (.ins C dx fs)/\Cls K C/\NoAttr K C f/\fs.lookup f=some v/\Q v H1
def sFld (K:Ae)(ta tv:TE)(f:Str):TS:=λD σ H=>tv σ H λy H1=>ta σ H1 λx H2=>∃a C dx fs,x=.ref a/\H2 a=some (.ins C dx fs)/\Cls K C/\NoAttr K C f/\fs.length<1000 /\
 D.nx σ (upd H2 a (.ins C dx (qdc f y fs)))
section
variable {X:Cx}{o e value:Expr}{f:Str}{pos pos' tpos:Pos}{ta tv:TE}
theorem qaq (g:PE X e ta)(k:attributeBase e f X.env (eval e X.env)=eval e X.env):PE X (.Attribute e f pos) (tFld X.K ta f):=by intro b s σ H Q I h;refine qsm k (thn (g b s σ H _ I h) λu s1 d=>?_);obtain⟨x,i,r,m,a,C,dx,fs,v,ex,o,c,n,l,q⟩:=d;subst ex;obtain rfl:u=Ap a:=m;exact qq1 r o c n l λu' s2 j p=>⟨v,i,j,p,q⟩
theorem qd4 (i:PE X o ta)(v:PE X value tv)(g:swapsWith value (some (.Attribute o f pos')) pos.line X.env=pure false):PS X (.Assign [.Attribute o f pos'] value pos) (sFld X.K ta tv f):=by intro b s σ H D I h;refine Ee (thn (v b s σ H _ I h) λu j ⟨y,e,z,w,q⟩=>thn (i b j σ e _ z q) λov s2 d=>?_) g;obtain⟨x,H2,k,m,a,C,dx,fs,ex,p,c,n,l,t⟩:=d;subst ex;obtain rfl:ov=Ap a:=m;exact qq2 k p c n l w λs3 r=>⟨σ,_,r,t⟩
end
section
variable {X:Cx}{pins:List (Addr×Obj)}{σ:St}{H:Hp}{s:Af}{A:AX}{E Q:Value->Af->Prop}{c:Value}{b:Bool}
inductive TyOf (K:Ae) (H:Hp):V->Value->Prop where
 |non:TyOf K H .non (.type "NoneType")
 |bl (x:Bool):TyOf K H (.bl x) (.type "bool")
 |int (i:Int):TyOf K H (.int i) (.type "int")
 |str (x:Str):TyOf K H (.str x) (.type "str")
 |flt (x:UInt64):TyOf K H (.flt x) (.type "float")
 |lst {a:Addr} {xs:List V} (e:H a=some (.lst xs)):TyOf K H (.ref a) (.type "list")
 |frz {a:Addr} {o:Obj} {xs:List V} (e:H a=some (.frz o (.lst xs))):TyOf K H (.ref a) (.type "list")
 |tup {a:Addr} {xs:List V} (e:H a=some (.tup xs)):TyOf K H (.ref a) (.type "tuple")
 |dK {a:Addr} {kvs:List (Key×V)} (e:H a=some (.dK kvs)):TyOf K H (.ref a) (.type "dict")
 |dT {a:Addr} {kvs:List (List Key×V)} (e:H a=some (.dT kvs)):TyOf K H (.ref a) (.type "dict")
 |ins {a C dx:Addr} {fs:List (Str×V)} (e:H a=some (.ins C dx fs)) (cl:Cls K C) (ha:AW K (.ref C) "__class__"=some (some (.builtin "object.__class__")))
   (hn:DX K (.builtin "object.__class__") "__get__"=some (some (.builtin "getset_descriptor.__get__"))) (htk:PySem.W.takesIn K (.builtin "object.__class__")=some true)
   (hm:PySem.W.mroIn K C (.type "object")=some true):TyOf K H (.ref a) (.ref C)
theorem qts {x:V}{u t:Value}(I:Inv X pins σ H s)(d:RelV x u)(ty:TyOf X.K H x t)(e:BI X.K t c=some b)(h:∀tk,Q (.bool b) {s with toks:=tk}) :
  wpAny (model X.prog X.w) A (call (.builtin "isinstance") [u,c]) Q E s:=by
 cases ty with
 |non=>cases (show u=BE from d);exact Ca PySem.W.kitx_none I.kIn Da e (λz=>nomatch z) h
 |bl y=>cases (show u=Value.bool y from d);exact Ca PySem.W.kitx_bool I.kIn Da e (λz=>nomatch z) h
 |int i=>obtain⟨t,q⟩:=(show ∃t,u=Value.int i t from d);cases q;exact Ca PySem.W.kitx_int I.kIn Da e (λz=>nomatch z) h
 |str y=>obtain⟨t,q⟩:=(show ∃t,u=DQ y t from d);cases q;exact Ca PySem.W.kitx_str I.kIn Da e (λz=>nomatch z) h
 |flt y=>obtain⟨t,q⟩:=(show ∃t,u=Value.float y t from d);cases q;exact Ca PySem.W.kitx_float I.kIn Da e (λz=>nomatch z) h
 | @lst a xs ea =>cases (show u=Ap a from d);obtain⟨_,_,n,_,f⟩:=(show ObjOk X.prog X.w H s.heap a (.lst xs) from I.hok a _ ea);exact Ca PySem.W.kitx_list I.kIn ⟨_,f,Z⟩ e (λz=>nomatch z) h
 | @frz a ob xs ea =>cases (show u=Ap a from d);obtain⟨_,_,_,n,_,f⟩:=(show ObjOk X.prog X.w H s.heap a (.frz ob (.lst xs)) from I.hok a _ ea);exact Ca PySem.W.kitx_list I.kIn ⟨_,f,Z⟩ e (λz=>nomatch z) h
 | @tup a xs ea =>cases (show u=Ap a from d);obtain⟨_,_,_,p⟩:=(show ObjOk X.prog X.w H s.heap a (.tup xs) from I.hok a _ ea);obtain⟨o,f,g,_⟩:=p;exact Ca PySem.W.kitx_tuple I.kIn ⟨o,f,g⟩ e (λz=>nomatch z) h
 | @dK a kvs ea =>cases (show u=Ap a from d);obtain⟨_,_,vs,_,p⟩:=(show ObjOk X.prog X.w H s.heap a (.dK kvs) from I.hok a _ ea);obtain⟨o,es,ep,f,g,_⟩:=p;exact Ca PySem.W.kitx_dict I.kIn ⟨o,f,g.1⟩ e (λz=>nomatch z) h
 | @dT a kvs ea =>cases (show u=Ap a from d);obtain⟨_,_,xs,_,o,es,ep,f,g,_⟩:=(show ObjOk X.prog X.w H s.heap a (.dT kvs) from I.hok a _ ea);exact Ca PySem.W.kitx_dict I.kIn ⟨o,f,g.1⟩ e (λz=>nomatch z) h
 | @ins a C dx fs ea cl ha hn htk hm =>cases (show u=Ap a from d);obtain⟨mA,O,_⟩:=qk2 I.hok ea;obtain⟨od,J,_⟩:=O.look;exact Ca (PySem.W.kitx_own (cl.get _) cl.hd ha hn htk hm) I.kIn J e (λz=>nomatch z) h
end
end L2
namespace L2
open PySem PySem.Spec PyProof.Rows
structure Room (k:Nat)(A:AX):Prop where
 hd:A.handled=none
 dp:A.depth+3*k+5<recursionLimit
 un:A.units+16*k+200<cLine
theorem Room.mono {j k:Nat}{A:AX}(r:Room k A)(h:j<=k):Room j A:=⟨r.hd,by have:=r.dp;lia,by have:=r.un;lia⟩
theorem Room.deeper {k:Nat}{A:AX}(r:Room (k+1) A)(env:Env):Room k (A.deeper env) :=
 ⟨r.hd,by have:=r.dp;show A.depth+1+3*k+5<_;lia,by have:=r.un;show A.units+3+16*k+200<_;lia⟩
theorem qq3 {A:AX}{C:Addr}{us:List Value}{a:List (Str×Value)}:(A.under (.builtin "type.__call__" ⟨.ref C::us,a⟩)).depth=A.depth+1:=by
 first|rfl|simp[AX.under,Code.weight,Code.isCreation,Code.isGuard,Code.isCaller,Code.frames,Code.isFrame,guardIds]
theorem qq4 {A:AX}{C:Addr}{us:List Value}{a:List (Str×Value)}:(A.under (.builtin "type.__call__" ⟨.ref C::us,a⟩)).units=A.units+1:=by
 first|rfl|simp[AX.under,Code.cUnits,Code.frames,Code.isFrame]
theorem Room.make {k:Nat}{A:AX}(r:Room (k+1) A)(C:Addr)(us:List Value)(a:List (Str×Value)):Room k (A.under (.builtin "type.__call__" ⟨.ref C::us,a⟩)) :=
 ⟨r.hd,by have:=r.dp;rw[qq3];lia,by have:=r.un;rw[qq4];lia⟩
theorem Room.depth {k:Nat}{A:AX}(r:Room k A):A.depth<recursionLimit:=by have:=r.dp;lia
theorem Room.units {k:Nat}{A:AX}(r:Room k A):A.units+64<cLine:=by have:=r.un;lia
theorem Room.units0 {k:Nat}{A:AX}(r:Room k A):A.units<cLine:=by have:=r.un;lia
def tNil:TA:=λ_ H Q=>Q [] H
def tCons (ta:TE)(tr:TA):TA:=λσ H Q=>ta σ H λx H1=>tr σ H1 λxs H2=>Q (x::xs) H2
section
variable {X:Cx}{e:Expr}{es:List Expr}{te:TE}{t:TA}{pos:Pos}
theorem qf:PA X [] tNil:=λ_ _ _ _ H Q I h=>D7 ⟨[],H,I,.nil,h⟩
theorem qb (g:PE X e te)(l:PA X es t)(d:starEach (e::es) X.env=(false,eval e X.env)::starEach es X.env:=by rfl):PA X (e::es) (tCons te t):=by intro pos a s σ H Q I h;rw[d];show wpAny _ _ (spliced ((false,eval e X.env)::backTo pos (starEach es X.env))) _ _ s;refine Dq (thn (g a s σ H _ I h) λu i b=>?_);obtain⟨x,c,p,f,n⟩:=b;exact thn (l pos a i σ c _ p n) λus s2 ⟨xs,o,j,k,m⟩=>⟨x::xs,o,j,.cons f k,m⟩
def tTup (t:TA):TE:=λσ H Q=>t σ H λxs H1=>xs.length<=A4/\∀p,H1 p=none->Q (.ref p) (upd H1 p (.tup xs))
def tLst (t:TA):TE:=λσ H Q=>t σ H λxs H1=>xs.length<=A4/\∀p,H1 p=none->Q (.ref p) (upd H1 p (.lst xs))
theorem zm {x1}(h:PA X es t):PE X (.Tuple es x1 pos) (tTup t):=by intro c s σ H Q I i;refine wpAny_Tuple_spliced (thn (h pos c s σ H _ I i) λus a ⟨xs,d,f,r,z,q⟩=>⟨by rw[<- r.length];exact z,?_⟩);have g:d a.heap.objs.size=none:=f.hok.fresh (A0 _);refine⟨.ref a.heap.objs.size,upd d a.heap.objs.size (.tup xs),f.laid (t':=a.toks) (λb u e=>Aj _ e) (A0 _) ?_,Z,q _ g⟩;exact⟨z,us,r,⟨_,Aw _ Z,Z,_,Z⟩⟩
theorem zj (h:PA X es t):PE X (.List es pos) (tLst t):=by intro c s σ H Q I i;refine wpAny_List_spliced (thn (h pos c s σ H _ I i) λus a ⟨xs,d,f,r,z,q⟩=>⟨by rw[<- r.length];exact z,?_⟩);have g:d a.heap.objs.size=none:=f.hok.fresh (A0 _);refine⟨.ref a.heap.objs.size,upd d a.heap.objs.size (.lst xs),f.laid (t':=a.toks) (λb u e=>Aj _ e) (A0 _) ?_,Z,q _ g⟩;exact⟨z,us,0,r,Aw _ Z⟩
end
abbrev Sp:=List V->Hp->VK->XK->Prop
abbrev CXT:=List Env->Hp->Af->XK->Value->Af->Prop
structure Env0 (P:AK)(w:World)(K:Ae)(mg:Str->Option Value)(base:Heap)(A:AX)(outer:List Env)(s:Af)(H:Hp):Prop where
 frames:A.frames=some outer
 mod:Mod K mg base
 bs:∀b o,base.get? b=some o->s.heap.get? b=some o/\H b=none
 bsz:base.objs.size<=s.heap.objs.size
 funs:s.heap.FunFrames base outer
 frf:∀b∈frs outer,H b=none
 hok:HOk P w H s.heap
 bare:AllBare s.gens
def CE (outer:List Env)(P:AK)(w:World)(H:Hp)(s:Af)(Q:VK)(u:Value)(s':Af):Prop :=
 ∃v H',s'.os=s.os/\AllBare s'.gens/\Un (frs outer) [] H H' s.heap s'.heap/\HOk P w H' s'.heap/\RelV v u/\Q v H'
def CR (CX:CXT)(outer:List Env)(P:AK)(w:World)(H:Hp)(s:Af)(Q:VK)(E:XK)(r:Result)(s':Af):Prop :=
 match r with
 |.ok (.ret u)=>CE outer P w H s Q u s'
 |.ok _=>False
 |.error e=>CX outer H s E e s'
structure FnOk (P:AK)(w:World)(K:Ae)(mg:Str->Option Value)(base:Heap)(CX:CXT)(k:Nat)(f:Addr)(fd:AA)(ps:List Str)(sp:Sp):Prop where
 len:∀vs H Q E,sp vs H Q E->vs.length=ps.length
 run:∀(A:AX)(outer:List Env)(s:Af)(H:Hp)(args:Args)(us:List Value)(vs:List V)(Q:VK)(E:XK),Room k A->Env0 P w K mg base A outer s H->BindsTo s fd args (ps.zip us)->Vals vs us->sp vs H Q E ->
  codeAny (model P w) A (.call (.ref f) args) (CR CX outer P w H s Q E) s
theorem Env0.make {P:AK}{w:World}{K:Ae}{mg:Str->Option Value}{a:Heap}{A:AX}{outer:List Env}{s:Af}{H:Hp}(e:Env0 P w K mg a A outer s H)(C:Addr)(us:List Value)(b:List (Str×Value)) :
  Env0 P w K mg a (A.under (.builtin "type.__call__" ⟨.ref C::us,b⟩)) outer s H:=⟨by first|exact e.frames | (simpa [AX.under,Code.envs,Code.isFrame,pushEnvs] using e.frames),e.mod,e.bs,e.bsz,e.funs,e.frf,e.hok,e.bare⟩
section
variable {X:Cx}{pins:List (Addr×Obj)}{σ:St}{H:Hp}{s s':Af}
theorem Inv.env0 (I:Inv X pins σ H s):Env0 X.prog X.w X.K X.mg X.base X.A X.stack s H :=
 ⟨I.ok.frames,I.ok.mod,I.bs,A3 I.ok.bsz I.sz,I.stack,I.stkFree,I.hok,I.bare⟩
theorem Inv.after {Q:VK}{u:Value}(I:Inv X pins σ H s)(h:CE X.stack X.prog X.w H s Q u s'):EP X pins σ Q u s':=by obtain⟨v,H',os,a,un,e,r,q⟩:=h;obtain⟨f,g,d,t,c⟩:=s';obtain rfl:c=s.os:=os;exact⟨v,H',I.call (h':=f) (g':=g) (d':=d) (t':=t) (ch:=[]) un e a (λb z=>absurd z (by simp)),r,q⟩
end
def tCall (sp:Sp)(dvs:List V)(E:XK)(t:TA):TE:=λσ H Q=>t σ H λvs H1=>sp (vs++dvs) H1 Q E
def tMeth (C:Addr)(m:Str)(sp:Sp)(dvs:List V)(E:XK)(ta:TE)(t:TA):TE:=λσ H Q=>ta σ H λx H1=>∃a dx fs,x=.ref a/\H1 a=some (.ins C dx fs)/\fs.lookup m=none /\
 t σ H1 λvs H2=>sp (x::(vs++dvs)) H2 Q E
def tMake (C:Addr)(sp:Sp)(dvs:List V)(E:XK)(t:TA):TE:=λσ H Q=>t σ H λvs H1=>∀x dx,H1 x=none->H1 dx=none->dx≠x ->
 sp (.ref x::(vs++dvs)) (upd (upd H1 dx (.own x)) x (.ins C dx [])) (λv H2=>v=.non/\Q (.ref x) H2) E
def Binds (K:Ae)(fd:AA)(ps:List Str)(ds:List Value):Prop :=
 ∀(s:Af)(us:List Value),K.In s.heap->(us++ds).length=ps.length->BindsTo s fd ⟨us,[]⟩ (ps.zip (us++ds))
theorem Binds.all {K:Ae}{a:AA}{ps:List Str}(h:∀us:List Value,us.length=ps.length->bindArgs a ⟨us,[]⟩=pure (ps.zip us)):Binds K a ps []:=λs us _ hl=>by rw[Bm]at hl |-;exact .of_eq (h us hl)
def qgg (CX:CXT)(X:Cx)(E:XK):Prop:=∀(pins:List (Addr×Obj))(σ:St)(H:Hp)(s:Af)(e:Value)(s':Af),Inv X pins σ H s->CX X.stack H s E e s'->X.xe e s'
section
variable {X:Cx}{CX:CXT}{k:Nat}{f C:Addr}{fd:AA}{ps:List Str}{sp:Sp}{dvs:List V}{ds:List Value}{E:XK}{x m:Str}{p pos apos:Pos}{e o:Expr}{es:List Expr}{ta:TE}{t:TA}
theorem qq5 {a:List (Addr×Obj)}{σ:St}{H:Hp}{s:Af}{Q:VK}{us:List Value}{vs:List V}(F:FnOk X.prog X.w X.K X.mg X.base CX k f fd ps sp)(i:Room k X.A)(j:Binds X.K fd ps ds)(hd:Vals dvs ds)(d:qgg CX X E)
  (I:Inv X a σ H s)(r:Vals vs us)(h:sp (vs++dvs) H Q E):wpAny (model X.prog X.w) X.A (call (.ref f) us) (EP X a σ Q) X.xe s:=by
 have c:Vals (vs++dvs) (us++ds):=r.append hd;have hl:(us++ds).length=ps.length:=by rw[<- c.length];exact F.len _ _ _ _ h
 refine Db (CA (F.run X.A X.stack s H ⟨us,[]⟩ (us++ds) (vs++dvs) Q E i I.env0 (j s us I.kIn hl) c h) λr g b=>?_);cases r with
 |error e=>exact d a σ H s e g I b
 |ok fl =>
  cases fl with|ret u=>exact I.after b|next=>exact BK b|brk=>exact BK b|cont=>exact BK b
theorem zf (F:FnOk X.prog X.w X.K X.mg X.base CX k f fd ps sp)(i:Room k X.A)(l:Gl X x)(j:X.mg x=some (.ref f))(hk:Bq X.K (.ref f)=true)(g:Binds X.K fd ps ds)(hd:Vals dvs ds)(m:qgg CX X E)
  (d:PA X (e::es) t)(b:(x == ("__debug__" : Str))=false:=by decide)(he:starEach (e::es) X.env=(false,eval e X.env)::starEach es X.env:=by rfl)(hpl:(backTo pos (starEach es X.env)).any (·.1)=false:=by rfl) :
  PE X (.Call (.Name x p) (e::es) [] pos) (tCall sp dvs E t):=by
 intro a s σ H Q I h;refine B9 (qfs I l j ?_ b);refine CH (h₀:=X.base) I.ok.mod.kin hk (thn (d pos a s σ H _ I h) λus s1 ⟨vs,H1,c,r,q⟩=>⟨c.kIn,?_⟩) he hpl;exact qq5 F i g hd m c r q
theorem qyp {pl:Sem Bool}(p:PE X o ta)(c:Cls X.K C)(i:Meth X.K C m f)(F:FnOk X.prog X.w X.K X.mg X.base CX k f fd ps sp)(G:Room k X.A)(B:Binds X.K fd ps ds)(hd:Vals dvs ds)(L:qgg CX X E)(y:PA X (e::es) t)
  (j:starEach (e::es) X.env=(false,eval e X.env)::starEach es X.env:=by rfl)(hpl:(backTo pos (starEach es X.env)).any (·.1)=false:=by rfl)
  (ht:eval (.Call (.Attribute o m apos) (e::es) [] pos) X.env=(do
   let ov <- eval o X.env
   standAt apos.atName
   let (f,first) <- holding [ov] (getMethod ov m pl)
   callWith pos f first (backTo pos (starEach (e::es) X.env)) (backToKw pos (keywordEach [] X.env))):=by rfl) :
  PE X (.Call (.Attribute o m apos) (e::es) [] pos) (tMeth C m sp dvs E ta t):=by
 intro b s σ H Q I h;refine Ef (pl:=pl) (thn (p b s σ H _ I h) λu z g=>?_) ht;obtain⟨x,v,n,D,a,dx,fs,ex,J,l,q⟩:=g;subst ex;obtain rfl:u=Ap a:=D;refine qlj n J c i l ?_;refine CH (first:=[.ref a]) (h₀:=X.base) I.ok.mod.kin i.kp (thn (y pos b z σ v _ n q) λus s2 ⟨vs,H2,d,r,M⟩=>⟨d.kIn,?_⟩) j hpl;exact qq5 (us:=.ref a::us) (vs:=.ref a::vs) F G B hd L d (.cons Z r) M
theorem qf7 {pl:Sem Bool}(i:PE X o ta)(c:Cls X.K C)(g:Meth X.K C m f)(F:FnOk X.prog X.w X.K X.mg X.base CX k f fd ps sp)(r:Room k X.A)(j:Binds X.K fd ps ds)(hd:Vals dvs ds)(v:qgg CX X E)
  (n:eval (.Call (.Attribute o m apos) [] [] pos) X.env=(do
   let ov <- eval o X.env
   standAt apos.atName
   let (f,first) <- holding [ov] (getMethod ov m pl)
   callWith pos f first (backTo pos (starEach [] X.env)) (backToKw pos (keywordEach [] X.env))):=by rfl) :
  PE X (.Call (.Attribute o m apos) [] [] pos) (tMeth C m sp dvs E ta tNil):=by
 intro b s σ H Q I h;refine Ef (pl:=pl) (thn (i b s σ H _ I h) λu s1 e=>?_) n;obtain⟨x,H1,d,p,a,dx,fs,ex,t,l,q⟩:=e;subst ex;obtain rfl:u=Ap a:=p;refine qlj d t c g l ?_;exact PySem.W.callWith_K0 (first:=[.ref a]) d.kIn g.kp (qq5 (us:=[.ref a]) (vs:=[.ref a]) F r j hd v d (.cons Z .nil) q)
structure Mk (K:Ae)(C f:Addr):Prop where
 makes:PySem.W.makesIn K C=true
 init:AW K (.ref C) "__init__"=some (some (.ref f))
 fn:PySem.W.isFn K (.ref f)=true
 kp:Bq K (.ref C)=true
theorem qvm {b:List (Addr×Obj)}{σ:St}{H:Hp}{s:Af}{Q:VK}{us:List Value}{vs:List V}(M:Mk X.K C f)(F:FnOk X.prog X.w X.K X.mg X.base CX k f fd ps sp)(n:Room (k+1) X.A)(i:Binds X.K fd ps ds)(hd:Vals dvs ds)
  (p:qgg CX X E)(I:Inv X b σ H s)(r:Vals vs us)
  (h:∀x dx,H x=none->H dx=none->dx≠x->sp (.ref x::(vs++dvs)) (upd (upd H dx (.own x)) x (.ins C dx [])) (λv q=>v=.non/\Q (.ref x) q) E) :
  wpAny (model X.prog X.w) X.A (call (.ref C) us) (EP X b σ Q) X.xe s:=by
 have g:=h (s.heap.objs.size+1) s.heap.objs.size (I.hok.fresh (Cp _)) (I.hok.fresh (A0 _)) (AG (Cc _));have c:=Inv.made (C:=C) I;have d:Vals (V.ref (s.heap.objs.size+1)::(vs++dvs)) (Ap (s.heap.objs.size+1)::(us++ds)):=.cons rfl (r.append hd);have hl:(Ap (s.heap.objs.size+1)::us++ds).length=ps.length:=by have e:=d.length;rw[F.len _ _ _ _ g]at e;exact e.symm
 refine Db (qpg (f:=f) I.kIn M.makes M.init (beq_iff_eq.mp M.fn) (CA (F.run _ X.stack _ _ ⟨Ap (s.heap.objs.size+1)::us,[]⟩ (Ap (s.heap.objs.size+1)::(us++ds)) _ _ E (n.make C us [])
  (c.env0.make C us []) (i _ (Ap (s.heap.objs.size+1)::us) c.kIn hl) d g) λr m a=>?_))
 cases r with
 |error e=>exact p b σ _ _ e m c a
 |ok fl =>
  cases fl with
  |ret u =>obtain⟨v,H',o,t,l,j⟩:=c.after a;subst l;exact⟨t,⟨V.ref (s.heap.objs.size+1),H',o,Z,j⟩⟩
  |next=>exact BK a
  |brk=>exact BK a
  |cont=>exact BK a
theorem qyq (M:Mk X.K C f)(F:FnOk X.prog X.w X.K X.mg X.base CX k f fd ps sp)(i:Room (k+1) X.A)(l:Gl X x)(j:X.mg x=some (.ref C))(g:Binds X.K fd ps ds)(hd:Vals dvs ds)(m:qgg CX X E)
  (d:PA X (e::es) t)(b:(x == ("__debug__" : Str))=false:=by decide)(he:starEach (e::es) X.env=(false,eval e X.env)::starEach es X.env:=by rfl)(hpl:(backTo pos (starEach es X.env)).any (·.1)=false:=by rfl) :
  PE X (.Call (.Name x p) (e::es) [] pos) (tMake C sp dvs E t):=by
 intro a s σ H Q I h;refine B9 (qfs I l j ?_ b);refine CH (h₀:=X.base) I.ok.mod.kin M.kp (thn (d pos a s σ H _ I h) λus s1 ⟨vs,H1,c,r,q⟩=>⟨c.kIn,?_⟩) he hpl;exact qvm M F i g hd m c r q
end
section
variable {X:Cx}{CX:CXT}{k:Nat}{f C:Addr}{fd:AA}{ps ks:List Str}{sp:Sp}{E:XK}{x m:Str}{p pos apos kpos:Pos}{e o:Expr}{es:List Expr}{kws:List Keyword}{te ta:TE}{t tk:TA}{nm:Option Str}
variable {g:List Value->List Value->List Value}{gV:List V->List V->List V}
end
structure FnScope (N P:List Str)(sc:Scope):Prop where
 kind:sc.kind=.function
 co:sc.isCoroutine=false
 gen:sc.isGenerator=false
 nd:N.Nodup
 pre:N.take P.length=P
 par:∀x∈P,sc.names.lookup x=some .local\/sc.names.lookup x=some .cell
 nofree:∀y∈sc.names,y.2 ≠ .free
theorem qne {a:Str->Option B1}{x:Str}:∀{binds:List (Str×Value)}{m:Str->Option Value},(∀v,(x,v)∉binds)->bindL a binds m x=m x
 | [],_,_=>rfl
 | (n,v)::r,m,h=>by
  unfold bindL;rw[qne λw b=>h w (Ar _ b)];split
  .have:x≠n:=by rintro rfl;exact h v Am
   simp[this]
  .rfl
theorem qnf {a:Str->Option B1}{x:Str}:∀{binds:List (Str×Value)}{m:Str->Option Value},(∀v,(x,v)∉binds)->bindC a binds m x=m x
 | [],_,_=>rfl
 | (n,v)::r,m,h=>by
  unfold bindC;rw[qnf λw b=>h w (Ar _ b)];split
  .rfl
  .have:x≠n:=by rintro rfl;exact h v Am
   simp[this]
theorem qng {a:Str->Option B1}{x:Str}{v:Value}:∀{P:List Str}{vs:List Value}{i:Nat}{m:Str->Option Value},P.Nodup->P[i]?=some x->vs[i]?=some v->a x=some .local ->
  bindL a (P.zip vs) m x=some v
 | [],_,_,_,_,h,_,_=>by simp at h
 |_::_,[],_,_,_,_,h,_=>by simp at h
 |p::P,w::vs,0,m,nd,h1,h2,hk=>by simp at h1 h2;subst h1;subst h2;show bindL a ((p,w)::P.zip vs) m p=_;unfold bindL;rw[qne λv b=>(AM.mp nd).1 (List.of_mem_zip b).1,if_pos hk];simp
 |p::P,w::vs,i+1,m,nd,h1,h2,hk=>by show bindL a ((p,w)::P.zip vs) m x=_;unfold bindL;exact qng (i:=i) (AM.mp nd).2 (by simpa using h1) (by simpa using h2) hk
theorem qnh {a:Str->Option B1}{x:Str}{v:Value}:∀{P:List Str}{vs:List Value}{i:Nat}{m:Str->Option Value},P.Nodup->P[i]?=some x->vs[i]?=some v->a x≠some .local ->
  bindC a (P.zip vs) m x=some v
 | [],_,_,_,_,h,_,_=>by simp at h
 |_::_,[],_,_,_,_,h,_=>by simp at h
 |p::P,w::vs,0,m,nd,h1,h2,hk=>by simp at h1 h2;subst h1;subst h2;show bindC a ((p,w)::P.zip vs) m p=_;unfold bindC;rw[qnf λv b=>(AM.mp nd).1 (List.of_mem_zip b).1,if_neg hk];simp
 |p::P,w::vs,i+1,m,nd,h1,h2,hk=>by show bindC a ((p,w)::P.zip vs) m x=_;unfold bindC;exact qnh (i:=i) (AM.mp nd).2 (by simpa using h1) (by simpa using h2) hk
noncomputable def qg0 (N:List Str)(vs:List V):St:=vs.map some++List.replicate (N.length-vs.length) none
noncomputable def qoc (CX:CXT)(P:AK)(w:World)(K:Ae)(mg:Str->Option Value)(base:Heap)(N:List Str)(qual:Str)(scope:Scope)(f:Addr)(cd:Value)(A:AX)(outer:List Env)(s:Af)(H:Hp)(E:XK):Cx where
 prog:=P
 w:=w
 K:=K
 mg:=mg
 base:=base
 A:=A.deeper (envOfC qual scope s.heap.objs.size f cd)
 N:=N
 s₀:=s
 H₀:=H
 env:=envOfC qual scope s.heap.objs.size f cd
 outer:=outer
 stack:=envOfC qual scope s.heap.objs.size f cd::outer
 ex:=[]
 calm:=true
 fn:=λ_=>true
 pn:=[]
 xe:=λe s'=>wpAny (model P w) (A.deeper (envOfC qual scope s.heap.objs.size f cd)) (leaving (envOfC qual scope s.heap.objs.size f cd) e) (λ_ s''=>CX outer H s E e s'') (λe' s''=>CX outer H s E e' s'') s'
theorem qph {a:Scope}{n:Nat}{x:Str}(h:a.names.lookup x=some .cell):∃c,(cellsFrom n a.names []).lookup x=some c:=by have q:=PySem.W.cellsFrom_some a.names n [] (.inl h);exact Dc.mp q
theorem qtt {CX:CXT}{P:AK}{w:World}{K:Ae}{mg:Str->Option Value}{l:Heap}{N ps:List Str}{j:Str}{scope:Scope}{f:Addr}{C:Value}{A:AX}{outer:List Env}{s G:Af}{H:Hp}{E:XK}{us:List Value}{vs:List V}
  (S:FnScope N ps scope)(hd:A.handled=none)(g:Env0 P w K mg l A outer s H)(hl:vs.length=ps.length)(r:Vals vs us)
  (x:InCallC s s.heap.objs.size (bindL (envOfC j scope s.heap.objs.size f C).kindOf (ps.zip us) λ_=>none) (cellsFrom (s.heap.objs.size+1) scope.names []) (bindC (envOfC j scope s.heap.objs.size f C).kindOf (ps.zip us) λ_=>none) G) :
  Inv (qoc CX P w K mg l N j scope f C A outer s H E) [] (qg0 N vs) H G:=by
 have hpl:ps.length<=N.length:=by have:=congrArg DR S.pre;rw[AZ]at this;lia
 obtain⟨B,tk,rfl,hk⟩:=x.done;have o:∀b:Addr,b∉(qoc CX P w K mg l N j scope f C A outer s H E).ex:=λb z=>absurd (show b∈([]:List Addr) from z) (by simp);refine⟨⟨g.mod,S.kind,Z,Z,A0 _,λy z c B d=>?_,λy m=>?_,λy c _ h=>?_,λ_=>hd,AX.frames_deeper g.frames,.inr ⟨Z,Z⟩,λb z=>absurd z (o b),g.bs,g.bsz,λb _ _=>o b,λb z=>absurd z (o b),g.funs,g.frf⟩,
  rfl,g.bare,Un.kept hk,⟨_,x.toInCall.ns,λi y v B d h3=>?_⟩,λy c h=>⟨_,x.cell y c h⟩,g.hok.fresh (A0 _),λy c h=>?_,λp t=>absurd (show p∈([]:List (Addr×Obj)) from t) (by simp),g.hok.kept hk,?_⟩
 .exact name_of_addr x.apart (Dg B) (Dg d)
 .have m:scope.names.lookup y=some .cell\/scope.names.lookup y=some .free:=m;rcases m with m|m
  .exact qph m
  .exact absurd rfl (S.nofree _ (Dg m))
 .exact DD (x.above y c (Dg h))
 .have D:i<vs.length:=by
   unfold qg0 at d
   by_cases D:i<vs.length
   .exact D
   .rw[AN (by simpa using D)]at d;rw[List.getElem?_replicate]at d;split at d <;>cases d
  have J:vs[i]?=some v:=by
   unfold qg0 at d;rw[AT (by simpa using D),Ak]at d;cases e:vs[i]? with|none=>rw[e]at d;cases d|some a=>rw[e]at d;cases d;rfl
  obtain⟨u,I,L⟩:=r.get J
  have t:ps[i]?=some y:=by rw[<- S.pre,List.getElem?_take_of_lt (by lia)];exact B
  have F:ps.Nodup:=by rw[<- S.pre];exact S.nd.sublist (List.take_sublist _ _)
  refine⟨u,L,?_⟩
  rcases S.par y (At t) with k|k
  .exact .inl ⟨k,qng F t I k⟩
  .obtain⟨c,e⟩:=qph (n:=s.heap.objs.size+1) k;refine .inr ⟨.inl k,c,e,?_⟩;have q:=x.cell y c e;rw[qnh F t I (by show scope.names.lookup y≠_;rw[k];decide)]at q;exact q
 .exact g.hok.fresh (DD (x.above y c (Dg h)))
 .unfold qg0;show _=N.length;rw[Ag,Ac,List.length_replicate];lia
theorem qvn {CX:CXT}{P:AK}{w:World}{K:Ae}{mg:Str->Option Value}{base:Heap}{k:Nat}{f:Addr}{name a:Str}{d:Arguments}{g:List Stmt}{scope:Scope}{U kV p R c ct oc:Value}{O od:Option Addr}
  {T:Array (Option Value)}{N ps:List Str}{sp:Sp}(lk:K.lookup f=some ⟨oc,od,.func (BB name a d g scope U kV p R O c ct),T⟩)(M:Co K c a=true)(S:FnScope N ps scope)
  (len:∀vs H Q E,sp vs H Q E->vs.length=ps.length)
  (j:∀(A:AX)(outer:List Env)(s:Af)(H:Hp)(vs:List V)(Q:VK)(E:XK),Room k (A.deeper (envOfC a scope s.heap.objs.size f c))->sp vs H Q E ->
   ∃t,PSs (qoc CX P w K mg base N a scope f c A outer s H E) g t/\t {nx:=λ_ H'=>Q .non H',rt:=Q} (qg0 N vs) H) :
  FnOk P w K mg base CX (k+1) f (BB name a d g scope U kV p R O c ct) ps sp:=by
 refine⟨len,λA outer s H args us vs Q E C i hb r z=>?_⟩;have hl:=len _ _ _ _ z;have L:K.In s.heap:=i.mod.kin.keeps λb o e=>(i.bs b o e).1;have F:s.heap.NoLimit:=i.mod.nolimit.keeps λb o e=>(i.bs b o e).1;have l:∀y∈ps.zip us,scope.names.lookup y.1=some .local\/(scope.names.lookup y.1=some .cell/\((cellsFrom (s.heap.objs.size+1) scope.names []).lookup y.1).isSome=true):=λ⟨n,v⟩ hy=>by
  rcases S.par n (List.of_mem_zip hy).1 with q|q
  .exact .inl q
  .exact .inr ⟨q,PySem.W.cellsFrom_some _ _ _ (.inl q)⟩
 refine codeAny_call_function C.depth (L _ _ lk) rfl S.co S.gen rfl (PySem.W.codeRec_of L M) (hb _ _ _ _ ?_);refine wpAny_newFunctionEnv_cells S.kind l λenv X G x=>?_;subst X;refine⟨F.keeps x.toInCall.keep,codeAny_func ?_⟩;obtain⟨t,ht,Y⟩:=j A outer s H vs Q E (C.deeper _) z;have I:Inv (qoc CX P w K mg base N a scope f c A outer s H E) [] (qg0 N vs) H G:=qtt S C.hd i hl r x;refine Cf (ht [] G (qg0 N vs) H _ I Y) (λfl B h=>?_) λe B h=>h;have m:∀{σ':St}{H':Hp}{v:V}{u:Value},Inv (qoc CX P w K mg base N a scope f c A outer s H E) [] σ' H' B->RelV v u->Q v H'->CE outer P w H s Q u B :=
  λ{σ' H' v u} J D q=>⟨v,H',J.os,J.bare,J.base,J.hok,D,q⟩
 cases fl with
 |ret u =>obtain⟨v,σ',H',J,D,q⟩:=h;exact m J D q
 |next =>obtain⟨σ',H',J,q⟩:=h;exact m (v:=V.non) (u:=BE) J rfl q
 |brk =>obtain⟨_,_,_,q⟩:=h;exact BK q
 |cont =>obtain⟨_,_,_,q⟩:=h;exact BK q
end L2
namespace L2
open PySem PySem.Spec PyProof.Rows
section
variable {X:Cx}{x:Str}{p pos:Pos}{e:Expr}{es:List Expr}{t:TA}{id T:String}{r:List V->Hp->VK->Prop}
def tCB (r:List V->Hp->VK->Prop)(t:TA):TE:=λσ H Q=>t σ H λvs H1=>r vs H1 Q
theorem zg (m:qer X (.builtin id) r)(j:Gl X x)(i:X.mg x=none)(l:bootBuiltins x=some (.builtin id))(d:PA X (e::es) t)(g:x ≠ "__name__" := by decide)(hdb:(x == ("__debug__" : Str))=false:=by decide)
  (he:starEach (e::es) X.env=(false,eval e X.env)::starEach es X.env:=by rfl)(hpl:(backTo pos (starEach es X.env)).any (·.1)=false:=by rfl):PE X (.Call (.Name x p) (e::es) [] pos) (tCB r t):=by
 intro a s σ H Q I h;refine B9 (qez I j i l ?_ g hdb);exact Dk (thn (d pos a s σ H _ I h) λus f ⟨vs,b,n,c,k⟩=>m a f σ b vs us Q n c k) he hpl
theorem qax (m:qer X (.type T) r)(j:Gl X x)(i:X.mg x=none)(l:bootBuiltins x=some (.type T))(d:PA X (e::es) t)(g:x ≠ "__name__" := by decide)(hdb:(x == ("__debug__" : Str))=false:=by decide)
  (he:starEach (e::es) X.env=(false,eval e X.env)::starEach es X.env:=by rfl)(hpl:(backTo pos (starEach es X.env)).any (·.1)=false:=by rfl):PE X (.Call (.Name x p) (e::es) [] pos) (tCB r t):=by
 intro a s σ H Q I h;refine B9 (qez I j i l ?_ g hdb);exact Br (thn (d pos a s σ H _ I h) λus f ⟨vs,b,n,c,k⟩=>m a f σ b vs us Q n c k) he hpl
end
end L2
namespace HT
open PySem PyProof.Rows
section
open PySem.SeqAt
open PySem.AutoSeq1 (wpAny_loadPart')
open PySem.MeetsSeq PySem.MeetsSeq2 PySem.MeetsSeq3
end
section
variable {prog:AK}{w:World}{A:AX}{E:Value->Af->Prop}{s:Af}
noncomputable def sIx (n d:Nat):Option Int->Nat
 |none=>d
 |some v=>if v<0 then (v+(n:Int)).toNat else min v.toNat n
end
end HT
namespace L2
open PySem PySem.Spec PyProof.Rows
abbrev TO:=St->Hp->(Option Int->Hp->Prop)->Prop
def PO (X:Cx)(e:Option Expr)(t:TO):Prop :=
 ∀(pins:List (Addr×Obj))(s:Af)(σ:St)(H:Hp)(Q:Option Int->Hp->Prop),Inv X pins σ H s->t σ H Q ->
  wpAny (model X.prog X.w) X.A (evalPart e X.env) (λu s'=>∃o H',Inv X pins σ H' s'/\IsPart u o/\Q o H') X.xe s
noncomputable def qyr:TO:=λ_ H Q=>Q none H
noncomputable def tPart (t:TE):TO:=λσ H Q=>t σ H λx H1=>∃i,x=.int i/\Q (some i) H1
section
variable {X:Cx}{e:Expr}{te:TE}{lo hi:Option Expr}{tl th:TO}{pos p2:Pos}
theorem qgh:PO X none qyr:=by intro pins s σ H Q I h;rw[evalPart_none];exact Ao ⟨none,H,I,.none,h⟩
theorem qcu (h:PE X e te):PO X (some e) (tPart te):=by intro a s σ H Q I f;rw[evalPart_some];refine thn (h a s σ H _ I f) λu s1 b=>?_;obtain⟨x,c,j,d,g⟩:=b;obtain⟨i,rfl,q⟩:=g;obtain⟨t,rfl⟩:=d;exact⟨some i,c,j,.int i t,q⟩
def SlR (X:Cx)(r:V->Option Int->Option Int->Hp->VK->Prop):Prop :=
 ∀(pins:List (Addr×Obj))(s:Af)(σ:St)(H:Hp)(x:V)(v vl vu:Value)(lo hi:Option Int)(sl:Addr)(Q:VK),Inv X pins σ H s->RelV x v->s.heap.IsSliceOf sl vl vu .none->IsPart vl lo->IsPart vu hi->r x lo hi H Q ->
  ∃T id,typeLookup (.type T) "__getitem__"=pure (some (.builtin id))/\s.TypeIs v T/\wpAny (model X.prog X.w) X.A (getItem v (.ref sl)) (EP X pins σ Q) X.xe s
def tSl (r:V->Option Int->Option Int->Hp->VK->Prop)(te:TE)(tl th:TO):TE:=λσ H Q=>te σ H λx H1=>tl σ H1 λl H2=>th σ H2 λu H3=>r x l u H3 Q
theorem qdd {r:V->Option Int->Option Int->Hp->VK->Prop}(E:SlR X r)(j:PE X e te)(hl:PO X lo tl)(B:PO X hi th):PE X (.Subscript e (.Slice lo hi none p2) pos) (tSl r te tl th):=by intro a s σ H Q I h;refine Subscript_ (thn (j a s σ H _ I h) λv n d=>?_);obtain⟨x,k,M,m,K⟩:=d;refine wpAny_Slice (thn (hl a n σ k _ M K) λg C ⟨l,L,o,pl,J⟩=>thn (B a C σ L _ o J) λf c d=>?_);obtain⟨u,i,F,y,p⟩:=d;rw[evalPart_none];refine Ao ?_;have t:Inv X a σ i {c with heap:=c.heap.push {cls:=.type "slice",data:=.fields #[g,f,.none]} }:=F.kept (t':=c.toks) λb ob q=>Aj _ q;obtain⟨T,id,D,z,G⟩:=E a {c with heap:=c.heap.push {cls:=.type "slice",data:=.fields #[g,f,.none]} } σ i x v g f l u c.heap.objs.size Q t m (Heap.IsSliceOf.new ..) pl y p;show wpAny (model X.prog X.w) X.A (subscriptTail e (.Slice lo hi none p2) v (.ref c.heap.objs.size)) (EP X a σ Q) X.xe {c with heap:=c.heap.push {cls:=.type "slice",data:=.fields #[g,f,.none]} };exact tail_any (ops:=[.ref c.heap.objs.size,v]) z D G (by with_unfolding_all rfl)
noncomputable def qg6 (xs:List V)(lo hi:Option Int):List V:=(xs.drop (HT.sIx xs.length 0 lo)).take (HT.sIx xs.length xs.length hi-HT.sIx xs.length 0 lo)
theorem qpi (xs:List V)(lo a:Option Int):(qg6 xs lo a).length<=xs.length:=by unfold qg6;rw[AZ,BN];lia
end
end L2
namespace L2
open PySem PySem.Spec PyProof.Rows
noncomputable def ixN (n:Nat)(i:Int):Option Nat:=if 0<=i then (if i<n then some i.toNat else none) else if -(n:Int)<=i then some (i+n).toNat else none
noncomputable def atI {α:Type}(xs:List α)(i:Int):Option α:=(ixN xs.length i).bind λj=>xs[j]?
theorem qsn {n:Nat}{i:Int}{j:Nat}(h:ixN n i=some j):seqIndex? i n=some j/\j<n /\ -(n:Int)<=i/\i<n:=by
 unfold ixN at h;by_cases b:0<=i
 .rw[if_pos b]at h;by_cases a:i<n
  .rw[if_pos a]at h;have e:i.toNat=j:=A9 h;exact⟨by rw[seqIndex_of b a,e],by lia,by lia,a⟩
  .rw[if_neg a]at h;cases h
 .rw[if_neg b]at h;by_cases a : -(n:Int)<=i
  .rw[if_pos a]at h;have e:(i+n).toNat=j:=A9 h;exact⟨by rw[seqIndex_neg (by lia) a,e],by lia,a,by lia⟩
  .rw[if_neg a]at h;cases h
theorem qod {α:Type}{xs:List α}{i:Int}{v:α}(h:atI xs i=some v):∃j,seqIndex? i xs.length=some j/\xs[j]?=some v/\j<xs.length /\ -(xs.length:Int)<=i/\i<xs.length:=by
 unfold atI at h;cases e:ixN xs.length i with
 |none=>rw[e]at h;cases h
 |some j =>rw[e]at h;obtain⟨b,c,d,a⟩:=qsn e;exact⟨j,b,h,c,d,a⟩
theorem qbh {α:Type}{xs:List α}{j:Nat}{v:α}(h:xs[j]?=some v):atI xs (j:Int)=some v:=by
 have hj:j<xs.length:=(Ah.mp h).1;have e:ixN xs.length (j:Int)=some j:=by unfold ixN;rw[if_pos (by lia),if_pos (by lia)];simp
 unfold atI;rw[e];exact h
def qys (b:Expr):Prop:=∀o i,subscripted b false o i=operate [o,i] (getItem o i)
def IxR (X:Cx)(r:R2):Prop :=
 ∀(value slice:Expr)(pins:List (Addr×Obj))(s:Af)(σ:St)(H:Hp)(x y:V)(v u:Value)(Q:VK),Inv X pins σ H s->RelV x v->RelV y u->r x y H Q ->
  subscripted slice false v u=operate [v,u] (getItem v u)->wpAny (model X.prog X.w) X.A (subscriptTail value slice v u) (EP X pins σ Q) X.xe s
def MtR (X:Cx)(id:String)(r:V->List V->Hp->VK->Prop):Prop :=
 ∀(pins:List (Addr×Obj))(s:Af)(σ:St)(H:Hp)(x:V)(xs:List V)(v:Value)(us:List Value)(Q:VK),Inv X pins σ H s->RelV x v->Vals xs us->r x xs H Q ->
  wpAny (model X.prog X.w) X.A (call (.builtin id) (v::us)) (EP X pins σ Q) X.xe s
section
variable {X:Cx}{a b:Expr}{ta tb:TE}{pos:Pos}
theorem zr {r:R2}(k:IxR X r)(e:PE X a ta)(f:PE X b tb)(d:qys b):PE X (.Subscript a b pos) (tOp r ta tb):=by intro c s σ H Q I h;exact Subscript_ (binT e f I h λv u j x y l g i m q=>k a b c j σ l x y v u Q g i m q (d _ _))
def rIxL (K:Ae):R2:=λx y H Q=>∃p xs i v,x=.ref p/\y=.int i/\SqL K H p xs/\atI xs i=some v/\Q v H
def rIxT (K:Ae):R2:=λx y H Q=>∃p xs i v,x=.ref p/\y=.int i/\SqT K H p xs/\atI xs i=some v/\Q v H
def rIxS:R2:=λx y H Q=>∃z i c,x=.str z/\y=.int i/\z.length<=A4/\atI z.cps.toList i=some c/\Q (.str ⟨#[c]⟩) H
theorem zu:IxR X (rIxL X.K):=by
 intro value slice a s σ H x y v u Q I B D h e;obtain⟨p,xs,i,z,rfl,rfl,o,m,q⟩:=h;cases B;obtain⟨t,rfl⟩:=D;obtain⟨its,r,pl,hz⟩:=I.list o;obtain⟨j,b,n,h3,C,l⟩:=qod m;obtain⟨w,k,f⟩:=r.get n;have hl:=r.length;have hn:=qli;have c:EP X a σ Q w s:=⟨z,H,I,f,q⟩;by_cases g:0<=i
 .have d:i.toNat=j:=by
   rw[seqIndex_of g l]at b
   exact A9 b
  exact item_listR pl.isList g (by lia) (by rw[d];simpa using k) c e
 .have d:(i+(its.toArray.size:Int)).toNat=j:=by
   rw[seqIndex_neg (by lia) C]at b
   rw[Ax,<- hl]
   exact A9 b
  exact subscriptTail_builtinR (x:=w) pl.isList.typeIs slot_list_getitem.lookup
   (wpAny_getItem_list_neg (Q:=λr A=>r=w/\EP X a σ Q r A) pl.isList (by lia) (by rw[Ax] <;>lia) (by lia) (by rw[d];simpa using k) ⟨Z,c⟩) e
theorem zt:IxR X (rIxT X.K):=by
 intro value slice a s σ H x y v u Q I m o h f;obtain⟨p,xs,i,z,rfl,rfl,g,d,q⟩:=h;cases m;obtain⟨t,rfl⟩:=o;obtain⟨its,r,pl,hz⟩:=I.tuple g;obtain⟨j,k,e,h3,h4,h5⟩:=qod d;obtain⟨w,n,b⟩:=r.get e;have hl:=r.length;have hn:=qli;have c:EP X a σ Q w s:=⟨z,H,I,b,q⟩;exact subscriptTail_builtinR (x:=w) pl.typeIs slot_tuple_getitem.lookup
  (getItem_tuple (j:=j) (Q:=λr l=>r=w/\EP X a σ Q r l) pl (by lia) (by lia) (by rw[Ax,<- hl];exact k) (by simpa using n) ⟨Z,c⟩) f
theorem qvo:IxR X rIxS:=by
 intro value slice pins s σ H x y v u Q I l n h f;obtain⟨z,i,c,rfl,rfl,hz,d,q⟩:=h;obtain⟨t,rfl⟩:=l;obtain⟨t',rfl⟩:=n;obtain⟨j,a,e,h3,m,b⟩:=qod d;have hl:z.cps.toList.length=z.length:=by simp[Str.length]
 rw[hl]at a m b;have hn:=qli;exact tail_any (typeIs_str s z t) slot_str_getitem.lookup (getItem_str (c:=c) (by have k:decide (i < -(2 ^ 63:Int))=false:=decide_eq_false (by lia);have g:decide (i ≥ 2 ^ 63)=false:=decide_eq_false (by lia);rw[k,g,Bool.or_false]) (by rw[a];simpa using e) ⟨.str ⟨#[c]⟩,H,I.tok _,⟨_,Z⟩,q⟩) f
theorem qq6 (its:List Value)(n j:Nat)(u:Value):CI (·.setIfInBounds j u) {cls:=.type "list",data:=.seq its.toArray n}={cls:=.type "list",data:=.seq (its.set j u).toArray n}:=by simp[CI]
theorem Inv.lst {a:List (Addr×Obj)}{σ:St}{H:Hp}{s:Af}{p:Addr}{xs:List V}(I:Inv X a σ H s)(h:H p=some (.lst xs)) :
  ∃(its:List Value)(n:Nat),Vals xs its/\s.heap.get? p=some {cls:=.type "list",data:=.seq its.toArray n}/\xs.length<=A4:=by
 obtain⟨z,its,n,r,e⟩:=I.hok p _ h;exact⟨its,n,r,e,z⟩
theorem Inv.lstUpd {a:List (Addr×Obj)}{σ:St}{H:Hp}{s:Af}{p:Addr}{xs ys:List V}{its its':List Value}{n c:Nat}{f:Obj->Obj}(I:Inv X a σ H s)(h:H p=some (.lst xs))
  (g:s.heap.get? p=some {cls:=.type "list",data:=.seq its.toArray n})(hf:f {cls:=.type "list",data:=.seq its.toArray n}={cls:=.type "list",data:=.seq its'.toArray c})(r:Vals ys its')(hz:ys.length<=A4)(t:Nat) :
  Inv X a σ (upd H p (.lst ys)) {s with heap:=s.heap.update p f,toks:=t}:=by
 have e:(s.heap.update p f).get? p=some {cls:=.type "list",data:=.seq its'.toArray c}:=by rw[Bg f g (by rw[hf] <;>rfl),hf]
 refine I.write (x:=p) (e:=p) (by rw[h];trivial) (.inl Z) (λb u d q=>(Bv _ _ (Ba d)).trans q) ⟨_,e⟩ ?_;exact⟨hz,its',c,r,e⟩
noncomputable def rSetL:V->V->V->Hp->(Hp->Prop)->Prop:=λo i v H Q=>∃p xs k j,o=.ref p/\i=.int k/\H p=some (.lst xs)/\ixN xs.length k=some j/\Q (upd H p (.lst (xs.set j v)))
theorem qvp:PSet X rSetL:=by
 intro c s σ H o i v ov iv u Q I w x y h;obtain⟨p,xs,k,j,rfl,rfl,l,m,q⟩:=h;cases w;obtain⟨t,rfl⟩:=x;obtain⟨its,n,r,b,hz⟩:=I.lst l;obtain⟨a,h2,e,f⟩:=qsn m;have hl:=r.length;have hn:=qli;have g:Inv X c σ (upd H p (.lst (xs.set j v))) {s with heap:=s.heap.update p (CI (·.setIfInBounds j u))} :=
  I.lstUpd l b (qq6 its n j u) (r.set y j) (by rw[C7];exact hz) s.toks
 by_cases d:0<=k
 .have hk:k.toNat=j:=by
   rw[seqIndex_of d f]at a
   exact A9 a
  exact PySem.W.ki_setAt b d (by lia) (by rw[Ax,<- hl];exact f) (by rw[hk];exact⟨_,g,q⟩)
 .have hk:(k+(its.toArray.size:Int)).toNat=j:=by
   rw[seqIndex_neg (by lia) e]at a
   rw[Ax,<- hl]
   exact A9 a
  exact PySem.W.ki_setBack b (by lia) (by rw[Ax,<- hl];exact e) (by lia) (by rw[hk];exact⟨_,g,q⟩)
theorem qoe (lo a:Option Int)(n:Nat):(sliceBounds lo a none n).1=((HT.sIx n 0 lo:Nat):Int)/\(sliceBounds lo a none n).2.1=((HT.sIx n n a:Nat):Int)/\(sliceBounds lo a none n).2.2=1:=by
 refine⟨?_,?_,Z⟩
 .cases lo with
  |none=>simp[sliceBounds,HT.sIx]
  |some i =>
   simp only[sliceBounds,HT.sIx,Option.getD_none,show (1:Int) > 0 by decide,if_true];by_cases h:i<0
   .simp only[h,if_true] <;>lia
   .simp only[h,if_false] <;>lia
 .cases a with
  |none=>simp[sliceBounds,HT.sIx]
  |some i =>
   simp only[sliceBounds,HT.sIx,Option.getD_none,show (1:Int) > 0 by decide,if_true];by_cases h:i<0
   .simp only[h,if_true] <;>lia
   .simp only[h,if_false] <;>lia
theorem qmw (its:List Value)(lo a:Option Int):slicePick its.toArray lo a none=((its.drop (HT.sIx its.length 0 lo)).take (HT.sIx its.length its.length a-HT.sIx its.length 0 lo)).toArray:=by obtain⟨b,c,d⟩:=qoe lo a its.toArray.size;unfold slicePick;rw[b,c,d];simp only[sliceRange_one,pick_run,Ax] <;>rfl
noncomputable def rSlL (K:Ae):V->Option Int->Option Int->Hp->VK->Prop:=λx lo hi H Q=>∃a xs,x=.ref a/\SqL K H a xs/\∀p,H p=none->Q (.ref p) (upd H p (.lst (qg6 xs lo hi)))
theorem qft:SlR X (rSlL X.K):=by intro pins s σ H x v vl vu lo d sl Q I i f pl g h;obtain⟨a,xs,rfl,j,q⟩:=h;cases i;obtain⟨its,r,e,hz⟩:=I.list j;have c:=r.length;refine⟨"list",_,slot_list_getitem.lookup,e.isList.typeIs,?_⟩;refine wpAny_getItem_list_slice e.isList f pl g .none (by simp) ?_ (by rw[Ax] <;>lia);rw[qmw,<- c];refine⟨.ref s.heap.objs.size,_,I.laid (t':=s.toks) (o:=.lst (qg6 xs lo d)) (λb ob q=>Aj _ q) (A0 _) ?_,Z,q _ (I.hok.fresh (A0 _))⟩;exact⟨A3 (qpi xs lo d) hz,_,0,(r.drop (HT.sIx xs.length 0 lo)).take (HT.sIx xs.length xs.length d-HT.sIx xs.length 0 lo),Aw _ Z⟩
noncomputable def qde:V->Bool
 |.non=>true
 |.bl _=>true
 |.int _=>true
 |.str _=>true
 |_=>false
noncomputable def eqV:V->V->Bool
 |.non,.non=>true
 |.bl a,.bl b=>a == b
 |.bl a,.int b=>(if a then 1 else 0) == b
 |.int a,.bl b=>a == (if b then 1 else 0)
 |.int a,.int b=>a == b
 |.str a,.str b=>a == b
 |_,_=>false
theorem qvq {A:AX}{s:Af}{y x:V}{u v:Value}(e:RelV y u)(c:RelV x v)(fy:qde y=true)(d:qde x=true):BM A s u v (eqV y x):=by
 cases y with
 |non =>
  cases e;cases x with
  |non=>cases c;exact BM.same _
  |bl b=>cases c;exact BM.none_bool b
  |int b=>obtain⟨t,rfl⟩:=c;exact BM.none_int b t
  |str b=>obtain⟨t,rfl⟩:=c;exact BM.none_str b t
  |_=>exact absurd (show false=true from d) AF
 |bl a =>
  cases e;cases x with
  |non=>cases c;exact BM.bool_none a
  |bl b=>cases c;exact BM.bool_bool a b
  |int b=>obtain⟨t,rfl⟩:=c;exact BM.bool_int a b t
  |str b=>obtain⟨t,rfl⟩:=c;exact BM.bool_str a b t
  |_=>exact absurd (show false=true from d) AF
 |int a =>
  obtain⟨t',rfl⟩:=e;cases x with
  |non=>cases c;exact BM.int_none a t'
  |bl b=>cases c;exact BM.int_bool a t' b
  |int b=>obtain⟨t,rfl⟩:=c;exact BM.int_int a t' b t
  |str b=>obtain⟨t,rfl⟩:=c;exact BM.int_str a t' b t
  |_=>exact absurd (show false=true from d) AF
 |str a =>
  obtain⟨t',rfl⟩:=e;cases x with
  |non=>cases c;exact BM.str_none a t'
  |bl b=>cases c;exact BM.str_bool a t' b
  |int b=>obtain⟨t,rfl⟩:=c;exact BM.str_int a t' b t
  |str b=>obtain⟨t,rfl⟩:=c;exact BM.str_str a t' b t
  |_=>exact absurd (show false=true from d) AF
 |_=>exact absurd (show false=true from fy) AF
noncomputable def eqU (x:V)(u:Value):Bool:=match u with
 |.none=>eqV .non x
 |.bool b=>eqV (.bl b) x
 |.int i _=>eqV (.int i) x
 |.str z _=>eqV (.str z) x
 |_=>false
theorem qvr {x y:V}{u:Value}(r:RelV y u)(f:qde y=true):eqU x u=eqV y x:=by
 cases y with
 |non=>cases r;rfl
 |bl b=>cases r;rfl
 |int i=>obtain⟨t,rfl⟩:=r;rfl
 |str z=>obtain⟨t,rfl⟩:=r;rfl
 |_=>exact absurd (show false=true from f) AF
theorem qiy {x:V}:∀{xs:List V}{us:List Value},Vals xs us->xs.all qde=true->us.any (eqU x)=xs.any λy=>eqV y x
 |_,_,.nil,_=>rfl
 |y::xs,u::us,.cons r t,f=>by rw[C3,AD]at f;rw[DK,DK,qvr r f.1,qiy t f.2]
theorem qg7 {A:AX}{s:Af}{x:V}{v:Value}(c:RelV x v)(b:qde x=true):∀{xs:List V}{us:List Value},Vals xs us->xs.all qde=true->∀u∈us,BM A s u v (eqU x u)
 |_,_,.nil,_=>λu a=>by cases a
 |y::xs,u::us,.cons r t,f=>λd a=>by
  rw[C3,AD]at f;rcases An.mp a with rfl|a
  .rw[qvr r f.1];exact qvq r c f.1 b
  .exact qg7 c b t f.2 d a
noncomputable def inV (x:V)(xs:List V):Bool:=xs.any λy=>eqV y x
def rIn (K:Ae)(neg:Bool):R2:=λx y H Q=>∃p xs,y=.ref p/\(SqL K H p xs\/SqT K H p xs)/\qde x=true/\xs.all qde=true/\Q (.bl (if neg then !inV x xs else inV x xs)) H
theorem qdj:OpR X (compareOp .In) (rIn X.K false):=by
 intro pins s σ H x y v u Q I c e h;obtain⟨p,xs,rfl,a,d,fs,q⟩:=h;cases e;rcases a with a|a
 .obtain⟨its,r,pl,hz⟩:=I.list a;refine SeqAt.in_listAt (eqU x) pl.isList (λw b=>qg7 c d r fs w (by simpa using b)) ⟨.bl _,H,I,Z,?_⟩;rw[show its.toArray.any (eqU x)=its.any (eqU x) by simp,qiy r fs];exact q
 .obtain⟨its,r,pl,hz⟩:=I.tuple a;refine SeqAt.in_tupleAt (eqU x) pl (λw b=>qg7 c d r fs w (by simpa using b)) ⟨.bl _,H,I,Z,?_⟩;rw[show its.toArray.any (eqU x)=its.any (eqU x) by simp,qiy r fs];exact q
theorem qcc:OpR X (compareOp .NotIn) (rIn X.K true):=by
 intro pins s σ H x y v u Q I c e h;obtain⟨p,xs,rfl,a,d,fs,q⟩:=h;cases e;rcases a with a|a
 .obtain⟨its,r,pl,hz⟩:=I.list a;refine SeqAt.notIn_listAt (eqU x) pl.isList (λw b=>qg7 c d r fs w (by simpa using b)) ⟨.bl _,H,I,Z,?_⟩;rw[show its.toArray.any (eqU x)=its.any (eqU x) by simp,qiy r fs];exact q
 .obtain⟨its,r,pl,hz⟩:=I.tuple a;refine SeqAt.notIn_tupleAt (eqU x) pl (λw b=>qg7 c d r fs w (by simpa using b)) ⟨.bl _,H,I,Z,?_⟩;rw[show its.toArray.any (eqU x)=its.any (eqU x) by simp,qiy r fs];exact q
theorem qe3:qer X (.type "list") (λxs H Q=>∃p ys,xs=[.ref p]/\(SqL X.K H p ys\/SqT X.K H p ys)/\∀l,H l=none->Q (.ref l) (upd H l (.lst ys))):=by
 intro j s σ H xs us Q I r h;obtain⟨p,ys,rfl,d,q⟩:=h;obtain⟨u,rfl,m⟩:=qf5 r;cases m;have f:∀(its:List Value),Vals ys its->ys.length<=A4->∀(h':Heap)(a:Nat),(∀b o',s.heap.get? b=some o'->h'.get? b=some o') ->
   h'.get? s.heap.objs.size=some {cls:=.type "list",dict:=none,data:=.seq its.toArray a,slots:=#[]}->EP X j σ Q (.ref s.heap.objs.size) {s with heap:=h'}:=λits r' hz h' a c e =>
  ⟨.ref s.heap.objs.size,_,I.laid (t':=s.toks) c (A0 _) (show ObjOk X.prog X.w _ h' _ (.lst ys) from ⟨hz,its,a,r',e⟩),Z,q _ (I.hok.fresh (A0 _))⟩
 rcases d with d|d
 .obtain⟨its,r',pl,hz⟩:=I.list d;have g:=r'.length;obtain⟨o,i,k,n,hd⟩:=pl.isList;exact call_list_seq p (.inl Z) i k hd (λh' a c e=>f its r' hz h' a c e) (by simp only[Ax] <;>lia)
 .obtain⟨its,r',pl,hz⟩:=I.tuple d;have g:=r'.length;obtain⟨o,i,k,n,hd⟩:=pl;exact call_list_seq p (.inr Z) i k hd (λh' a c e=>f its r' hz h' a c e) (by simp only[Ax] <;>lia)
def tyV (K:Ae)(T:String)(x:V)(H:Hp):Prop:=match x with
 |.str _=>T = "str"
 |.int _=>T = "int"
 |.ref p=>(T = "list" /\ ∃xs,SqL K H p xs)\/(T = "tuple" /\ ∃o,K.lookup p=some o/\o.cls=.type "tuple" /\ o.dict=none) \/
   (T = "dict" /\ ((∃kvs,H p=some (.dK kvs)) \/ ∃kvs,H p=some (.dT kvs)))\/(T = "set" /\ ∃S n,H p=some (.set S n))
 |_=>False
theorem tyV_is {d:List (Addr×Obj)}{σ:St}{H:Hp}{s:Af}{T:String}{x:V}{v:Value}(I:Inv X d σ H s)(r:RelV x v)(ty:tyV X.K T x H) :
  s.TypeIs v T/\∀a,v=.ref a->∃ob,s.heap.get? a=some ob/\ob.dict=none:=by
 cases x with
 |str z =>obtain⟨t,rfl⟩:=r;cases (show T = "str" from ty);exact⟨typeIs_str s z t,λ_ e=>nomatch e⟩
 |int i =>obtain⟨t,rfl⟩:=r;cases (show T = "int" from ty);exact⟨typeIs_int s i t,λ_ e=>nomatch e⟩
 |ref p =>
  cases r;rcases ty with ⟨rfl,xs,f⟩|⟨rfl,o,hk,g,hd⟩|⟨rfl,hk⟩|⟨rfl,S,n,hk⟩
  .obtain⟨its,_,pl,_⟩:=I.list f;refine⟨pl.isList.typeIs,λa e=>?_⟩;cases e;obtain⟨o,n,e,c,hd,_⟩:=pl;exact⟨o,e,hd⟩
  .refine⟨⟨o,I.kIn p o hk,g⟩,λa e=>?_⟩;cases e;exact⟨o,I.kIn _ o hk,hd⟩
  .have z:∃o,s.heap.get? p=some o/\o.ExactDict:=by
    rcases hk with ⟨kvs,hk⟩|⟨kvs,hk⟩
    .obtain⟨_,_,_,_,o,_,_,e,ex,_⟩:=I.hok p _ hk;exact⟨o,e,ex⟩
    .obtain⟨_,_,_,_,o,_,_,e,ex,_⟩:=I.hok p _ hk;exact⟨o,e,ex⟩
   obtain⟨o,e,ex⟩:=z
   refine⟨⟨o,e,ex.1⟩,λa b=>?_⟩
   cases b
   exact⟨o,e,ex.2.1⟩
  .obtain⟨o,_,_,_,e,ex,_⟩:=I.hok p _ hk;refine⟨⟨o,e,ex.1⟩,λa b=>?_⟩;cases b;exact⟨o,e,ex.2.1⟩
 |_=>exact BK ty
def tBM (K:Ae)(T:String)(r:V->List V->Hp->VK->Prop)(to:TE)(t:TA):TE:=λσ H Q=>to σ H λx H1=>tyV K T x H1/\t σ H1 λxs H2=>r x xs H2 Q
variable {o e:Expr}{es:List Expr}{to:TE}{t:TA}{name:Str}{apos cpos:Pos}{T id:String}{r:V->List V->Hp->VK->Prop}
theorem qcd (F:PlainAttrs T)(d:Slot T name id)(j:typeOf (.builtin id)=pure (.type "method_descriptor"))(B:MtR X id r)(A:PE X o to)(p:PA X (e::es) t)
  (c:attributeBase o name X.env (eval o X.env)=eval o X.env:=by rfl)
  (hfew:((backTo cpos (starEach (e::es) X.env)).all (λx=>!x.1) && (backToKw cpos (keywordEach [] X.env)).all (λx=>x.1.isSome)
   && decide ((e::es).length+([]:List Keyword).length+(if ([]:List Keyword).isEmpty then 0 else 1)<30))=true:=by rfl)
  (hline:(apos.endLine == cpos.line)=true:=by rfl)(hs:starEach (e::es) X.env=(false,eval e X.env)::starEach es X.env:=by rfl)(hplain:(backTo cpos (starEach es X.env)).any (·.1)=false:=by rfl) :
  PE X (.Call (.Attribute o name apos) (e::es) [] cpos) (tBM X.K T r to t):=by
 intro b s σ H Q I h;refine wpAny_Call_method_late c hfew hline rfl (thn (A b s σ H _ I h) λv q g=>?_);obtain⟨x,l,k,f,ty,D⟩:=g;obtain⟨w,n⟩:=tyV_is k f ty;refine⟨T,id,F,d,j,w,n,?_⟩;have i:=p cpos b q σ l _ k D;rw[hs]at i |-;refine DY (by show (false || (backTo cpos (starEach es X.env)).any (·.1))=false;rw[hplain] <;>rfl) (Calls.evalArgs_plain ?_);exact thn i λus z ⟨vs,E,u,y,C⟩=>B b z σ E x vs v us Q u f y C
/- xs.append(e),list.index on a module's tuple .. are MtR facts of 06m -/
end
end L2
namespace L2
open PySem PySem.Spec PyProof.Rows
def MtM (X:Cx)(id:String)(r:V->List V->Hp->VK->Prop):Prop :=
 ∀(pins:List (Addr×Obj))(s:Af)(σ:St)(H:Hp)(x:V)(xs:List V)(v:Value)(us:List Value)(Q:VK),Inv X pins σ H s->RelV x v->Vals xs us->r x xs H Q ->
  wpAny (model X.prog X.w) X.A (call (.builtin id) (v::us)) (EP X pins σ Q) X.xe s
theorem Vals.one {x:V}{us:List Value}(h:Vals [x] us):∃u,us=[u]/\RelV x u:=by cases h with|cons r t=>cases t;exact⟨_,Z,r⟩
theorem Vals.two {x y:V}{us:List Value}(h:Vals [x,y] us):∃u v,us=[u,v]/\RelV x u/\RelV y v:=by cases h with|cons r t=>cases t with|cons q t=>cases t;exact⟨_,_,Z,r,q⟩
section
variable {X:Cx}{pins:List (Addr×Obj)}{σ:St}{H:Hp}{s:Af}{l b:Addr}{xs ys zs:List V}
theorem Inv.lset {its its':List Value}{n:Nat}{f:Array Value->Array Value}{t':Nat}(I:Inv X pins σ H s)(b:H l=some (.lst xs))
  (e:s.heap.get? l=some {cls:=.type "list",data:=.seq its.toArray n})(hf:f its.toArray=its'.toArray)(hv:Vals ys its')(hz:ys.length<=A4) :
  Inv X pins σ (upd H l (.lst ys)) {s with heap:=s.heap.update l (CI f),toks:=t'}:=by
 have q:=PySem.IsL.update e f;rw[hf]at q;refine I.write (x:=l) (e:=l) (by rw[b];exact trivial) (.inl Z) (λb' u a c=>(Bv s.heap (CI f) (Ba a)).trans c) ⟨_,q⟩ ?_;exact⟨hz,its',_,hv,q⟩
theorem Inv.lnew {its:List Value}{t':Nat}(I:Inv X pins σ H s)(a:Vals ys its)(hz:ys.length<=A4) :
  Inv X pins σ (upd H s.heap.objs.size (.lst ys)) {s with heap:=s.heap.push {cls:=.type "list",data:=.seq its.toArray},toks:=t'} :=
 I.laid (λ_ _ q=>Aj _ q) (A0 _) ⟨hz,its,0,a,Aw _ Z⟩
theorem Inv.fresh (I:Inv X pins σ H s):H s.heap.objs.size=none:=I.hok.fresh (A0 _)
theorem Inv.lstM (I:Inv X pins σ H s)(a:H l=some (.lst xs)):xs.length<=A4/\∃(its:List Value)(n:Nat),Vals xs its/\xs.length=its.length/\s.heap.get? l=some {cls:=.type "list",data:=.seq its.toArray n}:=by obtain⟨z,its,n,r,e⟩:=I.hok l _ a;exact⟨z,its,n,r,r.length,e⟩
theorem qpj {n:Nat}(h:n<=A4):AH.List.listTooLong n=false:=by unfold AH.List.listTooLong;exact decide_eq_false (by lia)
end
section
variable {X:Cx}
noncomputable def qyt:V->List V->Hp->VK->Prop:=λx vs H Q=>∃l xs y,x=.ref l/\vs=[y]/\H l=some (.lst xs)/\xs.length<A4/\Q .non (upd H l (.lst (xs++[y])))
theorem qbd:MtM X "list.append" qyt:=by intro pins s σ H x vs v us Q I b d h;obtain⟨l,xs,y,rfl,rfl,a,hz,q⟩:=h;cases b;obtain⟨u,rfl,c⟩:=d.one;obtain⟨z,its,n,r,hl,e⟩:=I.lstM a;refine Ei F.slot_list_append ⟨_,e,Z⟩ F.entry_list_append (F.args_list_append_2 _ _) (PySem.list_append l its.toArray n u (by rw[Ax];lia)) ⟨e,?_⟩;refine⟨.non,_,I.lset (its':=its++[u]) a e (by simp) (r.append (.cons c .nil)) ?_,Z,q⟩;rw[Ag,AU];lia
def rCat:R2:=λx y H Q=>∃l b xs zs,x=.ref l/\y=.ref b/\H l=some (.lst xs)/\H b=some (.lst zs)/\xs.length+zs.length<=A4/\∀p,H p=none->Q (.ref p) (upd H p (.lst (xs++zs)))
theorem qcv:OpR X (binaryOp .Add) rCat:=by
 intro pins s σ H x y v u Q I g k h;obtain⟨l,b,xs,zs,rfl,rfl,d,c,hz,q⟩:=h;cases g;cases k;obtain⟨z,its,n,r,hl,e⟩:=I.lstM d;obtain⟨z2,a,n2,i,hl2,f⟩:=I.lstM c;refine PySem.P.add_list e f ?_ (by rw[Ax,Ax];lia);have j:its.toArray++a.toArray=(its++a).toArray:=by simp
 rw[j];exact⟨.ref _,_,I.lnew (t':=s.toks) (r.append i) (by rw[Ag];lia),Z,q _ I.fresh⟩
end
section
variable {prog:AK}{w:World}{A:AX}{E:Value->Af->Prop}{s:Af}
end
section
variable {X:Cx}
end
end L2
namespace Att
open PySem PySem.W PySem.Calls PyProof.Rows
theorem qkw {P:Params}{h:Heap}:∀(c:List Int)(vs:List Value),WellAll P h vs (c.map WData.int)->IntsAre vs c:=by
 intro c
 induction c with
 |nil =>intro vs w;rw[BC]at w;cases w;exact .nil
 |cons n c ih =>
  intro vs w;rw[A6]at w;cases w with|cons a b =>cases a;exact .cons _ _ (ih _ b)
theorem qtu {l:OpenLaw}{n:Nat}(t:l.most=some n){P:Params}{h:Heap}{args:List WData}{qcr:List Value}
  (c:l.row.toRowW.claim.pre args=true)(j:WellAll P h qcr args) :
  ∃a vs b,qcr=[Ap a]/\args=[WData.list (b.map WData.int)]/\h.get? a=some {cls:=.type "list",data:=.seq vs.toArray}/\IntsAre vs b/\b.length<=n:=by
 have i:WShape.hasAll [] args [.list .int]=true:=(pre_splitW c).1;have k:l.pre.holds [] {args:=args}=true:=(pre_splitW c).2;obtain⟨d,r,rfl,o,m⟩:=hasAllW_cons i;obtain rfl:=hasAllW_nil m;obtain⟨xs,rfl,s⟩:=hasW_list o;obtain⟨b,rfl⟩:=items_int s;have g:b.length<=n:=by
  unfold OpenLaw.pre at k;have f:(WTm.not (.lt (.lit (.int (n:Int))) (.len (.arg 0)))).holds [] {args:=[.list (b.map .int)]}=true:=by have f:=(holds_andW k).1;rw[t]at f;exact f
  have e:=condW_of f (w_not (w_lt w_lit (w_len_list (w_arg Z))));rw[Ac]at e;refine Nat.le_of_not_lt λq=>?_;have p:(n:Int)<((b.length:Nat):Int):=by lia
  first
   | (rw[decide_eq_true p]at e;exact absurd e Ez)
   | (simp at e;lia)
 cases j with
 |cons w1 w2 =>
  cases w2;cases w1 with|list ho hall=>exact⟨_,_,b,Z,Z,ho,qkw b _ hall,g⟩
theorem qtv (l:OpenLaw)(args:List WData):l.row.toRowW.claim.post args (.bool true) args=true :=
 postW_of (r:=l.row.toRowW) (X:=(true == true))
  (show WShape.has [] (.bool true) .bool=true by first|rfl|decide|simp[WShape.has,WShape.arms,WShape.armsAll])
  (show (WTm.eq .res (.lit (.bool true))).value [] {args:=args,res:=some (.bool true),after:=args}=some (.bool (true == true)) from w_eq_bool (w_res Z) w_lit) rfl
theorem attach_call {l:OpenLaw}{n:Nat}{q:AK}{c:List Str}{z:(Str->Option Value)->Heap->Prop}{A:World->Heap->Prop}{d:DefRec}
  (J:l.most=some n)(D:d.params.defaults=[])
  (call:∀(w:World)(m b:Af)(mg t:Str->Option Value)(e:Addr)(o:Obj)(v j g:Value)(a:Addr)(vs:List Value)(h:List Int),
   Ground q c [] z w m mg t b.heap->A w b.heap ->
   b.heap.get? e=some o->o.data=.func (docDef d.name d.params d.body d.scope v j g)->b.heap.CodeRec j d.name->mg d.name=some (.ref e) ->
   b.heap.get? a=some {cls:=.type "list",data:=.seq vs.toArray}->IntsAre vs h->h.length<=n->b.gens=#[] ->
   codeAny (model l.prog w) callerA (.call (.ref e) ⟨[.ref a],[]⟩) (λr i=>r=.ok (.ret (.bool true))/\OldK b.heap i.heap/\i.os=b.os/\AllBare i.gens) b) :
  WalkO q c z A l.row.toRowW d [] (λf vs=>PySem.call f vs):=by
 intro w m b mg t G Y e o v j g K kV I hd x B y M args qcr as s hlay hrd C hlo;obtain rfl:K=.none:=Dflts.none B D;obtain rfl:kV=.none:=Dflts.noKw B;obtain⟨a,vs,h,rfl,rfl,u,k,p⟩:=qtu J s C;refine enter_call (CA (call w m b mg t e o v j g a vs h G Y I (fd_plain hd) x y u k p M) λr i F=>?_);obtain⟨rfl,E,H,N⟩:=F;exact⟨.inl ⟨.bool true,.bool true,[],Z,λ_=>rfl,.bool true,qtv l _,λ_=>⟨List.Pairwise.nil,λ_ L=>(nomatch L)⟩⟩,E,H,N⟩
section
variable {prog:AK}{w:World}{A:AX}{E:Value->Af->Prop}{s:Af}{K:Frag}
noncomputable def ledger (h:Heap)(L d:Addr):List (Addr×Obj):=(B4 h.objs.size).filterMap λa=>if a=L\/a=d then none else (h.get? a).map λo=>(a,o)
end
end Att
namespace L2
open PySem PySem.Spec PyProof.Rows
theorem qni:∀{vs:List Value}{a:List Int},IntsAre vs a->Vals (a.map V.int) vs
 |_,_,.nil=>.nil
 |_,_,.cons n t h=>.cons ⟨t,Z⟩ (qni h)
def Only (H:Hp):Prop:=∀b,H b=none \/ ∃o xs,H b=some (.frz o (.lst xs))
theorem qvs {P:AK}{w:World}{K:Ae}{mg E:Str->Option Value}{CX:CXT}{k:Nat}{G a:Addr}{R:AA}{x:Str}{sp:Sp}{c:Af}{vs:List Value}{l:List Int}
  (O:K.In c.heap)(B:c.heap.Ns A8 mg)(f:c.heap.Ns builtinsNs E)(U:∀x:Str,x ≠ "__name__" -> E x=bootBuiltins x)(I:c.heap.NoLimit)(hg:c.gens=#[])
  (y:c.heap.get? a=some {cls:=.type "list",data:=.seq vs.toArray})(hi:IntsAre vs l)(hl:l.length<=A4)(hr:Room k callerA)
  (F:∀base:Heap,K.In base->base.Ns A8 mg->FnOk P w K mg base CX k G R [x] sp)(hbind:∀(s:Af)(u:Value),BindsTo s R ⟨[u],[]⟩ [(x,u)])
  (hsp:∀H:Hp,Only H->SqL K H a (l.map V.int)->sp [.ref a] H (λv _=>v=.bl true) λ_ _ _=>False)
  (hCX:∀H e g,CX [] H c (λ_ _ _=>False) e g->False) :
  codeAny (model P w) callerA (.call (.ref G) ⟨[.ref a],[]⟩) (λr g=>r=.ok (.ret (.bool true))/\OldK c.heap g.heap/\g.os=c.os/\AllBare g.gens) c:=by
 have W:=qni hi;have M:=hi.length
 -- from an abstract heap in which nothing but the script may be tracked
 have p:∀H:Hp,Only H->SqL K H a (l.map V.int)->HOk P w H c.heap->(∀b,H b≠none->b=a)->(H a≠none->K.lookup a=none) ->
   codeAny (model P w) callerA (.call (.ref G) ⟨[.ref a],[]⟩) (λr g=>r=.ok (.ret (.bool true))/\OldK c.heap g.heap/\g.os=c.os/\AllBare g.gens) c:=by
  intro H N hS C Q X;have i:∀{b:Addr}{o:Obj},c.heap.get? b=some o->H b=none->(qoa c.heap H).get? b=some o:=λe n=>qvh e n;have T:∀{b:Addr}{o:Obj}{es:Array DictEntry}{ep:Nat},c.heap.get? b=some o->o.data=.dict es ep->H b=none:=λ{b o es ep} e d=>by
   cases q:H b with|none=>rfl|some u =>have L:b=a:=Q b (by rw[q];simp);subst L;rw[y]at e;cases e;have d':Data.seq vs.toArray _=Data.dict es ep:=d;cases d'
  have j:∀{b:Addr}{m:Str->Option Value},c.heap.Ns b m->(qoa c.heap H).Ns b m:=λ{b m} ⟨o,es,ep,e,d,r⟩=>⟨o,es,ep,i e (T e d),d,r⟩;have A:K.In (qoa c.heap H):=λb o e=>i (O b o e) (by
   cases q:H b with
   |none=>rfl
   |some u =>have L:b=a:=Q b (by rw[q];simp);subst L;rw[X (by rw[q];simp)]at e;cases e)
  have hM:Mod K mg (qoa c.heap H):=⟨A,j B,⟨E,j f,U⟩,let ⟨mc,h1,h2⟩:=I;⟨mc,j h1,h2⟩⟩;have e0:Env0 P w K mg (qoa c.heap H) callerA [] c H:=⟨Z,hM,λb o e=>qyj e,BW (qtm _ _),trivial,λb f=>absurd (show b∈([]:List Addr) from f) (by simp),C,.of_eq hg⟩;refine CA ((F _ A (j B)).run callerA [] c H ⟨[.ref a],[]⟩ [.ref a] [.ref a] _ _ hr e0 (hbind c (.ref a)) (.cons Z .nil) (hsp H N hS)) λr g h=>?_;cases r with
  |error e=>exact(hCX H e g h).elim
  |ok fl =>
   cases fl with
   |next=>exact BK h
   |brk=>exact BK h
   |cont=>exact BK h
   |ret u =>
    obtain⟨v,H',os,J,un,D,r',q⟩:=h;have q':v=.bl true:=q;subst q';obtain rfl:u=Value.bool true:=r';refine⟨Z,OldK.of_keep λb o e=>?_,os,J⟩;cases q:H b with
    |none=>exact un.keep b o e q (by intro z;exact absurd (show b∈([]:List Addr) from z) (by simp)) (by simp)
    |some u =>
     rcases N b with z|⟨ob,xs,z⟩
     .rw[q]at z;cases z
     .have z2:=un.frzs b ob _ z;obtain⟨S,_⟩:=C b _ z;obtain⟨Y,_⟩:=D b _ z2;rw[e]at S;cases S;exact Y
 cases hk:K.lookup a with
 |some o =>
  -- the script is one of the module's own objects
  have e:=O a o hk
  rw[y]at e
  cases e
  refine p (λ_=>none) (λ_=>.inl Z) (.inr ⟨_,vs.toArray,_,hk,Z,Z,Z,by rw[Ax,M];exact hl,by simpa using W⟩) (λb u z=>by have t:(none:Option HO)=some u:=z;cases t) (λb z=>absurd Z z) λz=>absurd rfl z
 |none =>
  refine p (λb=>if b=a then some (.frz {cls:=.type "list",data:=.seq vs.toArray} (.lst (l.map V.int))) else none) (λb=>?_) (.inl (.inr ⟨{cls:=.type "list",data:=.seq vs.toArray},if_pos Z⟩)) (λb u z=>?_) (λb z=>?_) λ_=>hk
  .by_cases f:b=a
   .exact .inr ⟨_,_,if_pos f⟩
   .exact .inl (if_neg f)
  .by_cases f:b=a
   .have t:=(if_pos f).symm.trans z;cases t;subst f;exact⟨y,by rw[Ac];exact hl,vs,_,W,y⟩
   .have t:=(if_neg f).symm.trans z;cases t
  .by_cases f:b=a
   .exact f
   .exact absurd (if_neg f) z
end L2
namespace L2
open PySem PySem.Spec PyProof.Rows
noncomputable abbrev KOf {K:Ae}{h:Heap}(_:K.In h):Ae:=K
theorem walk_of {l:PySem.W.OpenLaw}{n k:Nat}{q:AK}{i:List Str}{N:(Str->Option Value)->Heap->Prop}{C:World->Heap->Prop}{d:DefRec}{K:Params->Ae}{CX:World->CXT}{sp:World->Sp}{x:Str}
  (P:l.most=some n)(D:n<=A4)(E:d.params.defaults=[])(O:Room k callerA)
  (M:∀(w:World)(h:Heap),C w h->(K w.params).In h)
  (F:∀(w:World)(mg:Str->Option Value)(m:Addr)(h:Heap),(K w.params).In h->h.Ns A8 mg->mg d.name=some (.ref m) ->
   ∃t:AA,(∀(s:Af)(u:Value),BindsTo s t ⟨[u],[]⟩ [(x,u)]) /\
    ∀base:Heap,(K w.params).In base->base.Ns A8 mg->FnOk l.prog w (K w.params) mg base (CX w) k m t [x] (sp w))
  (I:∀(w:World)(H:Hp)(a:Addr)(j:List Int),j.length<=n->Only H->SqL (K w.params) H a (j.map V.int)->sp w [.ref a] H (λv _=>v=.bl true) λ_ _ _=>False)
  (B:∀(w:World)(H:Hp)(s:Af)(e:Value)(r:Af),CX w [] H s (λ_ _ _=>False) e r->False) :
  PySem.W.WalkO q i N C l.row.toRowW d [] (λf vs=>PySem.call f vs):=by
 refine Att.attach_call P E λw s₀ R mg mb m o pm cd doc a vs j G Y ho hd hcd A y p c Q=>?_;have z:=M w _ Y;obtain⟨t,L,U⟩:=F w mg m _ z G.T.g A;exact qvs z G.T.g G.T.b G.T.builtins G.T.nolimit Q y p (A3 c D) O U L (λH J S=>I w H a j c J S) λH e r=>B w H R e r
end L2
/- THE LAST THEOREM (shape;LID,My.* are yours):
   My.Adr: a structure of the addresses that your layer names (classes,functions);My.Txt K t: a structure (Prop) of the equations over K;
   My.txt_mk:{K} {implicit addresses ..} (e1:nsIn K A8 "law"=some (some (.ref f))) (e2:K.lookup f=some ⟨oc,od,.func (fnOf "law" "law" params body scope dV kV doc pm an cdv ct),sl⟩) (e3:codeIn K cdv "law"=true) .. : ∃t,My.Txt K t
set_option maxRecDepth 100000 in
set_option maxHeartbeats 0 in
theorem PySem.Challenge.cw_LID_holds : PySem.Challenge.rw_LID.Holds:=by
 w_on;o_law;k_head;(case hw=>w_witness2)
 k_fill
 refine L2.walk_of (l:=PySem.Challenge.rw_LID) (n:=63) (k:=40) (x := "script") (CX:=λw=>..) (sp:=λ_=>My.sp_law) rfl Ez rfl ⟨Z,Ez,Ez⟩ (λw h Y=>PySem.W.kIn_of Y) ?F ?S ?C
 case F =>
  intro w mg i h f G g;have T:∃t,My.Txt (L2.KOf f) t:=by
   dsimp only[L2.KOf]                          -- K must stand as «<heap const> w.params» for k_is;refine' My.txt_mk ?e1 ?e2 ?e3 ..
   (case e1=>PySem.W.k_is)                    -- in the order: a name->its address->its object->its parts
   (case e2=>PySem.W.k_is)
   ..
  obtain⟨t,T⟩:=T;have j:=g.symm.trans (Bb f G T.law);cases j                                       -- i is the law's own address;exact⟨_,λs u=>.of_eq Z,λc e d=>My.law_fn T e d⟩     -- if «.of_eq rfl» comes too early: refine' ⟨_,?b,λc e d=>My.law_fn T e d⟩;exact λs u=>.of_eq rfl
 case S=>exact λw H a ns hl hO hS=>..
 case C=>exact ..
(the tactic k_is has no namespace: write k_is) -/
namespace L2
open PySem PySem.Spec PyProof.Rows
noncomputable def qd0 (s:Stmt)(j:Nat):Stmt:=match s with
 |.ClassDef _ _ _ body _ _ _ _ _ _ _=>body.getD j (.Pass ⟨0,0,0,0⟩)
 |_=>.Pass ⟨0,0,0,0⟩
noncomputable def qce (s:Stmt):Arguments:=match s with
 |.FunctionDef _ a _ _ _ _ _ _ _ _=>a
 |_=>{posonlyargs:=[],args:=[],vararg:=none,kwonlyargs:=[],kw_defaults:=[],kwarg:=none,defaults:=[]}
noncomputable def qbw (s:Stmt):List Stmt:=match s with
 |.FunctionDef _ _ b _ _ _ _ _ _ _=>b
 |_=>[]
noncomputable def qab (s:Stmt):Scope:=match s with
 |.FunctionDef _ _ _ _ _ _ sc _ _ _=>sc
 |_=>{kind:=.function,names:=[],isGenerator:=false,isCoroutine:=false}
abbrev CX0:CXT:=λ_ _ _ _ _ _=>False
abbrev E0:XK:=λ_ _ _=>False
theorem qam {X:Cx}:qgg CX0 X E0:=λ_ _ _ _ _ _ _ h=>h.elim
structure Fun (K:Ae)(x qual:Str)(st:Stmt)(f:Addr)(fd:AA):Prop where
 ex:∃(oc:Value)(od:Option Addr)(kV doc pm:Value)(an:Option Addr)(cdv ct:Value)(osl:Array (Option Value)),
  fd=BB x qual (qce st) (qbw st) (qab st) .none kV doc pm an cdv ct/\K.lookup f=some ⟨oc,od,.func fd,osl⟩/\Co K cdv qual=true
 kp:Bq K (.ref f)=true
section
variable {P:AK}{w:World}{K:Ae}{mg:Str->Option Value}{base:Heap}
theorem Fun.ok {x a:Str}{st:Stmt}{f:Addr}{e:AA}{N ps:List Str}{k:Nat}{sp:Sp}(F:Fun K x a st f e)(S:FnScope N ps (qab st))(len:∀vs H Q E,sp vs H Q E->vs.length=ps.length)
  (c:∀(b:Value)(A:AX)(outer:List Env)(s:Af)(H:Hp)(vs:List V)(Q:VK)(E:XK),Room k (A.deeper (envOfC a (qab st) s.heap.objs.size f b))->sp vs H Q E ->
   ∃t,PSs (qoc CX0 P w K mg base N a (qab st) f b A outer s H E).nox (qbw st) t/\t {nx:=λ_ H'=>Q .non H',rt:=Q} (qg0 N vs) H):FnOk P w K mg base CX0 (k+1) f e ps sp:=by
 obtain⟨oc,od,kV,doc,pm,an,b,ct,osl,rfl,j,d⟩:=F.ex
 refine qvn j d S len λA outer s H vs Q E i g=>?_
 obtain⟨t,h,q⟩:=c b A outer s H vs Q E i g
 exact⟨t,h.nox,q⟩
theorem Fun.binds {x b:Str}{st:Stmt}{f:Addr}{g:AA}{ps:List Str}(F:Fun K x b st f g)
  (h:∀(kV c e:Value)(d:Option Addr)(a ct:Value)(us:List Value),us.length=ps.length->bindArgs (BB x b (qce st) (qbw st) (qab st) .none kV c e d a ct) ⟨us,[]⟩=pure (ps.zip us)):Binds K g ps []:=by
 obtain⟨oc,od,kV,c,e,d,a,ct,osl,rfl,lk,hcd⟩:=F.ex;exact .all (h kV c e d a ct)
theorem qq7 {x a:Str}{st:Stmt}{f:Addr}{i:Value}{od h:Option Addr}{e:Array (Option Value)}{kV d g b ct:Value}(l:K.lookup f=some ⟨i,od,.func (BB x a (qce st) (qbw st) (qab st) .none kV d g h b ct),e⟩)
  (c:Co K b a=true)(k:Bq K (.ref f)=true):Fun K x a st f (BB x a (qce st) (qbw st) (qab st) .none kV d g h b ct):=⟨⟨i,od,kV,d,g,h,b,ct,e,Z,l,c⟩,k⟩
end
theorem qf8 {A:AX}{k:Nat}(a:Room k A):A.units+1<cLine:=Dr (Nat.add_le_add_left (by decide:1<=64) _) a.units
theorem qtw {n:Nat}(h:n<=1000):n<A4:=Dr h Ez
section
variable {X:Cx}
theorem pv (i:Nat){x:Str}{pos:Pos}(a:X.N[i]?=some x:=by rfl)(hv:Vis X.env.scope x:=by first|exact Ay rfl|exact C8 (Ay rfl)|exact C8 (C8 rfl))(hd:(x == ("__debug__" : Str))=false:=by decide)
  (hcd:(x == ("__classdict__" : Str))=false:=by decide):PE X (.Name x pos) (tVar i):=pe_var a hv hd hcd
end
theorem qa9 {A B:Prop}(h:B):if false=true then A else B:=by rw[if_neg AF];exact h
theorem qby {A B:Prop}(h:A):if true=true then A else B:=by rw[if_pos Z];exact h
theorem qba {c A B:Prop}[Decidable c](a:c->A)(b:¬c->B):if c then A else B:=by
 by_cases h:c
 .rw[if_pos h];exact a h
 .rw[if_neg h];exact b h
def Same (H H':Hp):Prop:=∀b o,H b=some o->H' b=some o
theorem Same.refl (H:Hp):Same H H:=λ_ _ h=>h
theorem Same.trans {H d e:Hp}(a:Same H d)(b:Same d e):Same H e:=λc o h=>b c o (a c o h)
theorem Same.free {H H':Hp}(e:Same H H'){l:Addr}(h:H' l=Option.none):H l=Option.none:=by
 cases q:H l with|none=>rfl|some o =>rw[e l o q]at h;cases h
theorem Same.seq {K:Ae}{H H':Hp}{a:Addr}{xs:List V}(e:Same H H')(h:SqL K H a xs):SqL K H' a xs:=by
 rcases h with (h|⟨o,h⟩)|h
 .exact .inl (.inl (e _ _ h))
 .exact .inl (.inr ⟨o,e _ _ h⟩)
 .exact .inr h
end L2
namespace L2
open PySem PySem.Spec PyProof.Rows
section
variable {κ:Type}[DecidableEq κ]
noncomputable def qek (kvs:List (κ×V))(k:κ):Option V:=(kvs.find? λkv=>decide (kv.1=k)).map (·.2)
noncomputable def qgi (kvs:List (κ×V))(k:κ)(v:V):List (κ×V) :=
 if (kvs.any λkv=>decide (kv.1=k))=true then kvs.map (λkv=>if kv.1=k then (kv.1,v) else kv) else kvs++[(k,v)]
theorem qc2 {p:κ×V}{r:List (κ×V)}{k:κ}(e:p.1=k):qek (p::r) k=some p.2:=by simp[qek,D3,e]
theorem qc3 {p:κ×V}{r:List (κ×V)}{k:κ}(e:¬p.1=k):qek (p::r) k=qek r k:=by simp[qek,D3,e]
theorem qg8 (k:κ):∀kvs:List (κ×V),(kvs.any λa=>decide (a.1=k))=(qek kvs k).isSome
 | []=>rfl
 |p::r=>by
  rw[DK];by_cases e:p.1=k
  .simp only[qc2 e,decide_eq_true e,Bool.true_or,Option.isSome_some]
  .rw[qc3 e,decide_eq_false e,Bool.false_or];exact qg8 k r
theorem qpk (k j:κ)(y:V):∀kvs:List (κ×V),qek (kvs.map λa=>if a.1=k then (a.1,y) else a) j=(qek kvs j).map λx=>if j=k then y else x
 | []=>rfl
 |p::r=>by
  have b:=qpk k j y r;rw[A6];by_cases h:p.1=k
  .rw[if_pos h];by_cases e:p.1=j
   .rw[qc2 (p:=(p.1,y)) e,qc2 e,CP,if_pos (e.symm.trans h)]
   .rw[qc3 (p:=(p.1,y)) e,qc3 e,b]
  .rw[if_neg h];by_cases e:p.1=j
   .rw[qc2 (p:=p) e,qc2 e,CP,if_neg (λz=>h (e.trans z))]
   .rw[qc3 (p:=p) e,qc3 e,b]
theorem qnj (k j:κ)(y:V):∀kvs:List (κ×V),qek kvs k=none->qek (kvs++[(k,y)]) j=if j=k then some y else qek kvs j
 | [],_=>by
  by_cases e:k=j
  .rw[if_pos e.symm];exact qc2 (p:=(k,y)) e
  .rw[if_neg (λz=>e z.symm)];exact qc3 (p:=(k,y)) e
 |p::r,hn=>by
  rw[Bj];have hk:¬p.1=k:=λz=>by rw[qc2 z]at hn;cases hn
  rw[qc3 hk]at hn;have a:=qnj k j y r hn;by_cases e:p.1=j
  .rw[qc2 e,qc2 e,if_neg (λz=>hk (e.trans z))]
  .rw[qc3 e,qc3 e,a]
theorem qvt (kvs:List (κ×V))(k j:κ)(y:V):qek (qgi kvs k y) j=if j=k then some y else qek kvs j:=by
 unfold qgi;by_cases a:(kvs.any λc=>decide (c.1=k))=true
 .rw[if_pos a,qpk];rw[qg8]at a;by_cases e:j=k
  .obtain⟨x,b⟩:=Dc.mp a;rw[if_pos e,e,b,CP,if_pos Z]
  .rw[if_neg e];cases qek kvs j with|none=>rfl|some x=>rw[CP,if_neg e]
 .rw[if_neg a];refine qnj k j y kvs ?_;rw[qg8]at a;cases q:qek kvs k with|none=>rfl|some x=>rw[q]at a;exact(a Z).elim
theorem qg9 (kvs:List (κ×V))(k:κ)(v:V):(qgi kvs k v).length<=kvs.length+1:=by
 unfold qgi;split
 .rw[Ac];lia
 .rw[Ag,Au,Bu];lia
theorem qlk {kvs:List (κ×V)}{k:κ}(v:V)(h:qek kvs k=none):qgi kvs k v=kvs++[(k,v)]:=by unfold qgi;rw[qg8,h];exact if_neg Ez
theorem RelO.isSome_eq {o:Option V}{u:Option Value}(r:RelO o u):o.isSome=u.isSome:=by
 cases o with
 |none=>cases u with
  |none=>rfl
  |some _=>exact(show False from r).elim
 |some _=>cases u with
  |none=>exact(show False from r).elim
  |some _=>rfl
theorem KV.val {kvs:List (κ×V)}{vs:List (κ×Value)}(r:KV kvs vs)(k:κ):RelO (qek kvs k) (valueAt vs k):=by
 unfold KV at r
 induction r with
 |nil=>exact Da
 | @cons p q ps qs h t ih =>
  obtain⟨c,d⟩:=h;by_cases e:p.1=k
  .have a:q.1=k:=c.symm.trans e;have b:valueAt (q::qs) k=some q.2:=by simp[valueAt,D3,a]
   rw[qc2 e,b];exact d
  .have a:¬q.1=k:=λz=>e (c.trans z);have b:valueAt (q::qs) k=valueAt qs k:=by simp[valueAt,D3,a]
   rw[qc3 e,b];exact ih
theorem KV.any {kvs:List (κ×V)}{vs:List (κ×Value)}(r:KV kvs vs)(k:κ):(kvs.any λa=>decide (a.1=k))=vs.any λa=>decide (a.1=k):=by
 unfold KV at r
 induction r with
 |nil=>rfl
 |cons h t ih=>rw[DK,DK,ih,h.1]
theorem KV.repl {kvs:List (κ×V)}{vs:List (κ×Value)}(r:KV kvs vs)(k:κ){y:V}{u:Value}(d:RelV y u) :
  KV (kvs.map λa=>if a.1=k then (a.1,y) else a) (vs.map λa=>if a.1=k then (a.1,u) else a):=by
 unfold KV at r |-
 induction r with
 |nil=>exact .nil
 | @cons p q ps qs h t ih =>
  rw[A6,A6];refine .cons ?_ ih;obtain⟨b,c⟩:=h;by_cases e:p.1=k
  .rw[if_pos e,if_pos (b.symm.trans e)];exact⟨b,d⟩
  .rw[if_neg e,if_neg (λz=>e (b.trans z))];exact⟨b,c⟩
theorem KV.put {kvs:List (κ×V)}{vs:List (κ×Value)}(r:KV kvs vs)(k:κ){y:V}{u:Value}(a:RelV y u):KV (qgi kvs k y) (stored vs k u):=by
 unfold qgi stored;rw[r.any k];by_cases e:(vs.any λb=>decide (b.1=k))=true
 .rw[if_pos e,if_pos e];exact r.repl k a
 .rw[if_neg e,if_neg e];exact DO.snoc r ⟨Z,a⟩
theorem KV.keys {kvs:List (κ×V)}{vs:List (κ×Value)}(r:KV kvs vs):kvs.map (·.1)=vs.map (·.1):=by
 unfold KV at r
 induction r with
 |nil=>rfl
 |cons h t ih=>rw[A6,A6,ih,h.1]
theorem KV.length {kvs:List (κ×V)}{vs:List (κ×Value)}(r:KV kvs vs):kvs.length=vs.length:=DO.length r
end
theorem qpl {P:AK}{w:World}{k:Key}{u:Value}(r:RelV (kV k) u):(qbv P w).is k u=true:=by
 cases k with
 |inl i=>obtain⟨t,e⟩:=(show ∃t,u=Value.int i t from r);subst e;exact qpb P w i t
 |inr x=>obtain⟨t,e⟩:=(show ∃t,u=DQ x t from r);subst e;exact qpc P w x t
theorem qnk {P:AK}{w:World}:∀{a:List Key}{us:List Value},Vals (a.map kV) us->ItemsAre (qbv P w) a us
 | [],_,r=>by rw[BC]at r;cases r;exact .nil
 |k::a,_,r=>by
  rw[A6]at r;cases r with|cons h t=>exact .cons (qpl h) (qnk t)
noncomputable abbrev KT (H:Hp):List (List Key×V)->List (List Key×Addr×Value)->Prop:=DO λp q=>p.1=q.1/\H q.2.1=some (.tup (p.1.map kV))/\RelV p.2 q.2.2
theorem KT.val {H:Hp}{kvs:List (List Key×V)}{xs:List (List Key×Addr×Value)}(r:KT H kvs xs)(k:List Key):RelO (qek kvs k) ((atKey xs k).map (·.2)):=by
 induction r with
 |nil=>exact Da
 | @cons p q ps qs h t ih =>
  obtain⟨c,_,d⟩:=h;by_cases e:p.1=k
  .have a:q.1=k:=c.symm.trans e;have b:atKey (q::qs) k=some q.2:=by simp[atKey,D3,a]
   rw[qc2 e,b];exact d
  .have a:¬q.1=k:=λz=>e (c.trans z);have b:atKey (q::qs) k=atKey qs k:=by simp[atKey,D3,a]
   rw[qc3 e,b];exact ih
theorem KT.repl {H:Hp}{kvs:List (List Key×V)}{xs:List (List Key×Addr×Value)}(r:KT H kvs xs)(k:List Key){y:V}{u:Value}(f:RelV y u) :
  KT H (kvs.map λb=>if b.1=k then (b.1,y) else b) (xs.map (putAt k u)):=by
 induction r with
 |nil=>exact .nil
 | @cons p q ps qs h t ih =>
  rw[A6,A6];refine .cons ?_ ih;obtain⟨a,c,d⟩:=h;unfold putAt;by_cases e:p.1=k
  .rw[if_pos e,if_pos (a.symm.trans e)];exact⟨a,c,f⟩
  .rw[if_neg e,if_neg (λz=>e (a.trans z))];exact⟨a,c,d⟩
theorem KT.put {H:Hp}{kvs:List (List Key×V)}{xs:List (List Key×Addr×Value)}(r:KT H kvs xs)(k:List Key){b:Addr}{y:V}{u:Value}(d:H b=some (.tup (k.map kV)))(a:RelV y u) :
  KT H (qgi kvs k y) (storedH xs k b u):=by
 have e:(kvs.any λc=>decide (c.1=k))=(atKey xs k).isSome:=by rw[qg8,(r.val k).isSome_eq,Option.isSome_map]
 unfold qgi storedH;rw[e];by_cases q:(atKey xs k).isSome=true
 .rw[if_pos q,if_pos q];exact r.repl k a
 .rw[if_neg q,if_neg q];exact DO.snoc r ⟨Z,d,a⟩
theorem KT.keeps {H H':Hp}{kvs:List (List Key×V)}{xs:List (List Key×Addr×Value)}(r:KT H kvs xs)(a:∀b ys,H b=some (.tup ys)->H' b=some (.tup ys)):KT H' kvs xs :=
 DO.mapP r λ_ _ z=>⟨z.1,a _ _ z.2.1,z.2.2⟩
section
variable {P:AK}{w:World}{H:Hp}{h:Heap}{a:Addr}
theorem rd_of {u:HO}(ok:HOk P w H h)(e:Rd H a u):ObjOk P w H h a u:=e.ok ok
theorem qpm {kvs:List (Key×V)}(ok:HOk P w H h)(e:Rd H a (.dK kvs)):kvs.length<=A4/\(a == sysModules)=false/\∃vs,KV kvs vs/\h.DictOf (qbv P w) a vs :=
 show ObjOk P w H h a (.dK kvs) from rd_of ok e
theorem qpn {kvs:List (Key×V)}(ok:HOk P w H h)(e:H a=some (.dK kvs)):kvs.length<=A4/\(a == sysModules)=false/\∃vs,KV kvs vs/\h.DictOf (qbv P w) a vs:=qpm ok (.inl e)
theorem qll {b:List Key}(ok:HOk P w H h)(e:H a=some (.tup (b.map kV))):(tupleKind (qbv P w)).is h b a:=by obtain⟨_,its,r,o,c,d,n,f⟩:=(show ObjOk P w H h a (.tup (b.map kV)) from ok a _ e);exact⟨o,its.toArray,n,c,d,f,by simpa using qnk r⟩
theorem qpo {kvs:List (List Key×V)}(ok:HOk P w H h)(e:Rd H a (.dT kvs)):kvs.length<=A4/\(a == sysModules)=false /\
  ∃xs,KT H kvs xs/\h.DictOfH (tupleKind (qbv P w)) a xs:=by
 obtain⟨z,y,xs,r,o,es,ep,f,d,g,i,c⟩:=(show ObjOk P w H h a (.dT kvs) from rd_of ok e);refine⟨z,y,xs,r,o,es,ep,f,d,g,i,λx b=>?_,c⟩;have all:∀{l:List (List Key×V)}{m:List (List Key×Addr×Value)},KT H l m->∀x∈m,(tupleKind (qbv P w)).is h x.1 x.2.1:=by
  intro l m q
  induction q with
  |nil=>intro x b;exact nomatch b
  | @cons p q ps qs hq t ih =>
   intro x b;rcases An.mp b with e|b
   .subst e;exact qll ok (by rw[<- hq.1];exact hq.2.1)
   .exact ih x b
 exact all r x b
theorem dt_of {kvs:List (List Key×V)}(ok:HOk P w H h)(e:H a=some (.dT kvs)):kvs.length<=A4/\(a == sysModules)=false /\
  ∃xs,KT H kvs xs/\h.DictOfH (tupleKind (qbv P w)) a xs:=qpo ok (.inl e)
end
def DGet (H:Hp)(a:Addr)(y:V)(r:Option V):Prop :=
 (∃kvs k,Rd H a (.dK kvs)/\y=kV k/\r=qek kvs k) \/ ∃kvs k b,Rd H a (.dT kvs)/\y=.ref b/\H b=some (.tup (k.map kV))/\r=qek kvs k
def DPut (H:Hp)(a:Addr)(y v:V)(H':Hp):Prop :=
 (∃kvs k,H a=some (.dK kvs)/\y=kV k/\kvs.length<A4/\H'=upd H a (.dK (qgi kvs k v))) \/
 ∃kvs k b,H a=some (.dT kvs)/\y=.ref b/\H b=some (.tup (k.map kV))/\kvs.length<A4/\H'=upd H a (.dT (qgi kvs k v))
theorem DGet.k {H:Hp}{a:Addr}{kvs:List (Key×V)}{k:Key}(e:H a=some (.dK kvs)):DGet H a (kV k) (qek kvs k):=.inl ⟨kvs,k,.inl e,Z,Z⟩
theorem DPut.k {H:Hp}{a:Addr}{kvs:List (Key×V)}{k:Key}{v:V}(e:H a=some (.dK kvs))(hl:kvs.length<A4):DPut H a (kV k) v (upd H a (.dK (qgi kvs k v))):=.inl ⟨kvs,k,e,Z,hl,Z⟩
section
variable {X:Cx}{pins:List (Addr×Obj)}{σ:St}{H:Hp}{s:Af}{a:Addr}{y v:V}{u r:Value}{o:Option V}{A:AX}{E:Value->Af->Prop}
theorem Inv.big (I:Inv X pins σ H s):sysModules<s.heap.objs.size:=by have h:A8<s.heap.objs.size:=(I.mod.glob.keeps I.bk).lt;exact Nat.lt_trans Ez h
theorem qtx {Q:Value->Af->Prop}(r:A.units+1<cLine)(I:Inv X pins σ H s)(g:DGet H a y (some v))(q:RelV y u)(h:∀c s',Inv X pins σ H s'->RelV v c->Q c s') :
  wpAny (model X.prog X.w) A (getItem (.ref a) u) Q E s:=by
 rcases g with ⟨kvs,k,e,i,l⟩|⟨kvs,k,b,e,i,t,l⟩
 .subst i;obtain⟨z,hd,vs,f,j⟩:=qpm I.hok e;obtain⟨c,m,d⟩:=RelO.some_of (v:=v) (o:=valueAt vs k) (by rw[l];exact f.val k);exact wpAny_getItem_of (qpl q) j.mapOf m (h c _ (I.tok _) d)
 .subst i;cases (show u=Ap b from q);obtain⟨z,hd,xs,f,j⟩:=qpo I.hok e;obtain⟨c,m,d⟩:=RelO.some_of (v:=v) (o:=(atKey xs k).map (·.2)) (by rw[l];exact f.val k);obtain⟨p,x,n⟩:=Option.map_eq_some_iff.mp m;refine wpAny_getItem_heap (DP r) (qll I.hok t) j x ?_;rw[n];exact h c _ (I.tok _) d
theorem d_in {Q:Value->Af->Prop}(j:A.units+1<cLine)(I:Inv X pins σ H s)(g:DGet H a y o)(i:RelV y u)(h:∀s',Inv X pins σ H s'->Q (.bool o.isSome) s') :
  wpAny (model X.prog X.w) A (compareOp .In u (.ref a)) Q E s:=by
 rcases g with ⟨kvs,k,e,d,l⟩|⟨kvs,k,b,e,d,m,l⟩
 .subst d;obtain⟨z,hd,vs,c,f⟩:=qpm I.hok e;refine wpAny_in_of (qpl i) hd f.mapOf ?_;rw[<- (c.val k).isSome_eq,<- l];exact h _ (I.tok _)
 .subst d;cases (show u=Ap b from i);obtain⟨z,hd,xs,c,f⟩:=qpo I.hok e;refine wpAny_in_heap (DP j) (qll I.hok m) hd f ?_;have q:=(c.val k).isSome_eq;rw[Option.isSome_map]at q;rw[<- q,<- l];exact h _ (I.tok _)
theorem qyu {Q:Value->Af->Prop}(j:A.units+1<cLine)(I:Inv X pins σ H s)(g:DGet H a y o)(i:RelV y u)(h:∀s',Inv X pins σ H s'->Q (.bool (!o.isSome)) s') :
  wpAny (model X.prog X.w) A (compareOp .NotIn u (.ref a)) Q E s:=by
 rcases g with ⟨kvs,k,e,d,l⟩|⟨kvs,k,b,e,d,m,l⟩
 .subst d;obtain⟨z,hd,vs,c,f⟩:=qpm I.hok e;refine wpAny_notIn_of (qpl i) hd f.mapOf ?_;rw[<- (c.val k).isSome_eq,<- l];exact h _ (I.tok _)
 .subst d;cases (show u=Ap b from i);obtain⟨z,hd,xs,c,f⟩:=qpo I.hok e;refine wpAny_notIn_heap (DP j) (qll I.hok m) hd f ?_;have q:=(c.val k).isSome_eq;rw[Option.isSome_map]at q;rw[<- q,<- l];exact h _ (I.tok _)
theorem qso {h':Heap}{t':Nat}{c:HO}(I:Inv X pins σ H s)(g:Mut (H a))(h:Bf a s.heap h')(f:∃q,h'.get? a=some q)(d:ObjOk X.prog X.w (upd H a c) h' a c) :
  Inv X pins σ (upd H a c) {s with heap:=h',toks:=t'} :=
 I.write (x:=a) (e:=a) g (.inl Z) (λb q i z=>(h.2 b i).trans z) f d
theorem dk_new {P:AK}{w:World}{H':Hp}{h':Heap}{kvs:List (Key×V)}{vs:List (Key×Value)}(z:kvs.length<=A4)(hd:(a == sysModules)=false)(b:KV kvs vs)(c:h'.DictOf (qbv P w) a vs) :
  ObjOk P w H' h' a (.dK kvs):=⟨z,hd,vs,b,c⟩
theorem qty {H':Hp}{Q:Unit->Af->Prop}(G:A.units+1<cLine)(I:Inv X pins σ H s)(g:DPut H a y v H')(B:RelV y u)(x:RelV v r)(h:∀s',Inv X pins σ H' s'->Q () s') :
  wpAny (model X.prog X.w) A (setItem (.ref a) u r) Q E s:=by
 rcases g with ⟨kvs,k,e,j,l,o⟩|⟨kvs,k,b,e,j,t,l,o⟩
 .subst j o;obtain⟨z,hd,vs,d,n⟩:=qpn I.hok e;have hz:vs.length<=A4:=by rw[<- d.length];exact z
  have hl:(qgi kvs k v).length<=A4:=by have:=qg9 kvs k v;lia
  refine wpAny_setItem_pairs (hsz:=hz) (qpl B) n λh' f m=>h _ ?_;have D:∃q,h'.get? a=some q:=let ⟨q,_,_,i,_⟩:=f;⟨q,i⟩;exact qso I (by rw[e];exact Da) m D (dk_new hl hd (d.put k x) f)
 .subst j o;cases (show u=Ap b from B);obtain⟨z,hd,xs,d,n⟩:=dt_of I.hok e;have hz:xs.length<=A4:=by rw[<- DO.length d];exact z
  have hl:(qgi kvs k v).length<=A4:=by have:=qg9 kvs k v;lia
  refine wpAny_setItem_heap (hsz:=hz) (DP G) (qll I.hok t) n λh' f m=>h _ ?_;obtain⟨q,es,ep,i,F,J,K,_,C⟩:=f;refine qso I (by rw[e];exact Da) m ⟨q,i⟩ ⟨hl,hd,_,(d.put k t x).keeps λc ys p=>?_,q,es,ep,i,F,J,K,C⟩;rw[qp (ne_of p e (λz=>nomatch z))];exact p
end
section
variable {X:Cx}{pins:List (Addr×Obj)}{σ:St}{H:Hp}{s:Af}{a:Addr}{kvs:List (Key×V)}{k:Key}{u:Value}{A:AX}{E:Value->Af->Prop}
end
def NoSl (i:Expr):Prop:=∀ov iv,subscripted i false ov iv=operate [ov,iv] (getItem ov iv)
theorem qyv {prog:AK}{w:World}{A:AX}{E:Value->Af->Prop}{s:Af}{env:Env}{a slice:Expr}{pos:Pos}{T id:String}{Q:Value->Af->Prop}
  (hl:typeLookup (.type T) "__getitem__"=pure (some (.builtin id)))(j:NoSl slice)
  (h:wpAny (model prog w) A (eval a env) (λo g=>wpAny (model prog w) A (eval slice env) (λi c=>c.TypeIs o T/\wpAny (model prog w) A (getItem o i) Q E c) E g) E s) :
  wpAny (model prog w) A (eval (.Subscript a slice pos) env) Q E s:=by
 refine Subscript_ (Cf h (λo g l=>Cf l (λi c d=>?_) λ_ _ x=>x) λ_ _ x=>x);obtain⟨f,d⟩:=d;unfold subscriptTail;refine Ab ?_;rw[getitemInPython_of_ne f.not_modules];refine Ab (wpAny_specialOf f hl ?_);have b:wpAny (model prog w) A (subscripted slice false o i) (λr e=>wpAny (model prog w) A (letTemporaryGo a o r >>= λ_=>pure r) Q E e) E c:=by rw[j o i];exact wpAny_operating (Cf d (λr e k=>Ab (wpAny_letTemporaryGo (Ao k))) λ_ _ x=>x)
 first
  |exact Ao (Ab b)
  |exact Ab (Ao (Ab b))
  |exact Ab b
theorem qpp {X:Cx}{d:List (Addr×Obj)}{σ:St}{H:Hp}{s:Af}{a:Addr}{y:V}{o:Option V}(I:Inv X d σ H s)(g:DGet H a y o):s.TypeIs (.ref a) "dict" := by
 rcases g with ⟨kvs,k,e,_,_⟩|⟨kvs,k,b,e,_,_,_⟩
 .obtain⟨_,_,vs,_,c⟩:=qpm I.hok e;exact c.typeIs
 .obtain⟨_,_,xs,_,c⟩:=qpo I.hok e;exact c.typeIs
def tDGet (td ty:TE):TE:=λσ H Q=>td σ H λx H1=>ty σ H1 λy H2=>∃a v,x=.ref a/\DGet H2 a y (some v)/\Q v H2
def tDIn (ty td:TE):TE:=λσ H Q=>ty σ H λy H1=>td σ H1 λx H2=>∃a o,x=.ref a/\DGet H2 a y o/\Q (.bl o.isSome) H2
def qyw (ty td:TE):TE:=λσ H Q=>ty σ H λy H1=>td σ H1 λx H2=>∃a o,x=.ref a/\DGet H2 a y o/\Q (.bl (!o.isSome)) H2
def sDPut (td ty tv:TE):TS:=λD σ H=>tv σ H λv H1=>td σ H1 λx H2=>ty σ H2 λy H3=>∃a H4,x=.ref a/\DPut H3 a y v H4/\D.nx σ H4
section
variable {X:Cx}{o i e value:Expr}{pos pos' tpos:Pos}{td ty tv:TE}
theorem qiz (m:X.A.units+1<cLine)(n:PE X o td)(p:PE X i ty)(j:NoSl i):PE X (.Subscript o i pos) (tDGet td ty):=by intro b s σ H Q I h;refine qyv PySem.F.slot_dict_getitem.lookup j (thn (n b s σ H _ I h) λu k ⟨x,f,B,l,t⟩=>thn (p b k σ f _ B t) λiv s2 d=>?_);obtain⟨y,w,c,z,a,v,ex,g,r⟩:=d;subst ex;obtain rfl:u=Ap a:=l;exact⟨qpp c g,qtx m c g z λw' s3 q e=>⟨v,w,q,e,r⟩⟩
theorem pc_din (k:X.A.units+1<cLine)(m:PE X i ty)(l:PE X o td):PC X .In i o (tDIn ty td):=by intro b s σ H Q I h;refine thn (m b s σ H _ I h) λiv e ⟨y,d,v,t,q⟩=>thn (l b e σ d _ v q) λu s2 c=>?_;obtain⟨x,r,f,j,a,ov,ex,g,p⟩:=c;subst ex;obtain rfl:u=Ap a:=j;exact d_in k f g t λs3 n=>⟨.bl ov.isSome,r,n,Z,p⟩
theorem qh2 (k:X.A.units+1<cLine)(m:PE X i ty)(l:PE X o td):PC X .NotIn i o (qyw ty td):=by intro b s σ H Q I h;refine thn (m b s σ H _ I h) λiv e ⟨y,d,v,t,q⟩=>thn (l b e σ d _ v q) λu s2 c=>?_;obtain⟨x,r,f,j,a,ov,ex,g,p⟩:=c;subst ex;obtain rfl:u=Ap a:=j;exact qyu k f g t λs3 n=>⟨.bl (!ov.isSome),r,n,Z,p⟩
theorem qof (p:X.A.units+1<cLine)(t:PE X o td)(w:PE X i ty)(F:PE X value tv)(e:swapsWith value (some (.Subscript o i pos')) pos.line X.env=pure false) :
  PS X (.Assign [.Subscript o i pos'] value pos) (sDPut td ty tv):=by
 intro b s σ H D I h;refine wpAny_Assign_Subscript (thn (F b s σ H _ I h) λr f ⟨v,d,K,G,C⟩=>thn (t b f σ d _ K C) λu q ⟨x,E,j,n,B⟩=>thn (w b q σ E _ j B) λiv s3 c=>?_) e;obtain⟨y,H3,z,J,a,m,ex,g,k⟩:=c;subst ex;obtain rfl:u=Ap a:=n;exact qty p z g J G λs4 l=>⟨σ,m,l,k⟩
end
theorem qvu {P:AK}{w:World}{H:Hp}(h:Heap)(a:sysModules<h.objs.size):ObjOk P w H (h.push {cls:=.type "dict",data:=.dict #[]}) h.objs.size (.dK []) :=
 ⟨B7 _,beq_eq_false_iff_ne.mpr (Ba (AG a)),[],.nil,Heap.DictOf.new h⟩
def tDNewK:TE:=λ_ H Q=>∀p,H p=none->Q (.ref p) (upd H p (.dK []))
section
variable {X:Cx}{pos:Pos}
theorem qlm:PE X (.Dict [] [] pos) tDNewK:=λpins s σ H Q I h =>
 wpAny_Dict_empty ⟨.ref s.heap.objs.size,_,I.laid (a:=s.heap.objs.size) (o:=.dK []) (t':=s.toks) (λ_ _ q=>Aj _ q) (A0 _) (qvu s.heap I.big),Z,h _ (I.hok.fresh (A0 _))⟩
end
section
variable {X:Cx}{pins:List (Addr×Obj)}{σ:St}{H:Hp}{s:Af}{a:Addr}{y d:V}{u r:Value}{o:Option V}{A:AX}{E:Value->Af->Prop}
end
section
variable {X:Cx}{o e f:Expr}{apos cpos:Pos}{td ty tx:TE}
end
section
variable {X:Cx}{pins:List (Addr×Obj)}{σ:St}{H:Hp}{s:Af}{a:Addr}{kvs:List (Key×V)}{A:AX}{E:Value->Af->Prop}
end
section
variable {X:Cx}{pins:List (Addr×Obj)}{σ:St}{H:Hp}{s:Af}{a:Addr}{y:V}{u:Value}{A:AX}{E:Value->Af->Prop}
end
end L2
namespace L2
open PySem PySem.Spec PyProof.Rows
section
variable {κ:Type}[DecidableEq κ]
end
end L2
namespace Add
open PySem PySem.Spec PyProof.Rows L2
theorem pos {j:Int}(h:0<j):0<j:=h
theorem mulL {i j:Int}(h : -1000000<i)(h':i<1000000):CMul i j:=.inl ⟨by lia,by lia⟩
section
variable {K:Ae}
theorem qha:BI K (.type "int") (.type "int")=some true:=by kernel_rfl
theorem qi0:BI K (.type "int") (.type "bool")=some false:=by kernel_rfl
end
section
variable {X:Cx}
theorem qff:qer X (.builtin "isinstance") (λxs H Q=>∃x t c b,xs=[x,.ty c]/\TyOf X.K H x t/\BI X.K t (.type c)=some b/\Q (.bl b) H):=by intro pins s σ H xs us Q I r h;obtain⟨x,t,c,b,rfl,ty,e,q⟩:=h;obtain⟨u,f,rfl,a,d⟩:=Vals.two r;cases (show f=BV c from d);exact qts I a ty e λtk=>⟨.bl b,H,I.tok tk,Z,q⟩
noncomputable def qhb:List V->List V->Bool
 | [],[]=>true
 |x::xs,y::ys=>eqV x y && qhb xs ys
 |_,_=>false
noncomputable def eAt (xs ys:List V)(j:Nat):Bool:=match xs[j]?,ys[j]? with
 |some x,some y=>eqV x y
 |_,_=>false
theorem qq8:∀(xs ys:List V),((B4 (min xs.length ys.length)).all (eAt xs ys) && (xs.length == ys.length))=qhb xs ys
 | [],[]=>rfl
 | [],_::_=>by simp[qhb]
 |_::_,[]=>by simp[qhb]
 |x::xs,y::ys=>by
  have a:=qq8 xs ys;have e:min (x::xs).length (y::ys).length=min xs.length ys.length+1:=by simp only[Au];lia
  rw[e,List.range_succ_eq_map,C3,DZ];have f:(eAt (x::xs) (y::ys) ∘ Nat.succ)=eAt xs ys:=by funext j;simp[eAt,Function.comp]
  have g:((x::xs).length == (y::ys).length)=(xs.length == ys.length):=by simp
  rw[f,g];show ((eqV x y && (B4 (min xs.length ys.length)).all (eAt xs ys)) && (xs.length == ys.length))=(eqV x y && qhb xs ys);rw[<- a,Bool.and_assoc]
theorem items_eq {A:AX}{s:Af}{xs ys:List V}{us ws:List Value}(r:Vals xs us)(r':Vals ys ws)(l:xs.all qde=true)(fy:ys.all qde=true) :
  ∀j (e:j<us.toArray.size) (c:j<ws.toArray.size),BM A s us.toArray[j] ws.toArray[j] (eAt xs ys j):=by
 intro j e c;have b:j<xs.length:=by rw[r.length];simpa using e
 have a:j<ys.length:=by rw[r'.length];simpa using c
 obtain⟨u,f,m⟩:=r.get (i:=j) (x:=xs[j]) (by simp[b]);obtain⟨w,g,d⟩:=r'.get (i:=j) (x:=ys[j]) (by simp[a]);have k:us.toArray[j]=u:=by
  have:us[j]?=some us[j]:=by simp
  rw[this]at f;simpa using A9 f
 have h:ws.toArray[j]=w:=by
  have:ws[j]?=some ws[j]:=by simp
  rw[this]at g;simpa using A9 g
 have n:eAt xs ys j=eqV xs[j] ys[j]:=by simp[eAt,b,a]
 rw[k,h,n];exact qvq m d (Be.mp l _ (By b)) (Be.mp fy _ (By a))
def rEqT (K:Ae)(f:Bool->Bool):R2:=λx y H Q=>∃a b xs ys,x=.ref a/\y=.ref b/\SqT K H a xs/\SqT K H b ys/\xs.all qde=true/\ys.all qde=true/\Q (.bl (f (qhb xs ys))) H
theorem op_eqT (l:X.A.units<cLine):OpR X (compareOp .Eq) (rEqT X.K λz=>z):=by
 intro pins s σ H x y v u Q I k o h;obtain⟨a,b,xs,ys,rfl,rfl,g,i,m,fy,q⟩:=h;cases k;cases o;obtain⟨its,d,j,_⟩:=I.tuple g;obtain⟨c,f,n,_⟩:=I.tuple i;refine SeqAt.eq_tupleAt (show s.heap.IsTuple a its.toArray from j) (show s.heap.IsTuple b c.toArray from n) l (items_eq d f m fy) ?_;have e:((B4 (min its.toArray.size c.toArray.size)).all (eAt xs ys) && (its.toArray.size == c.toArray.size))=qhb xs ys:=by rw[<- qq8 xs ys,Ax,Ax,d.length,f.length]
 rw[e];exact⟨.bl (qhb xs ys),H,I,Z,q⟩
end
section
variable {X:Cx}{tg:Expr}
end
section
open PySem.SeqAt
open PySem.AutoSeq1 (wpAny_loadPart')
open PySem.MeetsSeq PySem.MeetsSeq2 PySem.MeetsSeq3
open HT
end
section
variable {prog:AK}{w:World}{A:AX}{E:Value->Af->Prop}{s:Af}
end
section
variable {X:Cx}
end
theorem qik {env:Env}:∀(names:List (Str×B1))(b:List (Str×Addr)),(∀x∈names,x.2=.free->∃c,env.cells.lookup x.1=some c) ->
  (∀x c,b.lookup x=some c->env.cells.lookup x=some c) ->
  ∃f,(forIn names b λ(x:Str×B1)(t:List (Str×Addr))=>if (x.2 == Bw)=true then (do let a <- cellOf env x.1;pure (D4 ((x.1,a)::t))) else (pure (D4 t):Sem (ForInStep (List (Str×Addr)))))=pure f /\
   (∀x c,f.lookup x=some c->env.cells.lookup x=some c)/\(∀x,(b.lookup x).isSome=true->(f.lookup x).isSome=true)/\∀x∈names,x.2=.free->(f.lookup x.1).isSome=true
 | [],b,_,ha=>⟨b,Z,ha,λ_ h=>h,λ_ h=>absurd h (by simp)⟩
 | (n,k)::r,b,hf,ha=>by
  have s:∀x∈r,x.2=.free->∃c,env.cells.lookup x.1=some c:=λx g=>hf x (Ar _ g);rw[List.forIn_cons];cases hk:(k == Bw) with
  |false =>
   obtain⟨f,e,p,l,o⟩:=qik r b s ha;refine⟨f,?_,p,l,λx g i=>?_⟩
   .simp only[hk,Dt,if_false];exact e
   .rcases An.mp g with z|z
    .subst z;have A:k=.free:=i;subst A;exact absurd hk Ez
    .exact o x z i
  |true =>
   have w:k=.free:=by simpa using hk
   obtain⟨c,u⟩:=hf (n,k) Am w;have v:∀x d,((n,c)::b).lookup x=some d->env.cells.lookup x=some d:=λx d e=>by
    rw[BO]at e;cases q:x == n with
    |true =>
     rw[q]at e;have y:x=n:=by simpa using q
     subst y;rw[u];exact e
    |false=>rw[q]at e;exact ha x d e
   obtain⟨f,e,p,l,o⟩:=qik r ((n,c)::b) s v;have j:((((n,c)::b).lookup n).isSome)=true:=by simp
   refine⟨f,?_,p,λx g=>l x ?_,λx g i=>?_⟩
   .have m:cellOf env n=pure c:=by unfold cellOf;rw[u]
    simp only[hk,if_true,m];exact e
   .rw[BO];cases q:x == n with|true=>rfl|false=>exact g
   .rcases An.mp g with z|z
    .subst z;exact l n j
    .exact o x z i
theorem qln {env:Env}{scope:Scope}(g:∀x∈scope.names,x.2=.free->∃c,env.cells.lookup x.1=some c) :
  ∃a,closureFor scope env=pure a/\(∀x c,a.lookup x=some c->env.cells.lookup x=some c)/\∀x∈scope.names,x.2=.free->(a.lookup x.1).isSome=true:=by
 obtain⟨a,e,f,_,d⟩:=qik scope.names [] g (λx c h=>absurd h (by simp));refine⟨a,?_,f,d⟩;unfold closureFor;exact(congrArg (λz=>z >>= λb=>(pure b:Sem (List (Str×Addr)))) e).trans rfl
noncomputable def qog (N:List Str)(js:List (Option Nat))(XN:List Str)(xs scope:Scope):Bool :=
 (scope.kind == .function) && (scope.names.all λx=>x.2 != .cell) && (scope.names.all λx=>x.2 != .local || (scope.names.lookup x.1 == some .local)) &&
 (scope.names.all λx=>x.2 != .free || (xs.names.lookup x.1 == some .cell || xs.names.lookup x.1 == some .free)) && (N.length == js.length) &&
 ((N.zip js).all λp=>match p.2 with|none=>true|some j=>(XN[j]? == some p.1) && (xs.names.lookup p.1 == some .cell || xs.names.lookup p.1 == some .free) && (scope.names.any λx=>x.1 == p.1 && x.2 == .free) && (scope.names.lookup p.1 == some .free))
structure CompNm (N:List Str)(js:List (Option Nat))(XN:List Str)(xs scope:Scope):Prop where
 kind:scope.kind=.function
 nocell:∀x∈scope.names,x.2 ≠ .cell
 names:∀x∈scope.names,x.2=.local->scope.names.lookup x.1=some .local
 clos:∀x∈scope.names,x.2=.free->(xs.names.lookup x.1=some .cell\/xs.names.lookup x.1=some .free)
 len:N.length=js.length
 free:∀(i j:Nat)(x:Str),N[i]?=some x->js[i]?=some (some j)->XN[j]?=some x/\(xs.names.lookup x=some .cell\/xs.names.lookup x=some .free)/\(x,Bw)∈scope.names/\scope.names.lookup x=some .free
theorem qnl {N:List Str}{js:List (Option Nat)}{XN:List Str}{xs scope:Scope}(h:qog N js XN xs scope=true):CompNm N js XN xs scope:=by
 unfold qog at h;simp only[AD,Be,beq_iff_eq,Bool.or_eq_true,bne_iff_ne,ne_eq]at h;obtain⟨⟨⟨⟨⟨o,k⟩,q⟩,u⟩,f⟩,t⟩:=h;refine⟨o,λx a=>k x a,λx a e=>?_,λx a e=>?_,f,λi j x p n=>?_⟩
 .rcases q x a with z|z
  .exact absurd e z
  .exact z
 .rcases u x a with z|z
  .exact absurd e z
  .exact z
 .have hz:(N.zip js)[i]?=some (x,some j):=by rw[List.getElem?_zip_eq_some];exact⟨p,n⟩
  have:=t _ (At hz);simp only[AD,beq_iff_eq,Bool.or_eq_true,Ej]at this;obtain⟨⟨⟨l,d⟩,y,v,r,w⟩,g⟩:=this;refine⟨l,d,?_,g⟩;obtain⟨m,s⟩:=y;have b:m=x:=r;have c:s=.free:=w;subst b c;exact v
theorem qpq {env:Env}{scope:Scope}{x:Str}(h:scope.names.lookup x=some .free):(relabel scope env).names.lookup x=some .cell\/(relabel scope env).names.lookup x=some .free:=by
 have b:∀(l:List (Str×B1)),l.lookup x=some .free->((l.map λ(n,k)=>if (k == Bw && env.scope.kind == .function && env.kindOf n == some .cell) then (n,B1.cell) else (n,k)).lookup x=some .cell\/(l.map λ(n,k)=>if (k == Bw && env.scope.kind == .function && env.kindOf n == some .cell) then (n,B1.cell) else (n,k)).lookup x=some .free):=by
  intro l
  induction l with
  |nil=>intro h;simp at h
  |cons y r ih =>
   obtain⟨n,k⟩:=y;intro h;rw[BO]at h;rw[A6];cases q:x == n with
   |false =>
    rw[q]at h;have:=ih h;by_cases a:(k == Bw && env.scope.kind == .function && env.kindOf n == some .cell)=true
    .simpa [a,BO,q] using this
    .simpa [a,BO,q] using this
   |true =>
    rw[q]at h;have h':k=.free:=A9 h;subst h';by_cases a:(Bw == Bw && env.scope.kind == .function && env.kindOf n == some .cell)=true
    .exact .inl (by show CU x ((if (Bw == Bw && env.scope.kind == .function && env.kindOf n == some .cell)=true then (n,B1.cell) else (n,Bw))::_)=_;rw[if_pos a,BO,q])
    .exact .inr (by show CU x ((if (Bw == Bw && env.scope.kind == .function && env.kindOf n == some .cell)=true then (n,B1.cell) else (n,Bw))::_)=_;rw[if_neg a,BO,q])
 exact b scope.names h
noncomputable def qcw (X:Cx)(N:List Str)(scope:Scope)(cl:List (Str×Addr))(C:Addr)(s:Af)(H:Hp)(fp:List Addr)(E:Value->Af->Prop):Cx :=
 {X with N:=N,s₀:=s,H₀:=H,env:=compEnvC scope cl C X.env,outer:=X.stack,ex:=fp,fn:=λ_=>false,pn:=[],xe:=E}
noncomputable def qil (js:List (Option Nat))(σ:L2.St):L2.St:=js.map λj=>j.bind λk=>(σ[k]?).join
section
variable {prog:AK}{w:World}{A:AX}{R:Result->Af->Prop}{s:Af}
theorem qq9 {f a i:Expr}{d:List Expr}{scope:Scope}{pos:Pos}{it g:Value}{env:Env}(I:Nat->Af->Prop)
  (l:∀n s,I n s->wpAny (model prog w) A (pyNext it) (λr o=>match r with
   |none=>R (.ok .next) o
   |some v=>wpAny (model prog w) A (letOwnedTupleGo a it v) (λ_ j=>wpAny (model prog w) A (assign a env v) (λ_ p =>
     wpAny (model prog w) A (forIn d true λc r=>if r=true then do let ok <- isTrue c env (eval c env);pure (D4 ok) else pure (D4 r)) (λok k =>
      if ok=true then wpAny (model prog w) A (eval f env) (λx z =>
       wpAny (model prog w) A (call (.builtin "list.append") [g,x]) (λ_ t=>∃m,m<n/\I m t) (notedBy (model prog w) A env λe b=>R (.error e) b) z) (notedBy (model prog w) A env λe b=>R (.error e) b) k
      else ∃m,m<n/\I m k) (notedBy (model prog w) A env λe b=>R (.error e) b) p) (notedBy (model prog w) A env λe b=>R (.error e) b) j)
     (notedBy (model prog w) A env λe b=>R (.error e) b) o) (notedBy (model prog w) A env λe b=>R (.error e) b) s)
  (n:Nat)(h:I n s):codeAny (model prog w) A (.compLoop (.ListComp f [⟨a,i,d,0⟩] scope pos) 0 it g env) R s:=by
 refine codeAny_loop rfl I (λn s D=>?_) n h;show wpAny _ A ((compTurn (.ListComp f [⟨a,i,d,0⟩] scope pos) 0 it g env).onRaise (λx=>do noteFrame x env;theTreesLotGoes x)) _ _ s;refine wpAny_noted ?_;rw[compTurn_list];refine Ab (wpAny_standAt (Ab (Cf (l n s D) (λr o u=>?_) λ_ _ h'=>h')));cases r with
 |none=>exact Ao u
 |some v =>
  refine Ab (Cf u (λ_ j y=>?_) λ_ _ h'=>h');refine Ab (Cf y (λ_ p B=>Ab (Cf B (λok k q=>?_) λ_ _ h'=>h')) λ_ _ h'=>h');cases ok with|false=>exact Ao ⟨Z,q⟩|true =>exact Ab (Ab (Cf q (λx z C=>Ab (Cf C (λ_ t E=>Ao (Ao ⟨Z,E⟩)) λ_ _ h'=>h')) λ_ _ h'=>h'))
end
def PTs (X:Cx)(ifs:List Expr)(t:TT):Prop :=
 ∀(pins:List (Addr×Obj))(s:Af)(σ:L2.St)(H:Hp)(Q:Bool->Hp->Prop),Inv X pins σ H s->t σ H Q ->
  wpAny (model X.prog X.w) X.A (forIn ifs true λc r=>if r=true then do let ok <- isTrue c X.env (eval c X.env);pure (D4 ok) else pure (D4 r)) (TP X pins σ Q) X.xe s
def qvv:TT:=λ_ H Q=>Q true H
theorem qcf {X:Cx}:PTs X [] qvv:=λ_ _ _ H _ I h=>wpAny_tests_nil ⟨H,I,h⟩
def qoh (js:List (Option Nat))(g:TG)(tc:TT)(te:TE)(σ:L2.St)(Q:VK)(J:It)(H1:Hp):Prop:=∀p,H1 p=none ->
 ∃W:Nat->Nat->L2.St->Hp->Prop,(∃m,W 0 m (qil js σ) (upd H1 p (.lst [])))/\∀i m σ' H',W i m σ' H' ->
  (J.stop i H'/\Q (.ref p) H')\/(J.go i H'/\∃N:L2.St->Hp->Prop,(∀σ2 H2,N σ2 H2->∃m',m'<m/\W (i+1) m' σ2 H2) /\
   ∀x H2,J.yld i H' x H2->g x σ' H2 λσ3 H3=>tc σ3 H3 λk H4=>if k=true then te σ3 H4 λv H5=>∃xs,H5 p=some (.lst xs)/\xs.length<A4/\N σ3 (upd H5 p (.lst (xs++[v]))) else N σ3 H4)
def tComp (js:List (Option Nat))(wi:TI)(g:TG)(tc:TT)(te:TE):TE:=λσ H Q=>wi σ H (qoh js g tc te σ Q)
section
variable {X:Cx}{N XN:List Str}{js:List (Option Nat)}{xs scope:Scope}{elt target iter:Expr}{ifs:List Expr}{pos:Pos}{g:TG}{tc:TT}{te:TE}
theorem qlo {L:List (Addr×Obj)}{σ:L2.St}{H2:Hp}{D:Af}{it:Addr}{fp:List Addr}{tn:Nat->Heap->Prop}{J:It}{f:List (Str×Addr)}{Q:V->Hp->Prop}{RR:Value->Addr->Result->Af->Prop}{E:Value->Af->Prop}
  (R:X.calm=true)(hN:X.N=XN)(hS:X.env.scope=xs)(nm:CompNm N js XN xs scope)(F:∀x c,f.lookup x=some c->X.env.cells.lookup x=some c)(ag:∀x∈scope.names,x.2=.free->(f.lookup x.1).isSome=true)
  (hg:∀(f:List (Str×Addr))(C:Addr)(s:Af)(H:Hp)(fp:List Addr)(E:Value->Af->Prop),PG (qcw X N scope f C s H fp E) target g)
  (ht:∀(f:List (Str×Addr))(C:Addr)(s:Af)(H:Hp)(fp:List Addr)(E:Value->Af->Prop),PTs (qcw X N scope f C s H fp E) ifs tc)
  (he:∀(f:List (Str×Addr))(C:Addr)(s:Af)(H:Hp)(fp:List Addr)(E:Value->Af->Prop),PE (qcw X N scope f C s H fp E) elt te)
  (I2:Inv X L σ H2 D)(T:Turn X.prog X.w X.K target J fp it tn)(ai:tn 0 D.heap)(f2:∀b∈fp,qe2 X L H2 b)
  (hW:qoh js g tc te σ Q J H2)
  (bq:∀(p C:Addr)(H':Hp)(G:Af)(m:Str->Option Value),Inv X L σ H' G->G.heap.Ns C m->D.heap.objs.size<=C->H' C=none->Q (.ref p) H'->RR (.ref p) C (.ok .next) G) :
  wpAny (model X.prog X.w) X.A (newList []) (λbb s₃=>wpAny (model X.prog X.w) X.A (newFunctionEnv scope X.env.globals f [] X.env.qual none .none (some X.env)) (λao s₄ =>
   codeAny (model X.prog X.w) X.A (.compStart (.ListComp elt [⟨target,iter,ifs,0⟩] scope pos) 0 (.ref it) bb {ao with scope:=relabel scope X.env}) (RR bb ao.locals) s₄) E s₃) E D:=by
 refine Cm (wpAny_newFunctionEnv nm.nocell (by intro y hy;simp at hy) (λh₁ aa Y=>?_) nm.kind)
 obtain⟨W,⟨m0,w0⟩,ak⟩:=hW D.heap.objs.size I2.fresh
 have B:Inv X L σ (upd H2 D.heap.objs.size (.lst [])) {D with heap:=D.heap.push {cls:=.type "list",data:=.seq ([]:List Value).toArray} }:=I2.lnew (ys:=[]) (its:=[]) (t':=D.toks) .nil (B7 _)
 generalize br:({D with heap:=D.heap.push {cls:=.type "list",data:=.seq ([]:List Value).toArray} }:Af)=s3 at B aa Y |-
 have au:s3.heap=D.heap.push {cls:=.type "list",data:=.seq ([]:List Value).toArray}:=by rw[<- br]
 have z3:s3.heap.objs.size=D.heap.objs.size+1:=by rw[au,Bx]
 generalize hP:D.heap.objs.size=P at w0 ak B z3 |-
 have ar:∀b∈fp,upd H2 P (.lst []) b=none:=λb a=>by
  have nb:b≠P:=by obtain⟨o,eo,_⟩:=T.obj 0 D.heap ai b a;have:=A1 eo;rw[hP]at this;exact AG this
  rw[qp nb];exact(f2 b a).1
 generalize hH:upd H2 P (.lst [])=H3 at w0 B ar
 have S:∀b∈fp,b≠X.env.locals/\b∉X.fs/\(b∈X.ex\/X.s₀.heap.objs.size<=b)/\(∀x c,X.env.cells.lookup x=some c->c≠b)/\∀p∈X.pn++L,p.1≠b:=λb a=>(f2 b a).2
 have af:∀b∈fp,b<s3.heap.objs.size:=λb a=>by obtain⟨o,eo,_⟩:=T.obj 0 D.heap ai b a;have hl:=A1 eo;exact AB hl (by rw[z3,hP];exact Cp _)
 have ax:tn 0 s3.heap:=T.keep 0 _ _ ai λb _ o e=>by rw[au];exact Aj _ e
 generalize hC:s3.heap.objs.size=C at aa Y z3 af |-
 have M:∀b o,s3.heap.get? b=some o->h₁.get? b=some o:=λb o e=>Y.extBut b o (by have hl:=A1 e;rw[hC]at hl;exact AG hl) (Aj _ e)
 have stk:∀b∈fp,b∉frs X.stack:=λb a z=>by
  rcases An.mp (B.stkSub b z) with q|q
  .exact(S b a).1 q
  .exact(S b a).2.1 q
 have ok:∀O,(qcw X N scope f C s3 H3 fp O).Ok:=λO=>{
  mod:=B.ok.mod
  kind:=nm.kind
  glob:=B.ok.glob
  blt:=B.ok.blt
  above:=BW hC
  inj:=λx y c h1 h2=>B.ok.inj x y c (F x c h1) (F y c h2)
  has:=λx hx=>by
   have c9:(x,Bw)∈scope.names:=by
    have hl:(relabel scope X.env).names.lookup x=some .cell\/(relabel scope X.env).names.lookup x=some .free:=hx;have bp:∀(l:List (Str×B1)),(∀y∈l,y.2 ≠ .cell)->((l.map λ(n,k)=>if (k == Bw && X.env.scope.kind == .function && X.env.kindOf n == some .cell) then (n,B1.cell) else (n,k)).lookup x=some .cell\/(l.map λ(n,k)=>if (k == Bw && X.env.scope.kind == .function && X.env.kindOf n == some .cell) then (n,B1.cell) else (n,k)).lookup x=some .free)->(x,Bw)∈l:=by
     intro l
     induction l with
     |nil=>intro _ h;rcases h with h|h <;>simp at h
     |cons y r ih =>
      obtain⟨n,k⟩:=y;intro hn h;have hr:=ih (λy hy=>hn y (Ar _ hy));have hk:k ≠ .cell:=hn (n,k) Am;rw[A6]at h;cases q:x == n with
      |false =>
       refine Ar _ (hr ?_);by_cases R:(k == Bw && X.env.scope.kind == .function && X.env.kindOf n == some .cell)=true
       .simpa [R,BO,q] using h
       .simpa [R,BO,q] using h
      |true =>
       have q':x=n:=by simpa using q
       subst q';by_cases R:(k == Bw && X.env.scope.kind == .function && X.env.kindOf x == some .cell)=true
       .have:k=.free:=by
         simp only[AD,beq_iff_eq]at R
         exact R.1.1
        subst this
        exact Am
       .have h':k=.cell\/k=.free:=by simpa [R,BO] using h
        rcases h' with z|z
        .exact absurd z hk
        .subst z;exact Am
    exact bp scope.names nm.nocell hl
   exact Dc.mp (ag _ c9 Z)
  cab:=λ_ _ h _=>nomatch h
  hd:=B.ok.hd
  frames:=B.ok.frames
  stk:=.inl Z
  exf:=λb a=>⟨AG (af b a),λx c e=>(S b a).2.2.2.1 x c (F x c e)⟩
  bs:=B.bs
  bsz:=A3 B.ok.bsz B.sz
  noex:=λb o e a=>by
   rcases (S b a).2.2.1 with z|z
   .exact B.ok.noex b o e z
   .have h1:=A1 e;have h2:=B.ok.bsz;exact absurd (AB h1 (A3 h2 z)) (BJ _)
  exfs:=stk
  funs:=B.stack
  frf:=B.stkFree}
 have qg0:∀O,Inv (qcw X N scope f C s3 H3 fp O) [] (qil js σ) H3 {s3 with heap:=h₁,toks:=s3.toks+([]:List (Str×Value)).length}:=λO=>{
  ok:=ok O
  os:=rfl
  bare:=B.bare
  base:=Un.kept M
  loc:=by
   refine⟨_,aa,λi x v e1 e2 e3=>?_⟩;have U:((js[i]?).map λj=>j.bind λk=>(σ[k]?).join)=some (some v):=by
    have:=e2;unfold qil at this
    rwa [Ak]at this
   cases hj:js[i]? with
   |none=>rw[hj]at U;cases U
   |some jo =>
    rw[hj]at U;cases jo with
    |none=>cases U
    |some j =>
     have I:(σ[j]?).join=some v:=A9 U;have e4:σ[j]?=some (some v):=by
      cases q:σ[j]? with
      |none=>rw[q]at I;cases I
      |some o=>rw[q]at I;cases o with
       |none=>cases I
       |some y=>cases I;rfl
     obtain⟨a1,a2,a3,a4⟩:=nm.free i j x e1 hj;obtain⟨mX,hnX,lX⟩:=B.loc;have cg:Vis X.env.scope x:=by rw[hS];exact .inr a2
     obtain⟨u,ru,lu⟩:=lX j x v (by rw[hN];exact a1) e4 cg;refine⟨u,ru,?_⟩;rcases lu with ⟨k1,_⟩|⟨k1,c,e5,z⟩
     .exfalso;have ae:X.env.scope.names.lookup x=some .local:=k1;rw[hS]at ae;rcases a2 with q|q <;>rw[q]at ae <;>cases ae
     .obtain⟨c',e6⟩:=Dc.mp (ag _ a3 Z);have e7:=F x c' e6;rw[e5]at e7;cases e7;refine .inr ⟨?_,c,e6,?_⟩
      .rcases e3 with q|q|q
       .exfalso;have:=qpq (env:=X.env) a4;rcases this with t|t <;>(have q':(relabel scope X.env).names.lookup x=some .local:=q;rw[t]at q';cases q')
       .exact .inl q
       .exact .inr q
      .obtain⟨o,ho,hd⟩:=z;exact⟨o,M c o ho,hd⟩
  cell:=λx c e=>by obtain⟨v,o,ho,hd⟩:=B.cell x c (F x c e);exact⟨v,o,M c o ho,hd⟩
  free:=B.hok.fresh (BW hC)
  freeC:=λx c e=>B.freeC x c (F x c e)
  pin:=λp hp=>absurd (show p∈([]:List (Addr×Obj)) from hp) (by simp)
  hok:=B.hok.kept M
  len:=by unfold qil;rw[Ac];exact nm.len.symm}
 have done:∀{O:Value->Af->Prop}{σ':L2.St}{H':Hp}{G:Af},Inv (qcw X N scope f C s3 H3 fp O) [] σ' H' G->Q (.ref P) H'->RR (.ref P) C (.ok .next) G:=λ{O σ' H' G} J' q=>by obtain⟨m',bw,_⟩:=J'.loc;refine bq P C H' G m' (B.call' (ch:=fp) J'.os J'.base J'.hok J'.bare λb a=>⟨(S b a).2.2.1,(S b a).1,(S b a).2.2.2.1,(S b a).2.2.2.2⟩) bw (by rw[z3,hP];exact Cp _) J'.free q
 have ah:∀s₄:Af,s₄={s3 with heap:=h₁,toks:=s3.toks+([]:List (Str×Value)).length} ->
   codeAny (model X.prog X.w) X.A (.compLoop (.ListComp elt [⟨target,iter,ifs,0⟩] scope pos) 0 (.ref it) (.ref P) (compEnvC scope f C X.env)) (RR (.ref P) C) s₄:=by
  rintro s₄ rfl;generalize bi:notedBy (model X.prog X.w) X.A (compEnvC scope f C X.env) (λe G=>RR (.ref P) C (.error e) G)=NB;have ac:∀{H':Hp},(∀b∈fp,H' b=none)->∀b∈fp,qe2 (qcw X N scope f C s3 H3 fp NB) [] H' b:=λhn b a =>
   ⟨hn b a,AG (af b a),stk b a,.inl a,λx c e=>(S b a).2.2.2.1 x c (F x c e),λp hp=>absurd (show p∈([]:List (Addr×Obj)) from hp) (by simp)⟩
  refine qq9 (λn G=>∃i σ' H',Inv (qcw X N scope f C s3 H3 fp NB) [] σ' H' G/\tn i G.heap/\(∀b∈fp,H' b=none)/\W i n σ' H') ?_ m0 ⟨0,qil js σ,H3,qg0 NB,T.keep 0 _ _ ax λb _ o e=>M b o e,ar,w0⟩;rw[bi];rintro n s5 ⟨i,σ5,H5,I5,bc,aq,w5⟩;rcases ak i n σ5 H5 w5 with ⟨stop,qn⟩|⟨go,Nx,bv,step⟩
  .refine thn (T.done (qcw X N scope f C s3 H3 fp NB) Z Z Z R i [] s5 σ5 H5 NB I5 (ac aq) bc stop) λr s6 ⟨hr,I6⟩=>?_;subst hr;exact done I6 qn
  .refine thn (T.item (qcw X N scope f C s3 H3 fp NB) Z Z Z R i [] s5 σ5 H5 NB I5 (ac aq) bc go) λr s6 ⟨u,hr,h6⟩=>?_;subst hr;refine thn h6 λ_ s7 ⟨x,H7,I7,r7,y7,am,bx⟩=>?_;have bt:=I7.pinned (ac bx) (T.obj _ _ am);have ad:∀{σ8:L2.St}{H8:Hp}{s8:Af},Inv (qcw X N scope f C s3 H3 fp NB) ([]++qjv fp s7.heap) σ8 H8 s8->Nx σ8 H8->∃m,m<n/\∃i σ' H',Inv (qcw X N scope f C s3 H3 fp NB) [] σ' H' s8/\tn i s8.heap/\(∀b∈fp,H' b=none)/\W i m σ' H':=λ{σ8 H8 s8} I8 n8=>by obtain⟨m',hm,w8⟩:=bv σ8 H8 n8;refine⟨m',hm,i+1,σ8,H8,I8.unpinned,T.keep _ _ _ am λb a o e=>(I8.pin (b,o) (AI _ (AI _ (qfd a e)))).1,λb a=>?_,w8⟩;obtain⟨o,e,d⟩:=T.obj _ _ am b a;exact(I8.pin (b,o) (AI _ (AI _ (qfd a e)))).2.1
   refine thn (hg f C s3 H3 fp NB _ s7 σ5 H7 x u _ bt r7 (step x H7 y7)) λ_ s8 ⟨σ8,H8,I8,q8⟩=>?_;refine thn (ht f C s3 H3 fp NB _ s8 σ8 H8 _ I8 q8) λk s9 ⟨H9,I9,q9⟩=>?_;cases k with
   |false =>rw[if_neg Ez]at q9 |-;exact ad I9 q9
   |true =>rw[if_pos Z]at q9 |-;refine thn (he f C s3 H3 fp NB _ s9 σ8 H9 _ I9 q9) λuv cc ⟨v,bj,ce,bg,cf,cb,bz,bu⟩=>?_;refine thn (qbd (X:=qcw X N scope f C s3 H3 fp NB) _ cc σ8 bj (.ref P) [v] (.ref P) [uv] (λ_ aw=>Nx σ8 aw) ce Z (.cons bg .nil) ⟨P,cf,v,Z,Z,cb,bz,bu⟩) λ_ s11 ⟨_,aw,bh,_,bf⟩=>?_;exact ad bh bf
 exact codeAny_compStart_list (ah _ Z) (T.self _ 0 _ _ _ (T.keep 0 _ _ ax λb _ o e=>M b o e) (ah _ Z))
end
section
variable {X:Cx}{N XN:List Str}{js:List (Option Nat)}{xs scope:Scope}{elt target iter:Expr}{ifs:List Expr}{pos:Pos}{wi:TI}{g:TG}{tc:TT}{te:TE}
theorem qkk {a:List (Addr×Obj)}{σ σ':L2.St}{H H':Hp}{s f:Af}{C:Addr}{h':Heap}(d:Inv X a σ H s)(J:Inv X a σ' H' f)(g:s.heap.objs.size<=C)(j:H' C=none)(i:Bf C f.heap h'):Inv X a σ' H' {f with heap:=h'} :=
 J.turned (t':=f.toks) (it:=C) (λb o h e=>i.extBut b o h e) j (Cs (AB d.lt g)) (.inr (A3 d.sz g))
  (λx c e=>by obtain⟨v,q⟩:=d.cell x c e;exact AG (AB q.lt g)) λp k=>AG (AB (A1 (d.pin p k).1) g)
theorem qd1 (S:X.calm=true)(K:X.N=XN)(c:X.env.scope=xs)(n:qog N js XN xs scope=true)(M:PI X target iter wi)
  (R:∀(a:List (Str×Addr))(C:Addr)(s:Af)(H:Hp)(fp:List Addr)(E:Value->Af->Prop),PG (qcw X N scope a C s H fp E) target g)
  (G:∀(a:List (Str×Addr))(C:Addr)(s:Af)(H:Hp)(fp:List Addr)(E:Value->Af->Prop),PTs (qcw X N scope a C s H fp E) ifs tc)
  (r:∀(a:List (Str×Addr))(C:Addr)(s:Af)(H:Hp)(fp:List Addr)(E:Value->Af->Prop),PE (qcw X N scope a C s H fp E) elt te)
  (u:∀x,foldedSetIterable iter X.env x=pure x:=by intro _;rfl):PE X (.ListComp elt [⟨target,iter,ifs,0⟩] scope pos) (tComp js wi g tc te):=by
 intro b s σ H Q I h;have nm:=qnl n;obtain⟨a,l,O,y⟩:=qln (env:=X.env) (scope:=scope) λx P e=>I.ok.has x.1 (by
  rcases nm.clos x P e with q|q
  .exact .inl (by show X.env.scope.names.lookup _=_;rw[c];exact q)
  .exact .inr (by show X.env.scope.names.lookup _=_;rw[c];exact q))
 rw[eval_ListComp];refine wpAny_comprehension_free (use:=none) rfl u l nm.kind nm.names (thn (M b s σ H _ I h) λv s1 D=>thn D λitv s2 t=>?_);obtain⟨it,fp,tn,J,H2,e,f,T,j,B,z⟩:=t;subst e;refine qlo (RR:=λk C=>compPost (model X.prog X.w) X.A X.xe none (EP X b σ Q) k C) S K c nm O y R G r f T j B z λp C H' s' m o L F i q=>?_;exact⟨m,L,λh' d=>⟨.ref p,H',qkk f o F i d,Z,q⟩⟩
theorem qfg {i:Nat}{x:Str}{c f:Pos}(r:X.N.Nodup)(R:X.N[i]?=some x)(j:X.env.scope.names.lookup x=some .local)(hc:X.calm=true)(hN:X.N=XN)(n:X.env.scope=xs)(U:qog N js XN xs scope=true)(hi:PI X target iter wi)
  (hg:∀(d:List (Str×Addr))(C:Addr)(s:Af)(H:Hp)(fp:List Addr)(E:Value->Af->Prop),PG (qcw X N scope d C s H fp E) target g)
  (ht:∀(d:List (Str×Addr))(C:Addr)(s:Af)(H:Hp)(fp:List Addr)(E:Value->Af->Prop),PTs (qcw X N scope d C s H fp E) ifs tc)
  (he:∀(d:List (Str×Addr))(C:Addr)(s:Af)(H:Hp)(fp:List Addr)(E:Value->Af->Prop),PE (qcw X N scope d C s H fp E) elt te)
  (P:swapsWith (.ListComp elt [⟨target,iter,ifs,0⟩] scope pos) (some (.Name x c)) f.line X.env=pure true:=by rfl)
  (hs:∀x,foldedSetIterable iter X.env x=pure x:=by intro _;rfl):PS X (.Assign [.Name x c] (.ListComp elt [⟨target,iter,ifs,0⟩] scope pos) f) (tAsg (tComp js wi g tc te) (qf4 i)):=by
 intro a s σ H D I h;have nm:=qnl U;obtain⟨d,t,c1,c2⟩:=qln (env:=X.env) (scope:=scope) λx hx e=>I.ok.has x.1 (by
  rcases nm.clos x hx e with q|q
  .exact .inl (by show X.env.scope.names.lookup _=_;rw[n];exact q)
  .exact .inr (by show X.env.scope.names.lookup _=_;rw[n];exact q))
 rw[exec_Assign_Name_used _ _ _ _ P];refine Ab (wpAny_standAt (Ab ?_));show wpAny _ X.A (do let _ <- comprehension (.ListComp elt [⟨target,iter,ifs,0⟩] scope pos) scope X.env _ (newList []) false (eval iter X.env) (some (assign (.Name x c) X.env))) _ _ s;refine Ab (Cf (wpAny_comprehension_free (use:=some (assign (.Name x c) X.env)) (Q:=λ_ b=>SP X a D .next b) Z hs t nm.kind nm.names
  (thn (hi a s σ H _ I h) λv s1 W=>thn W λitv s2 h2=>?_)) (λ_ b hq=>Ao (Ao hq)) λ_ _ e=>e)
 obtain⟨it,fp,tn,J,H2,e,k,T,B,V,hW⟩:=h2;subst e;refine qlo (Q:=λx H1=>qf4 i x σ H1 D.nx) (RR:=λS C=>compPost (model X.prog X.w) X.A X.xe (some (assign (.Name x c) X.env)) (λ_ b=>SP X a D .next b) S C) hc hN n nm c1 c2 hg ht he k T B V hW λp C H' b m K Y l M q=>?_;obtain⟨o,es,ep,ho,hd,hr⟩:=id Y;have Jp:Inv X (a++[(C,o)]) σ H' b:=K.pins_of λz hz=>(Az.mp hz).elim (λy=>K.pin z (AI _ y)) λy=>by
  have e:z=(C,o):=by simpa using y
  subst e;exact⟨ho,M,Cs (AB k.lt l),k.nofs l,λv z=>by rw[hd]at z;cases z⟩
 refine thn (qaj (X:=X) (pos:=c) r R (.inl j) (.inr j) (a++[(C,o)]) b σ H' (.ref p) (.ref p) _ Jp Z q) λ_ s'' ⟨σ'',O,u,L⟩=>?_;have F:=u.pin (C,o) (AI _ (AI _ (by simp)));refine⟨m,⟨o,es,ep,F.1,hd,hr⟩,λh' G=>⟨σ'',O,qkk k u.unpinned l F.2.1 G,L⟩⟩
end
def qsp (J:It)(H:Hp)(xs:List V):Prop:=∀H',Same H H'->(∀i x,xs[i]?=some x->J.go i H'/\∀y H2,J.yld i H' y H2->y=x/\H2=H')/\J.stop xs.length H'
theorem qbz {K:Ae}{H:Hp}{a:Addr}{xs:List V}(h:SqL K H a xs):qsp (Itl K a) H xs:=λH' e =>
 ⟨λi x b=>⟨⟨xs,x,e.seq h,b⟩,λy H2 d=>by obtain⟨f,c⟩:=d;have:=c xs (e.seq h);rw[b]at this;exact⟨(A9 this).symm,f⟩⟩,⟨xs,e.seq h,A0 _⟩⟩
theorem qkl {H:Hp}{lo:Int}{n:Nat}:qsp (Itr lo n) H ((B4 n).map λi=>V.int (lo+(i:Nat))):=λH' _ =>
 ⟨λi x a=>by
  rw[Ak]at a;cases q:(B4 n)[i]? with
  |none=>rw[q]at a;cases a
  |some j =>
   have e:i<n:=by obtain⟨c,_⟩:=Ah.mp q;simpa using c
   have f:j=i:=by obtain⟨_,d⟩:=Ah.mp q;simpa using d.symm
   rw[q]at a;subst f;exact⟨e,λy H2 b=>⟨b.2.trans (A9 a),b.1⟩⟩,by show n<=_;simp⟩
theorem qbi {js:List (Option Nat)}{g:TG}{k:TE}{J:It}{σ:L2.St}{H:Hp}{Q:VK}{xs:List V}(f:V->V)(c:L2.St->Prop)(F:qsp J H xs)(hz:xs.length<=A4)(w:c (qil js σ))
  (step:∀(x:V)(σ':L2.St)(H':Hp)(R:L2.St->VK),x∈xs->Same H H'->c σ'->(∀σ3,c σ3->R σ3 (f x) H')->g x σ' H' λσ3 h=>k σ3 h (R σ3))
  (E:∀(x:V)(σ':L2.St)(H':Hp)(R n:L2.St->Hp->Prop),(∀σ3 h,R σ3 h->n σ3 h)->g x σ' H' R->g x σ' H' n)
  (q:∀p,H p=none->Q (.ref p) (upd H p (.lst (xs.map f)))) :
  qoh js g qvv k σ Q J H:=by
 intro p t;have r:∀o,Same H (upd H p o):=λo b u e=>by rw[qp (qaf e t)];exact e
 refine⟨λi m σ' H'=>m=xs.length-i/\i<=xs.length/\c σ'/\H'=upd H p (.lst ((xs.take i).map f)),⟨xs.length,by simp,B7 _,w,by simp⟩,?_⟩;rintro i m σ' H' ⟨rfl,hi,G,rfl⟩;obtain⟨A,C⟩:=F _ (r (.lst ((xs.take i).map f)));by_cases d:i<xs.length
 .have ex:xs[i]?=some xs[i]:=by simp[d]
  obtain⟨y,B⟩:=A i _ ex;refine .inr ⟨y,λσ2 j=>c σ2/\j=upd H p (.lst ((xs.take (i+1)).map f)),λσ2 j ⟨a,b⟩=>⟨xs.length-(i+1),by lia,Z,d,a,b⟩,λx j D=>?_⟩;obtain⟨rfl,rfl⟩:=B x j D;refine E _ _ _ _ _ (λσ3 h z=>?_) (step xs[i] σ' _ (λσ3 v l=>∃ys,l p=some (.lst ys)/\ys.length<A4/\(c σ3/\upd l p (.lst (ys++[v]))=upd H p (.lst ((xs.take (i+1)).map f)))) (By d) (r _) G λσ3 s=>?_)
  .exact z
  .refine⟨_,qi,?_,s,?_⟩
   .rw[Ac,AZ];lia
   .rw[qyi,CV,ex,Av];rfl
 .have e:i=xs.length:=by lia
  subst e;refine .inl ⟨C,?_⟩;rw[B8];exact q p t
theorem qcx {i:Nat}(x:V)(σ':L2.St)(H':Hp)(R a:L2.St->Hp->Prop)(h:∀σ3 H3,R σ3 H3->a σ3 H3)(z:qf4 i x σ' H' R):qf4 i x σ' H' a:=h _ _ z
noncomputable def Ixs (x:Str):It:=⟨λi _=>i<x.cps.size,λi H v H'=>H'=H/\∃c,x.cps[i]?=some c/\v=.str ⟨#[c]⟩,λi _=>i=x.cps.size⟩
theorem qnm {P:AK}{w:World}{K:Ae}{O:Expr}{it:Addr}{x:Str}{t:Tok}{ty:String}
  (M:["enumerate","zip","dict_itemiterator","dict_reverseitemiterator","odict_iterator","itertools.zip_longest","itertools.pairwise"].contains ty=false)
  (W:∀A':AX,A'.handled=none->Walks P w A' it [it] [it] x.cps.size (SignAt x) (λi h=>h.IsStrIter it ty x t i))
  (self:∀(A:AX)(i:Nat)(s:Af)(Q:Value->Af->Prop)(E:Value->Af->Prop),s.heap.IsStrIter it ty x t i->Q (.ref it) s->wpAny (model P w) A (pyIter (.ref it)) Q E s) :
  Turn P w K O (Ixs x) [it] it (λi h=>h.IsStrIter it ty x t i) where
 mem:=by simp
 obj:=λi h st b a=>by
  have e:b=it:=by simpa using a
  subst e;obtain⟨o,d,_,hd⟩:=st;exact⟨o,d,λv z=>by rw[hd]at z;cases z⟩
 keep:=λi h h' st k=>let ⟨o,d,r⟩:=st;⟨o,k it (by simp) o d,r⟩
 item:=by intro X n G l p i f s σ H E I g st D;subst n G l;obtain⟨C,q,N,F,m,B⟩:=g it (by simp);refine(W X.A (I.ok.hd p)).item i s _ _ D st λv h' tk R j y=>?_;obtain⟨c,u,J,rfl⟩:=R;have S:Inv X f σ H {s with heap:=h',toks:=tk}:=I.turned (λb o a e=>y b o (by simpa using a) e) C q F m B;obtain⟨o,d,L,hd⟩:=id j;exact⟨_,Z,qsi (s:={s with heap:=h',toks:=tk}) d L hd M ⟨.str ⟨#[c]⟩,H,S,⟨u,Z⟩,⟨Z,c,J,Z⟩,j,λb a=>(g b a).1⟩⟩
 done:=by intro X n G l p i f s σ H E I g st D;subst n G l;obtain⟨C,q,N,F,m,B⟩:=g it (by simp);have e:i=x.cps.size:=D;subst e;exact(W X.A (I.ok.hd p)).done s _ _ st λh' tk y=>⟨Z,I.turned (t':=tk) (λb o a e=>y b o (by simpa using a) e) C q F m B⟩
 self:=self
section
variable {X:Cx}{tg:Expr}
def iText (tl:TE):TI:=λσ H R=>tl σ H λv H1=>∃x,v=.str x/\R (Ixs x) H1
theorem qoi {l:Expr}{j:TE}(hl:PE X l j):PI X tg l (iText j):=by
 intro c s σ H R I h;refine thn (hl c s σ H _ I h) λv a ⟨y,f,d,m,r⟩=>?_;obtain⟨x,e,q⟩:=r;subst e;obtain⟨t,rfl⟩:=m;have k:∀b∈[a.heap.objs.size],qe2 X c f b:=λb n=>by
  have e:b=a.heap.objs.size:=by simpa using n
  subst e;exact d.fpOk (A0 _) (d.hok.fresh (A0 _))
 cases i:x.cps.all (· < 128)
 .exact wpAny_pyIter_wide i ⟨a.heap.objs.size,[a.heap.objs.size],_,_,f,Z,d.kept (t':=a.toks) λb o e=>Aj _ e,
   qnm (ty := "str_iterator") (t:=t) Ez (λp g=>Walks.strWide g _ x t) (λ_ _ _ _ _ st h=>wpAny_pyIter_striter_wide st h),⟨_,Aw _ Z,Z,Z⟩,k,q⟩
 .exact wpAny_pyIter_ascii i ⟨a.heap.objs.size,[a.heap.objs.size],_,_,f,Z,d.kept (t':=a.toks) λb o e=>Aj _ e,
   qnm (ty := "str_ascii_iterator") (t:=t) Ez (λp g=>Walks.strAscii g _ x t) (λ_ _ _ _ _ st h=>wpAny_pyIter_striter_ascii st h),⟨_,Aw _ Z,Z,Z⟩,k,q⟩
end
theorem qvw {x:Str}{g:TG}{f:TS}{D:Ends}{σ:L2.St}{H:Hp}(a:Nat->L2.St->Hp->Prop)(k:a 0 σ H)
  (h:∀i c σ H,x.cps[i]?=some c->a i σ H->g (.str ⟨#[c]⟩) σ H λσ2 d=>f {D with nx:=a (i+1),ct:=a (i+1),bk:=D.nx} σ2 d)(hd:∀σ H,a x.cps.size σ H->D.nx σ H) :
  ∃W:Nat->Nat->L2.St->Hp->Prop,(∃m,W 0 m σ H)/\∀i m σ H,W i m σ H ->
   ((Ixs x).stop i H/\D.nx σ H)\/((Ixs x).go i H/\∃N:L2.St->Hp->Prop,(∀σ' H',N σ' H'->∃m',m'<m/\W (i+1) m' σ' H')/\∀v H',(Ixs x).yld i H v H'->g v σ H' λσ2 d=>f {D with nx:=N,ct:=N,bk:=D.nx} σ2 d):=by
 refine⟨λi m σ H=>m=x.cps.size-i/\i<=x.cps.size/\a i σ H,⟨x.cps.size,by simp,B7 _,k⟩,?_⟩
 rintro i m σ H ⟨rfl,hi,p⟩
 by_cases b:i<x.cps.size
 .refine .inr ⟨b,a (i+1),λσ' H' j=>⟨x.cps.size-(i+1),by lia,Z,b,j⟩,λv H' y=>?_⟩;obtain⟨e,c,l,y⟩:=y;subst e y;exact h i c σ _ l p
 .have e:i=x.cps.size:=by lia
  subst e;exact .inl ⟨Z,hd σ H p⟩
theorem qlp {H:Hp}{x:Str}:qsp (Ixs x) H (x.cps.toList.map λc=>V.str ⟨#[c]⟩):=λH' _ =>
 ⟨λi v a=>by
  rw[Ak]at a;cases q:x.cps.toList[i]? with
  |none=>rw[q]at a;cases a
  |some c =>
   rw[q]at a;have e:x.cps[i]?=some c:=by simpa using q
   have f:i<x.cps.size:=(CJ.mp e).1;refine⟨f,λy H2 b=>⟨?_,b.1⟩⟩;obtain⟨_,d,hd,rfl⟩:=b;rw[e]at hd;cases hd;exact A9 a,by show _=x.cps.size;simp⟩
section
variable {X:Cx}
theorem qvx (bs:List Bool):((B4 bs.length).all λj=>(bs[j]?).getD true)=bs.all λb=>b:=by
 rw[<- all_rangeD bs λb=>b]
 congr 1
theorem qjz (m:X.calm=true):qer X (.builtin "all") (λxs H Q=>∃(p:Addr)(bs:List Bool),xs=[V.ref p]/\SqL X.K H p (bs.map V.bl)/\Q (.bl (bs.all λb=>b)) H):=by
 intro pins s σ H xs us Q I r h;obtain⟨p,bs,rfl,w,q⟩:=h;obtain⟨u,rfl,d⟩:=Vals.one r;cases d;obtain⟨its,k,pl,hz⟩:=I.list w;have hl:=k.length;rw[Ac]at hl;have g:p≠s.heap.objs.size:=by obtain⟨o,n,_⟩:=pl.isList;exact AG (A1 n)
 refine call_all_walk (D6 pl.isList ⟨s.heap.objs.size,_,_,its.toArray.size,_,_,λj=>(bs[j]?).getD true,Z,Walks.list (show X.A.in1.handled=none from I.ok.hd m) _ p g its.toArray,
  ⟨⟨_,Aw _ Z,Z,Z⟩,pl.isList.at λo e=>Aj _ e⟩,?_,λh' tk hk=>?_⟩)
 .intro i v s' Q' E' y c;have a:its[i]?=some v:=by simpa using y
  cases e:bs[i]? with
  |none =>
   exfalso;have l:its.length<=i:=by rw[<- hl];exact BF.mp e
   rw[BF.mpr l]at a;cases a
  |some b =>obtain⟨u,f,d⟩:=k.get (i:=i) (x:=.bl b) (by rw[Ak,e];rfl);rw[a]at f;cases f;cases (show v=Value.bool b from d);dsimp only at c;rw[e]at c;exact BQ c
 .refine⟨.bl _,H,I.kept (t':=tk) λb o e=>hk b o (λz=>?_) (Aj _ e),Z,?_⟩
  .have t:b=s.heap.objs.size:=by simpa using z
   exact absurd (A1 e) (by rw[t];exact BJ _)
  .have e:its.toArray.size=bs.length:=by rw[Ax,hl]
   rw[e];rw[qvx];exact q
theorem qh3:OpR X (compareOp .LtE) (λx y H Q=>∃i j,x=.str i/\y=.str j/\Q (.bl (!decide (j.cps.toList<i.cps.toList))) H):=by intro pins s σ H x y v u Q I a b h;obtain⟨i,j,rfl,rfl,q⟩:=h;obtain⟨t,rfl⟩:=a;obtain⟨t',rfl⟩:=b;exact PySem.P.le_str (qa3 I q Z)
theorem qra:SlR X (λx lo d H Q=>∃z,x=.str z/\z.length<=A4/\Q (.str (Ek z lo d)) H):=by
 intro c s σ H x v vl vu lo d sl Q I f b pl e h;obtain⟨z,rfl,hz,q⟩:=h;obtain⟨t,rfl⟩:=f;refine⟨"str",_,F.slot_str_getitem.lookup,typeIs_str _ _ _,?_⟩;have a:∀t' k,EP X c σ Q (.str (Ek z lo d) t') {s with toks:=k}:=λt' k=>⟨.str _,H,I.tok k,⟨t',Z⟩,q⟩;cases pl with
 |none =>
  cases e with|none=>exact Dl (l:=none) (u:=none) (st:=none) b rfl (post_val_or_str ⟨A3 (Ea z _ _) hz,a⟩)|int j uj=>exact Dl (l:=none) (u:=some (j,uj)) (st:=none) b rfl (post_val_or_str ⟨A3 (Ea z _ _) hz,a⟩)
 |int i ui =>
  cases e with|none=>exact Dl (l:=some (i,ui)) (u:=none) (st:=none) b rfl (post_val_or_str ⟨A3 (Ea z _ _) hz,a⟩)|int j uj=>exact Dl (l:=some (i,ui)) (u:=some (j,uj)) (st:=none) b rfl (post_val_or_str ⟨A3 (Ea z _ _) hz,a⟩)
theorem qf9 {a b}{es:List Expr}{env:Env}:starEach (.List a b::es) env=(false,eval (.List a b) env)::starEach es env:=by rw[starEach];intro e p' h;cases h
theorem zq {a b c}{es:List Expr}{env:Env}:starEach (.Tuple a b c::es) env=(false,eval (.Tuple a b c) env)::starEach es env:=by rw[starEach];intro e p' h;cases h
theorem qi1 {a b c d}{es:List Expr}{env:Env}:starEach (.ListComp a b c d::es) env=(false,eval (.ListComp a b c d) env)::starEach es env:=by rw[starEach];intro e p' h;cases h
theorem qj {a b c}{es:List Expr}{env:Env}:starEach (.Constant a b c::es) env=(false,eval (.Constant a b c) env)::starEach es env:=by rw[starEach];intro e p' h;cases h
theorem qc {a b}{es:List Expr}{env:Env}:starEach (.Name a b::es) env=(false,eval (.Name a b) env)::starEach es env:=by rw[starEach];intro e p' h;cases h
theorem zn {a b c d}{es:List Expr}{env:Env}:starEach (.Call a b c d::es) env=(false,eval (.Call a b c d) env)::starEach es env:=by rw[starEach];intro e p' h;cases h
theorem zo {a b c d}{es:List Expr}{env:Env}:starEach (.BinOp a b c d::es) env=(false,eval (.BinOp a b c d) env)::starEach es env:=by rw[starEach];intro e p' h;cases h
theorem qlq {a b c d}{es:List Expr}{env:Env}:starEach (.Compare a b c d::es) env=(false,eval (.Compare a b c d) env)::starEach es env:=by rw[starEach];intro e p' h;cases h
theorem zp {a b c}{es:List Expr}{env:Env}:starEach (.Subscript a b c::es) env=(false,eval (.Subscript a b c) env)::starEach es env:=by rw[starEach];intro e p' h;cases h
theorem qbe {a b c}{es:List Expr}{env:Env}:starEach (.Attribute a b c::es) env=(false,eval (.Attribute a b c) env)::starEach es env:=by rw[starEach];intro e p' h;cases h
theorem qga {a b c}{es:List Expr}{env:Env}:starEach (.BoolOp a b c::es) env=(false,eval (.BoolOp a b c) env)::starEach es env:=by rw[starEach];intro e p' h;cases h
end
section
variable {K:Ae}
theorem qfu:BI K (.type "str") (.type "str")=some true:=by kernel_rfl
theorem qhc:BI K (.type "str") (.type "int")=some false:=by kernel_rfl
theorem qi2:BI K (.type "str") (.type "bool")=some false:=by kernel_rfl
theorem qpr:BI K (.type "list") (.type "list")=some true:=by kernel_rfl
end
section
variable {prog:AK}{w:World}{A:AX}{E:Value->Af->Prop}{h:Heap}{g:Array GenState}{d:Drawn}{t:Nat}{os:OsState}
variable {nm q:Str}{C N:Addr}{bs bm bmB:List Value}{hdct:Bool}{sn:List Str}{sub:List Value}{ab:Bool}{col:Option Bool}{dd:Option Addr}{k0 k1 k2 k3 k5:Option Value}{B Bn newId nid initId inN:String}{bmN:List Value}
noncomputable abbrev qhd (qbm:List Value):Obj:={cls:=.type "tuple",data:=.seq qbm.toArray}
noncomputable abbrev qfh (C t:Addr):Obj:={cls:=.ref C,data:=.fields #[.ref t,.none,.none,.none,.bool false,.none]}
theorem qmx (s:ExcBaseFacts Bn newId inN bmN)(m:bmB.contains (.type Bn)=true)(F:ExcBaseFacts B nid initId bmB)(T:OwnTail h bmB bm){p:Str->Option Value}{qbm:List Value}{R:Result->Af->Prop}{i:Addr}{J:AX}
  (c:h.get? C=some (excClassObj nm q C N bs bm hdct sn sub ab col dd k0 k1 k2 k3 k5 newId))(H:h.Ns N p)(y:p "__init__"=some (.ref i))(E:∀self,BR (model prog w) h (bindSpecial (.ref i) self) (.ref i,[self]))
  (K:codeAny (model prog w) A (.call (.ref i) ⟨.ref (h.objs.size+1)::qbm,[]⟩) (PySem.W.InitBack (h.objs.size+1) R) ⟨(h.push (qhd qbm)).push (qfh C h.objs.size),g,d,t,os⟩)(k:qbm.length<=A4) :
  wpAny (model prog w) A (AH.«type.__call__» ⟨.ref C::qbm,[]⟩) (λx a=>match x with | .done f=>R (.ok f) a | .again c'=>c'.quiet=true/\codeAny (model prog w) J c' R a) (λe a=>R (.error e) a) ⟨h,g,d,t,os⟩:=by
 repeat (first|with_reducible refine wpAny_loadPart_at c ?_|with_reducible refine wpAny_madeBy_exc c ?_|wp_step)
 refine codeAny_call_builtin_code (Code.quiet_builtin _ s.quiet) (wpAny_check_new_subU s m T c ?_)
 refine codeAny_exc_new_subU s m F T c ?_ k
 show wpAny _ _ _ _ _ _
 have j:∀b o,h.get? b=some o->((h.push (qhd qbm)).push (qfh C h.objs.size)).get? b=some o:=λb o e=>Aj _ (Aj _ e)
 have l:=j _ _ c
 have D:((h.push (qhd qbm)).push (qfh C h.objs.size)).Ns N p:=let ⟨o,es,ep,e,r⟩:=H;⟨o,es,ep,j _ _ e,r⟩
 have n:((h.push (qhd qbm)).push (qfh C h.objs.size)).get? (h.objs.size+1)=some (qfh C h.objs.size):=by heap_get
 have u:(Ap C::bm).contains (.ref C)=true:=by simp
 have I:=T.keeps (h':=(h.push (qhd qbm)).push (qfh C h.objs.size)) j
 have G:=(E (.ref (h.objs.size+1))).keeps j
 unfold isInstance
 repeat (first|with_reducible refine wpAny_loadPart_at n ?_ | (with_reducible refine wpAny_isSubtype_exc l ?_;rw[u])|wp_step)
 show wpAny _ _ (typeLookup (.ref C) _) _ _ _
 refine wpAny_typeLookup_tail l D I F.mroIs F.init.lookup ?_
 rw[y]
 refine BL (Ab (G.here ?_))
 refine Ab (Db (CA K λr a z=>?_))
 rcases r with e | (v|_|_|_) <;>first|exact z|exact z.elim|skip
 obtain⟨rfl,z⟩:=z
 exact Ao (Ao z)
end
section
open PySem.W
variable {prog:AK}{w:World}{A:AX}{E:Value->Af->Prop}{s:Af}{K:Frag}{x C:Addr}{ox:Obj}{od:Option Obj}{name:Str}{expr:Bool}
theorem qyx:builtinKind "BaseException.__getattribute__"=some .slot:=En
theorem qvy:splitId "BaseException.__getattribute__"=some ("BaseException","__getattribute__"):=En
theorem ga_not:(Value.builtin "BaseException.__getattribute__" == Value.builtin "object.__getattribute__")=false:=En
structure XGet (K:Frag)(C:Addr):Prop where
 ga:findIn K (.ref C) "__getattribute__"=some (some (.builtin "BaseException.__getattribute__"))
 hk:findIn K (.ref C) "__getattr__"=some none
 sub:mroIn K C (.type "BaseException")=some true
theorem qvz {fill:Bool}{tk:Tok}{Q:Value->Af->Prop}(X:K.In s.heap)(I:InstAt s.heap x ox C od)(c:XGet K C)
  (h:wpAny (model prog w) A.in1 (AH.«object.__getattribute__» ⟨[.ref x,.str name tk],[]⟩)
   (λa e=>match a with | .done (.ret v)=>wpAny (model prog w) A (handedOut v) Q E e|_=>False) (λ_ _=>False) s) :
  wpAny (model prog w) A (getAttrBy (.ref x) (.str name tk) fill expr) Q E s:=by
 obtain⟨f,g,d,t,k⟩:=s;have b:=I.type (M:=model prog w);have l:=looks_findIn (M:=model prog w) X c.ga;have L2:=looks_findIn (M:=model prog w) X c.hk;have i:Looks (model prog w) f (isInstance (.ref x) (.type "BaseException")) true:=b.andThen (looks_mroIn X c.sub);unfold getAttrBy;refine BL (Ab (b.at (Ab (l.at ?_))));dsimp only;rw[ga_not,Dm,if_neg Ez];unfold getAttrByItsOwn hookBefore;refine Ab ?_;show wpAny _ _ (typeLookup (.ref C) "__getattr__") _ _ _;refine L2.at (Ab (CB (BL ?_)));have j:callGetattribute (.ref x) (.str name tk) (.builtin "BaseException.__getattribute__") expr=boundAndCalled (.builtin "BaseException.__getattribute__") (.ref x) (.str name tk):=by cases expr <;>rfl
 rw[j];unfold boundAndCalled;rw[PySem.F.attr_ValueError.ga.bind (.ref x)];refine Ab (Ao (Db ?_));refine D9 PySem.F.attr_ValueError.ga.plain PySem.F.entry_bexc_ga (@check_slot (model prog w) _ _ ⟨f,g,d,t,k⟩ "BaseException.__getattribute__" "BaseException" "__getattribute__" (.ref x) [.str name tk] [] _ qyx qvy i (PySem.F.args_bexc_ga (.ref x) (.str name tk)) ?_);refine Cf h (λa e z=>?_) λ_ _ z=>z.elim;rcases a with (_|_|_|_)|_ <;>first|exact z|exact z.elim
theorem qv0 {Q:Value->Af->Prop}(X:K.In s.heap)(I:InstAt s.heap x ox C od)(c:XGet K C)
  (h:wpAny (model prog w) A.in1 (AH.«object.__getattribute__» ⟨[.ref x,.str name s.toks],[]⟩)
   (λa b=>match a with | .done (.ret v)=>wpAny (model prog w) A (handedOut v) Q E b|_=>False) (λ_ _=>False) {s with toks:=s.toks+1}) :
  wpAny (model prog w) A (getAttr (.ref x) name expr) Q E s:=by
 unfold getAttr;exact Ab (wpAny_mkText (qvz (s:={s with toks:=s.toks+1}) X I c h))
theorem qtz {v:Value}{Q:Value->Af->Prop}(X:K.In s.heap)(I:InstAt s.heap x ox C od)(c:XGet K C)(f:findObj K C od name=some (.value v))(b:handedIn v=true)(h:Q v {s with toks:=s.toks+1}) :
  wpAny (model prog w) A (getAttr (.ref x) name expr) Q E s:=by
 refine qv0 X I c ?_;obtain⟨hh',g,d,t,os⟩:=s;have e:=I.type (M:=model prog w);have a:=looks_find (M:=model prog w) X I f;unfold AH.«object.__getattribute__»;refine Ab (Ao (Ab (Ao (Ab (e.at (Ab (a.at ?_)))))));refine Ao ?_;show wpAny _ _ (handedOut v) _ _ _;rw[handedOut_of b];exact Ao h
end
section
open PySem.W
variable {prog:AK}{w:World}{A:AX}{E:Value->Af->Prop}{s:Af}{K:Frag}{x C:Addr}{ox:Obj}{od:Option Obj}{name:Str}{expr:Bool}
structure XIs (K:Frag)(C:Addr):Prop extends XGet K C where
 dct:hasDictIn K C=true
 cls:findIn K (.ref C) "__class__"=some (some (.builtin "object.__class__"))
 get:specialIn K (.builtin "object.__class__") "__get__"=some (some (.builtin "getset_descriptor.__get__"))
 tak:takesIn K (.builtin "object.__class__")=some true
 obj:mroIn K C (.type "object")=some true
theorem qrb (c:XIs K C):findObj K C od "__class__"=some (.bind (.builtin "getset_descriptor.__get__") (.builtin "object.__class__")):=by obtain⟨cd,a,_⟩:=any_some c.dct;unfold findObj;rw[a,Cq,c.cls,Cq];dsimp only;rw[c.get,Cq];dsimp only;rw[c.tak,Cq]
theorem qrc {M:Model}{h:Heap}(c:hasDictIn K C=true)(X:K.In h):Looks M h (isType (.ref C)) true:=by
 obtain⟨cd,a,_⟩:=any_some c;unfold clsIn at a;split at a
 .rename_i c' d' cd' sl' b;intro A' Q' E' s' k q;unfold isType loadHead;exact Ab (wpAny_loadPart (k _ _ (X _ _ b)) (Ao q))
 .cases a
theorem qyy {h:Heap}{a:Addr}{f:Option Addr}{its:List Value}{n:Nat}{sl:Array (Option Value)}(c:hasDictIn K C=true)(X:K.In h)(d:h.get? a=some ⟨.type "tuple",f,.seq its.toArray n,sl⟩):(Ap C == .ref a)=false:=by
 obtain⟨cd,b,_⟩:=any_some c;refine Bool.eq_false_iff.mpr λq=>?_;have e:C=a:=Ap.inj (beq_iff_eq.mp q);subst e;unfold clsIn at b;split at b
 .rename_i c' d' cd' sl' g;have z:=(X _ _ g).symm.trans d;cases z
 .cases b
theorem qt0 {Q:Option Value->Af->Prop}(X:K.In s.heap)(I:InstAt s.heap x ox C od)(c:XIs K C)(h:Q (some (.ref C)) {s with toks:=s.toks+1}):wpAny (model prog w) A (getAttr? (.ref x) "__class__") Q E s:=by unfold getAttr? getAttrBy?;refine Ab (wpAny_mkText (Ab (CB (qvz (s:={s with toks:=s.toks+1}) X I c.toXGet ?_))));obtain⟨a,g,d,t,f⟩:=s;have e:=I.type (M:=model prog w);have b:=looks_find (M:=model prog w) X I (qrb (od:=od) c);unfold AH.«object.__getattribute__»;refine Ab (Ao (Ab (Ao (Ab (e.at (Ab (b.at ?_)))))));show wpAny _ _ (AH.ObjectAttr.bindTo (.builtin "getset_descriptor.__get__") (.builtin "object.__class__") (.ref x) (.ref C)) _ _ _;unfold AH.ObjectAttr.bindTo;refine Ab (BL (Db (class_get (s:=⟨a,g,d,t+1,f⟩) (ox:=ox) (od:=od) X I c.obj ?_)));refine Ao ?_;show wpAny _ _ (handedOut (.ref C)) _ _ _;rw[handedOut_of Z];exact Ao (Ao h)
theorem qps (c:XIs K C):KitX K (.ref x) (.ref C) (λh=>∃ox od,InstAt h x ox C od) where
 ty:=λ_ _ _ ⟨_,_,I⟩=>I.type
 it:=λ_ _ X _=>qrc c.dct X
 ne:=λh tp dd its n sl X a=>qyy c.dct X a
 ca:=λX ⟨_,_,I⟩ k=>qt0 X I c k
noncomputable abbrev VE:List Value:=[.type "ValueError",.type "Exception",.type "BaseException",.type "object"]
noncomputable def qpt:List Value->Bool
 |.ref _::r=>qpt r
 |l=>l == VE
theorem qlr (g:Value):∀{l:List Value},qpt l=true->refuseLoop g "__setattr__" l=pure ()/\l.isEmpty=false/\l.contains (.type "object")=true
 | [],e=>by cases e
 |.ref c::r,e=>by obtain⟨a,b,d⟩:=qlr g (l:=r) e;exact⟨by rw[refuseLoop_ref];exact a,Z,by rw[List.contains_cons,d,Bool.or_true]⟩
 |.type n::r,e=>by have f:(.type n::r:List Value)=VE:=beq_iff_eq.mp e;rw[f];exact⟨PySem.F.store_ValueError.passes g,Z,Ez⟩
 |.none::r,e=>by have f:=beq_iff_eq.mp (show ((.none::r:List Value) == VE)=true from e);cases f
 |.bool _::r,e=>by have f:=beq_iff_eq.mp (show ((.bool _::r:List Value) == VE)=true from e);cases f
 |.int _ _::r,e=>by have f:=beq_iff_eq.mp (show ((.int _ _::r:List Value) == VE)=true from e);cases f
 |.float _ _::r,e=>by have f:=beq_iff_eq.mp (show ((.float _ _::r:List Value) == VE)=true from e);cases f
 |.str _ _::r,e=>by have f:=beq_iff_eq.mp (show ((.str _ _::r:List Value) == VE)=true from e);cases f
 |.bytes _ _::r,e=>by have f:=beq_iff_eq.mp (show ((.bytes _ _::r:List Value) == VE)=true from e);cases f
 |.builtin _::r,e=>by have f:=beq_iff_eq.mp (show ((.builtin _::r:List Value) == VE)=true from e);cases f
end
section
open PySem.W
variable {prog:AK}{w:World}{A:AX}{E:Value->Af->Prop}{s:Af}{K:Frag}{x C:Addr}{o:Obj}{name:Str}{v:Value}
structure XSet (K:Frag)(C:Addr)(name:Str):Prop where
 sa:findIn K (.ref C) "__setattr__"=some (some (.builtin "object.__setattr__"))
 no:findIn K (.ref C) name=some none
 cd:((clsIn K C).any λcd=>qpt cd.mro && cd.hasDict)=true
theorem qyz {tk:Tok}{R:Result->Af->Prop}(X:K.In s.heap)(n:s.heap.get? x=some o)(q:o.cls=.ref C)(c:XSet K C name)
  (h:wpAny (model prog w) A.in1 (AH.ObjectAttr.storeInOwnDict (.ref x) (.ref C) (.str name tk) name v false)
   (λi b=>match i with | .done f=>R (.ok f) b | .again c'=>c'.quiet=true/\codeAny (model prog w) A c' R b) (λe b=>R (.error e) b) s) :
  codeAny (model prog w) A (.call (.builtin "object.__setattr__") ⟨[.ref x,.str name tk,v],[]⟩) R s:=by
 have a:=PySem.F.store_object;obtain⟨cd,d,j⟩:=any_some c.cd;simp only[AD]at j;obtain⟨l,k,has⟩:=qlr (.ref x) j.1;have g:Looks (model prog w) s.heap (typeOf (.ref x)) (.ref C):=q ▸ (Looks.ld n).andThen .now;have sub:Looks (model prog w) s.heap (isInstance (.ref x) (.type "object")) true:=g.andThen (looks_mroIn X (by unfold mroIn;rw[d,Cq,if_neg (by rw[k];decide),has]));have m:Looks (model prog w) s.heap (mroOf (.ref C)) cd.mro:=(looks_clsIn X d).andThen .now;have p:=looks_findIn (M:=model prog w) X c.no;refine D9 a.slot.plain a.entry (@check_slot (model prog w) _ _ s "object.__setattr__" "object" "__setattr__" (.ref x) [.str name tk,v] [] _ a.kind a.split sub (a.args (.ref x) (.str name tk) v) ?_);rw[osa_eq,refuse_eq];refine Ab (Ab (g.here (Ab (m.here ?_))));rw[l];refine Ao (Ab (g.here (Ab (p.here (Ab (Ao ?_))))));exact h
noncomputable abbrev qdt (C:Addr)(od:Option Addr)(vs:Array Value)(sl:Array (Option Value)):Obj:={cls:=.ref C,dict:=od,data:=.fields vs,slots:=sl}
theorem qv1 {Q:Unit->Af->Prop}{od:Option Addr}{vs:Array Value}{sl:Array (Option Value)}(X:K.In s.heap)(b:s.heap.get? x=some (qdt C od vs sl))(c:XSet K C name)
  (h:wpAny (model prog w) A.in1 (AH.ObjectAttr.storeInOwnDict (.ref x) (.ref C) (.str name s.toks) name v false) (λa d=>a=.done (.ret .none)/\Q () d) (λ_ _=>False) {s with toks:=s.toks+1}) :
  wpAny (model prog w) A (setAttr (.ref x) name v) Q E s:=by
 have f:Looks (model prog w) s.heap (typeOf (.ref x)) (.ref C):=(Looks.ld b).andThen .now;have g:=looks_findIn (M:=model prog w) X c.sa;refine Ab (wpAny_mkText (Ab (Ab (Ab (f _ _ _ _ (λ_ _ e=>e) (g _ _ _ _ (λ_ _ e=>e) (BL ?_)))))));rw[PySem.F.store_object.slot.bind];refine Ab (Ao (Ab (Db (qyz (s:={s with toks:=s.toks+1}) X b Z c (Cf h (λa d z=>?_) λ_ _ z=>z.elim)))));obtain⟨rfl,z⟩:=z;exact Ao (Ao z)
theorem qv2 {Q:Unit->Af->Prop}{vs:Array Value}{sl:Array (Option Value)}(X:K.In s.heap)(f:s.heap.get? x=some (qdt C none vs sl))(c:XSet K C name)
  (h:∀h' tk',h'.get? x=some (qdt C (some s.heap.objs.size) vs sl)->h'.Ns1 s.heap.objs.size (λy=>if y=name then some v else none)->(∀b l,b≠x->s.heap.get? b=some l->h'.get? b=some l)->Q () {s with heap:=h',toks:=tk'}) :
  wpAny (model prog w) A (setAttr (.ref x) name v) Q E s:=by
 obtain⟨cd,p,r⟩:=any_some c.cd;simp only[AD]at r;refine qv1 X f c ?_;obtain⟨a,g,d,t,os⟩:=s;unfold AH.ObjectAttr.storeInOwnDict AH.ObjectAttr.ownDictForStores instanceDict;refine Ab (Ao (Ab (Ab (wpAny_loadPart f (Ab ((looks_clsIn X p).at ?_))))));rw[r.2];have k:x≠a.objs.size:=AG (A1 f);have i:(a.push emptyDict).get? x=some (qdt C none vs sl):=Aj _ f;show wpAny _ _ (alloc emptyDict >>= _) _ _ _;refine Ab (wpAny_alloc' (Ab (wpAny_update' i ?_)));refine Ao ?_;have q:((a.push emptyDict).update x λo=>{cls:=o.cls,dict:=some a.objs.size,data:=o.data,slots:=o.slots}).get? a.objs.size=some emptyDict:=(Heap.get?_update_ne _ _ _ _ k.symm).trans (Heap.get?_push_at Z Z);have B:((a.push emptyDict).update x λo=>{cls:=o.cls,dict:=some a.objs.size,data:=o.data,slots:=o.slots}).Ns a.objs.size (λ_=>none):=⟨_,#[],_,q,Z,λe D=>absurd D (by simp),λ_=>rfl⟩;show wpAny _ _ (AH.ObjectAttr.storeInDict a.objs.size (.str name t) name v) _ _ _;unfold AH.ObjectAttr.storeInDict AH.ObjectAttr.newKeyGuard;refine Ab (Ao (Ab (wpAny_nsSet1 (Heap.Ns1.of_empty B) λh' j m=>?_)));obtain⟨oD,esD,epD,n,z,u⟩:=j.count (Within.cons name v Within.nil);refine Ab (wpAny_lookBehind n (by rw[z];exact pastItsLine_dict (A3 u (by rw[Au,Bu,Bl];lia))) ?_);refine Ao ⟨Z,h h' _ ?_ j λb l F e=>?_⟩
 .exact(m.2 x k).trans (Bg _ i Z)
 .exact(m.2 b (AG (A1 e))).trans ((Heap.get?_update_ne _ _ _ _ F).trans (Aj _ e))
theorem qv3 {Q:Unit->Af->Prop}{dx:Addr}{vs:Array Value}{sl:Array (Option Value)}{e:Str->Option Value}{i:List Str}(X:K.In s.heap)(m:s.heap.get? x=some (qdt C (some dx) vs sl))(p:s.heap.Ns1 dx e)(hne:dx≠x)(q:Within e i)(hsz:i.length<=1000)(c:XSet K C name)
  (h:∀h' tk',h'.Ns1 dx (λy=>if y=name then some v else e y)->Bf dx s.heap h'->Q () {s with heap:=h',toks:=tk'}) :
  wpAny (model prog w) A (setAttr (.ref x) name v) Q E s:=by
 obtain⟨cd,j,k⟩:=any_some c.cd;simp only[AD]at k;refine qv1 X m c ?_;obtain⟨hp,g,d,t,os⟩:=s;unfold AH.ObjectAttr.storeInOwnDict AH.ObjectAttr.ownDictForStores instanceDict;refine Ab (Ao (Ab (Ab (wpAny_loadPart m (Ab ((looks_clsIn X j).at ?_))))));rw[k.2];refine Ao (a:=some dx) ?_;show wpAny _ _ (AH.ObjectAttr.storeInDict dx (.str name t) name v) _ _ _;unfold AH.ObjectAttr.storeInDict AH.ObjectAttr.newKeyGuard;refine Ab (Ao (Ab (wpAny_nsSet1 p λh' b o=>?_)));obtain⟨oD,esD,epD,f,n,l⟩:=b.count (Within.cons name v q);refine Ab (wpAny_lookBehind f (by rw[n];exact pastItsLine_dict (A3 l (by rw[Au,Bl];lia))) ?_);exact Ao ⟨Z,h h' _ b o⟩
end
noncomputable def qpu (K:Ae)(C:Addr)(ini:Option Value):Bool:=match K.lookup C with
 |some ⟨.type "type",_,.cls cd,sl⟩=>(match cd.mro,sl.toList with
  |.ref C'::bm,[_,_,_,_,some (.builtin n),_]=>C' == C && n == "ValueError.__new__" && !cd.hasDel && PySem.W.tailIn K VE bm && PySem.W.nsOkIn K cd.ns && AC K cd.ns "__init__" == some ini
  |_,_=>false)
 |_=>false
theorem ns_in {K:Ae}{h:Heap}{N:Addr}{mg:Str->Option Value}{n:Str}{v:Value}(X:K.In h)(G:h.Ns N mg)(e:AC K N n=some (some v)):mg n=some v:=by
 obtain⟨o,es,ep,b,hd,_,f⟩:=G;unfold AC at e;split at e
 .rename_i c d es' n' sl q;have:=X _ _ q;rw[b]at this;cases this;cases hd;split at e
  .rename_i en a;cases e;rw[<- f];unfold nsFind findBy;rw[<- Array.find?_toList,a];rfl
  .split at e <;>cases e
 .cases e
theorem xc_of {K:Ae}{h:Heap}{C:Addr}{b:Option Value}(X:K.In h)(q:qpu K C b=true):∃(e:List Value)(N:Addr)(nm p:Str)(bs:List Value)(hd:Bool)(r:List Str)(sub:List Value)(t:Bool)(a:Option Bool)(s:Option Addr)(g i k f j:Option Value)(w:Str->Option Value),
  h.get? C=some (excClassObj nm p C N bs e hd r sub t a s g i k f j "ValueError.__new__")/\h.Ns N w/\w "__init__"=b/\OwnTail h VE e:=by
 unfold qpu at q;split at q
 .rename_i s A sl B;split at q
  .rename_i C' e g i k f n j x u;simp only[AD,beq_iff_eq,Bool.not_eq_true']at q;obtain⟨⟨⟨⟨⟨rfl,rfl⟩,d⟩,z⟩,m⟩,c⟩:=q;obtain⟨nm,bs,mro,o,p,hd,r,sub,t,a,del⟩:=A;dsimp only at x d m c;subst x d;have y:sl=#[g,i,k,f,some (.builtin "ValueError.__new__"),j]:=by obtain⟨l⟩:=sl;simp only at u;rw[u]
   subst y;have G:h.Ns o (h.nsMap o):=.of_isNs (PySem.W.isNs_of_in X m);refine⟨e,o,nm,p,bs,hd,r,sub,t,a,s,g,i,k,f,j,_,X _ _ B,G,?_,PySem.W.tail_of_in X z⟩;cases b with|none=>exact PySem.W.ns_none_of X G c|some v=>exact ns_in X G c
  .cases q
 .cases q
section
variable {prog:AK}{w:World}{A:AX}{E:Value->Af->Prop}{K:Ae}{C fI:Addr}{s:Af}{qbm:List Value}
theorem qv4 {R:Result->Af->Prop}{nm q:Str}{N:Addr}{bs l:List Value}{i:Bool}{u:List Str}{sub:List Value}{y:Bool}{j:Option Bool}{v:Option Addr}{n o p m r:Option Value}{b:String}
  (c:s.heap.get? C=some (excClassObj nm q C N bs l i u sub y j v n o p m r b))
  (h:wpAny (model prog w) (A.under (.builtin "type.__call__" ⟨.ref C::qbm,[]⟩)) (AH.«type.__call__» ⟨.ref C::qbm,[]⟩)
   (λk a=>match k with | .done f=>R (.ok f) a | .again c'=>c'.quiet=true/\codeAny (model prog w) A c' R a) (λe a=>R (.error e) a) s) :
  codeAny (model prog w) A (.call (.ref C) ⟨qbm,[]⟩) R s:=by
 obtain⟨z,g,d,t,x⟩:=s;have f1:=tc_lookup;have f2:=tc_bind (.ref C);have hT:(⟨z,g,d,t,x⟩:Af).TypeIs (.ref C) "type" := ⟨_,c,Z⟩;refine codeAny_of_tree ?_;show wpAny _ _ (callAny (.ref C) _) _ _ _
 repeat (any_goals (first|assumption|with_reducible refine wpAny_loadPart_at c ?_|wp_step))
 refine⟨Z,?_⟩;exact codeAny_call_builtin_at (Code.quiet_builtin _ En) entry_typeCall (wpAny_check_type_call_sub c h)
theorem qv5 {R:Result->Af->Prop}(X:K.In s.heap)(c:qpu K C (some (.ref fI))=true)(j:Ct K (.ref fI)=some (.type "function"))(a:qbm.length<=A4)
  (h:codeAny (model prog w) (A.under (.builtin "type.__call__" ⟨.ref C::qbm,[]⟩)) (.call (.ref fI) ⟨.ref (s.heap.objs.size+1)::qbm,[]⟩) (PySem.W.InitBack (s.heap.objs.size+1) R)
   {s with heap:=(s.heap.push (qhd qbm)).push (qfh C s.heap.objs.size)}) :
  codeAny (model prog w) A (.call (.ref C) ⟨qbm,[]⟩) R s:=by
 obtain⟨bm,N,nm,qn,bs,hd,sn,sub,ab,col,dd,k0,k1,k2,k3,k5,mN,e,f,i,T⟩:=xc_of X c;obtain⟨hp,g,d,t,os⟩:=s;exact qv4 e (qmx DA Ez DA T e f i (λb=>PySem.W.bind_fn X b j) h a)
end
abbrev Sz6 (vs:Array Value):Prop:=vs.size=6/\vs[2]?=some .none
noncomputable def exO (x C:Addr)(od:Option Addr)(fr:Bool):HO:=.ext λh=>∃(vs:Array Value)(sl:Array (Option Value)),h.get? x=some (qdt C od vs sl)/\Sz6 vs/\(fr=true->sl=#[]/\∃t:Addr,vs=#[.ref t,.none,.none,.none,.bool false,.none])
noncomputable def exD (dx:Addr)(fs:List (Str×V)):HO:=.ext λh=>∃mA,h.Ns1 dx mA/\(∀f,RelO (fs.lookup f) (mA f))/\DC mA (fs.map (·.1))
section
variable {P:AK}{w:World}{H:Hp}{h:Heap}{x C dx:Addr}{od:Option Addr}{fr:Bool}{fs:List (Str×V)}
theorem qoj {vs:Array Value}{sl:Array (Option Value)}(e:h.get? x=some (qdt C od vs sl))(z:Sz6 vs)(f:fr=true->sl=#[]/\∃t:Addr,vs=#[.ref t,.none,.none,.none,.bool false,.none]):ObjOk P w H h x (exO x C od fr) :=
 ⟨⟨vs,sl,e,z,f⟩,⟨_,e⟩,λ_ h2 ⟨vs,sl,e,z,f⟩ k=>⟨vs,sl,k _ e,z,f⟩⟩
theorem qv6 {a:Str->Option Value}(n:h.Ns1 dx a)(r:∀f,RelO (fs.lookup f) (a f))(b:DC a (fs.map (·.1))):ObjOk P w H h dx (exD dx fs) :=
 ⟨⟨a,n,r,b⟩,let ⟨o,_,_,e,_⟩:=n;⟨o,e⟩,λ_ h2 ⟨a,n,r,b⟩ k=>⟨a,n.at λo q=>k o q,r,b⟩⟩
theorem qfi (ok:HOk P w H h)(e:H x=some (exO x C od fr)):∃vs sl,h.get? x=some (qdt C od vs sl)/\Sz6 vs/\(fr=true->sl=#[]/\∃t:Addr,vs=#[.ref t,.none,.none,.none,.bool false,.none]):=(ok x _ e).1
theorem qok (ok:HOk P w H h)(e:H dx=some (exD dx fs)):∃mA,h.Ns1 dx mA/\(∀f,RelO (fs.lookup f) (mA f))/\DC mA (fs.map (·.1)):=(ok dx _ e).1
theorem ex_ne (ok:HOk P w H h)(e:H x=some (exO x C od fr))(b:H dx=some (exD dx fs)):dx≠x:=λz=>by obtain⟨vs,sl,q,_⟩:=qfi ok e;obtain⟨mA,⟨o,es,ep,a,d,_⟩,_⟩:=qok ok b;rw[z,q]at a;cases a;cases d
end
theorem qpv {H:Hp}{a:Addr}{o:HO}(h:H a=some o):upd H a o=H:=by
 funext b;unfold upd;by_cases e:b=a
 .rw[if_pos e,e,h]
 .rw[if_neg e]
section
variable {X:Cx}{pins:List (Addr×Obj)}{σ:L2.St}{H:Hp}{s:Af}{A:AX}{E:Value->Af->Prop}
theorem qy0 {C t:Addr}{h':Heap}{tk:Nat}(I:Inv X pins σ H s)(k:∀b o,s.heap.get? b=some o->h'.get? b=some o)(e:h'.get? (s.heap.objs.size+1)=some (qfh C t)) :
  Inv X pins σ (upd H (s.heap.objs.size+1) (exO (s.heap.objs.size+1) C none true)) {s with heap:=h',toks:=tk} :=
 I.laid (a:=s.heap.objs.size+1) k (Cp _) (qoj (vs:=#[.ref t,.none,.none,.none,.bool false,.none]) (sl:=#[]) e ⟨Z,Z⟩ λ_=>⟨Z,t,Z⟩)
def tExcI (C:Addr)(sp:Sp)(dvs:List V)(E:XK)(t:TA):TE:=λσ H Q=>t σ H λvs H1=>vs.length<=A4/\∀x,H1 x=none->sp (.ref x::(vs++dvs)) (upd H1 x (exO x C none true)) (λv H2=>v=.non/\Q (.ref x) H2) E
variable {CX:CXT}{k:Nat}{f:Addr}{fd:AA}{ps:List Str}{sp:Sp}{ds:List Value}{dvs:List V}{EX:XK}
theorem qep {C:Addr}{x:Str}{p pos:Pos}{e:Expr}{es:List Expr}{t:TA}(c:qpu X.K C (some (.ref f))=true)(R:Ct X.K (.ref f)=some (.type "function"))(F:FnOk X.prog X.w X.K X.mg X.base CX k f fd ps sp)(J:Room (k+1) X.A)(N:Gl X x)(M:X.mg x=some (.ref C))
  (hk:Bq X.K (.ref C)=true)(z:Binds X.K fd ps ds)(hd:Vals dvs ds)(O:qgg CX X EX)(y:PA X (e::es) t)
  (m:(x == ("__debug__" : Str))=false:=by decide)(he:starEach (e::es) X.env=(false,eval e X.env)::starEach es X.env:=by rfl)(hpl:(backTo pos (starEach es X.env)).any (·.1)=false:=by rfl) :
  PE X (.Call (.Name x p) (e::es) [] pos) (tExcI C sp dvs EX t):=by
 intro d s0 σ G Q j h;refine B9 (qfs j N M ?_ m);refine CH (h₀:=X.base) j.ok.mod.kin hk (thn (y pos d s0 σ G _ j h) λus s ⟨vs,H,I,r,hz,q⟩=>⟨I.kIn,?_⟩) he hpl;have hl0:=r.length;have n:=q (s.heap.objs.size+1) (I.hok.fresh (Cp _));have i:((s.heap.push (qhd us)).push (qfh C s.heap.objs.size)).get? (s.heap.objs.size+1)=some (qfh C s.heap.objs.size):=by heap_get
 have g:=qy0 (C:=C) (t:=s.heap.objs.size) (h':=(s.heap.push (qhd us)).push (qfh C s.heap.objs.size)) (tk:=s.toks) I (λb o e=>Aj _ (Aj _ e)) i;have l:Vals (V.ref (s.heap.objs.size+1)::(vs++dvs)) (Ap (s.heap.objs.size+1)::(us++ds)):=.cons rfl (r.append hd);have hl:(Ap (s.heap.objs.size+1)::us++ds).length=ps.length:=by have e:=l.length;rw[F.len _ _ _ _ n]at e;exact e.symm
 refine Db (qv5 I.kIn c R (by show us.length<=_;lia) (CA (F.run _ X.stack _ _ ⟨Ap (s.heap.objs.size+1)::us,[]⟩ (Ap (s.heap.objs.size+1)::(us++ds)) _ _ EX (J.make C us [])
  (g.env0.make C us []) (z _ (Ap (s.heap.objs.size+1)::us) g.kIn hl) l n) λr E a=>?_))
 cases r with
 |error e=>exact O d σ _ _ e E g a
 |ok fl =>
  cases fl with
  |ret u =>obtain⟨v,H',L,P,D,B⟩:=g.after a;subst D;exact⟨P,⟨V.ref (s.heap.objs.size+1),H',L,Z,B⟩⟩
  |next=>exact BK a
  |brk=>exact BK a
  |cont=>exact BK a
theorem qsq {h:Heap}{x C:Addr}{od:Option Addr}{vs:Array Value}{sl:Array (Option Value)}(e:h.get? x=some (qdt C od vs sl))(d:∀dx,od=some dx->∃o,h.get? dx=some o):∃ox od,PySem.W.InstAt h x ox C od:=by
 cases od with
 |none=>exact⟨_,none,e,Z,Z,trivial⟩
 |some dx =>obtain⟨o,a⟩:=d dx rfl;exact⟨_,some o,e,Z,Z,a⟩
def exHas (H:Hp):Option Addr->Prop
 |none=>True
 |some dx=>∃fs,H dx=some (exD dx fs)
theorem exHas.at {P:AK}{w:World}{H:Hp}{h:Heap}{od:Option Addr}(ok:HOk P w H h)(e:exHas H od):∀dx,od=some dx->∃o,h.get? dx=some o:=λdx z=>by subst z;obtain⟨fs,q⟩:=e;obtain⟨mA,⟨o,_,_,e,_⟩,_⟩:=qok ok q;exact⟨o,e⟩
theorem qdf:qer X (.builtin "isinstance") (λxs H Q=>∃(x C:Addr)(od:Option Addr)(fr:Bool)(c:V)(a:Value)(b:Bool),xs=[.ref x,c]/\H x=some (exO x C od fr)/\exHas H od/\XIs X.K C/\((∃n,c=.ty n/\a=.type n) \/ ∃D,c=.ref D/\a=.ref D) /\
  BI X.K (.ref C) a=some b/\Q (.bl b) H):=by
 intro pins s σ H xs us Q I r h;obtain⟨x,C,od,fr,c,a,b,rfl,e,f,k,l,m,q⟩:=h;obtain⟨u,o,rfl,g,d⟩:=Vals.two r;cases g;have j:o=a:=by
  rcases l with ⟨n,rfl,rfl⟩|⟨D,rfl,rfl⟩
  .exact d
  .exact d
 subst j;obtain⟨vs,sl,i,_⟩:=qfi I.hok e;exact Ca (qps k) I.kIn (qsq i (exHas.at I.hok f)) m (λz=>nomatch z) λtk=>⟨.bl b,H,I.tok tk,Z,q⟩
end
section
variable {X:Cx}{pins:List (Addr×Obj)}{σ:L2.St}{H:Hp}{s:Af}{E:Value->Af->Prop}
structure XBase (K:Ae)(B:Addr):Prop where
 ga:DX K (.ref B) "__getattribute__"=some (some (.builtin "type.__getattribute__"))
 rd:PySem.W.readsIn K B (.type "type")=true
 at_:PySem.W.findCls K (.ref B) (.type "type") "__init__"=some (.val (.builtin "ValueError.__init__"))
def tBInit (K:Ae)(t:TA):TE:=λσ H Q=>t σ H λvs H1=>∃(x C:Addr)(od:Option Addr)(qbm:List V)(ini:Option Value),vs=.ref x::qbm/\H1 x=some (exO x C od true)/\qpu K C ini=true/\qbm.length<=A4/\Q .non H1
theorem qt1 {A:AX}{x C:Addr}{od:Option Addr}{qbm:List Value}{a:Option Value}{Q:Value->Af->Prop}{K:Ae}{prog:AK}{w:World}{t:Addr}(j:K.In s.heap)(c:qpu K C a=true)
  (f:s.heap.get? x=some (qdt C od #[.ref t,.none,.none,.none,.bool false,.none] #[]))(hrest:qbm.length<=A4)
  (h:∀h' t',h'.get? x=some (qdt C od #[.ref t',.none,.none,.none,.bool false,.none] #[])->(∀b o,b≠x->s.heap.get? b=some o->h'.get? b=some o)->Q .none {s with heap:=h'}) :
  wpAny (model prog w) A (call (.builtin "ValueError.__init__") (.ref x::qbm)) Q E s:=by
 obtain⟨bm,N,nm,qn,bs,hd,sn,sub,ab,col,dd,k0,k1,k2,k3,k5,mN,k,hn,hni,T⟩:=xc_of j c;obtain⟨l,g,d,tk,os⟩:=s;have F:=DA;refine Db (D9 F.init.plain F.initEntry (wpAny_check_init_subU F T k f Z ?_))
 wp_walk
 refine h _ l.objs.size ?_ λb o i e=>?_
 .rw[Bg _ (Aj _ f) Z];rfl
 .rw[Bv _ _ (Ba i)];exact Aj _ e
theorem qhe {B:Addr}{x:Str}{p a pos:Pos}{e:Expr}{es:List Expr}{t:TA}{pl:Sem Bool}(c:XBase X.K B)(F:Gl X x)(G:X.mg x=some (.ref B))(v:PA X (e::es) t)(l:(x == ("__debug__" : Str))=false:=by decide)
  (hst:starEach (e::es) X.env=(false,eval e X.env)::starEach es X.env:=by rfl)(hpl:(backTo pos (starEach es X.env)).any (·.1)=false:=by rfl)
  (ht:eval (.Call (.Attribute (.Name x p) "__init__" a) (e::es) [] pos) X.env=(do
   let ov <- eval (.Name x p) X.env
   standAt a.atName
   let (f,first) <- holding [ov] (getMethod ov "__init__" pl)
   callWith pos f first (backTo pos (starEach (e::es) X.env)) (backToKw pos (keywordEach [] X.env))):=by rfl) :
  PE X (.Call (.Attribute (.Name x p) "__init__" a) (e::es) [] pos) (tBInit X.K t):=by
 intro k s σ H Q I h;refine Ef (pl:=pl) (qfs I F G ?_ l) ht;refine PySem.W.method_cls I.kIn c.ga (PySem.W.cls_value I.kIn c.rd c.at_ Z ?_);have M:=I.tok (s.toks+1);refine Dk (thn (v pos k _ σ H _ M h) λus w ⟨vs,m,i,n,L⟩=>?_) hst hpl;obtain⟨g,C,od,qbm,ini,rfl,j,A,hz,q⟩:=L;cases n with
 |cons ra rr =>cases ra;obtain⟨ws,sl,ex,z6,E⟩:=qfi i.hok j;obtain⟨rfl,t',rfl⟩:=E rfl;have hl:=rr.length;refine qt1 i.kIn A ex (by lia) λh' r d D=>?_;refine⟨.non,m,?_,Z,q⟩;have J:=i.write (x:=g) (e:=g) (o:=exO g C od true) (t':=w.toks) (h':=h') (by rw[j];exact trivial) (.inl Z) (λb u y z=>D b u y z) ⟨_,d⟩ (qoj d ⟨Z,Z⟩ λ_=>⟨Z,r,Z⟩);rw[qpv j]at J;exact J
def tXFld (K:Ae)(ta:TE)(f:Str):TE:=λσ H Q=>ta σ H λv H1=>∃(x C dx:Addr)(fr:Bool)(fs:List (Str×V))(y:V),v=.ref x/\H1 x=some (exO x C (some dx) fr)/\H1 dx=some (exD dx fs)/\XIs K C/\AW K (.ref C) f=some none/\fs.lookup f=some y/\Q y H1
theorem qv7 {K:Ae}{C:Addr}{o:Obj}{f:Str}{u:Value}(c:CT K C=true)(n:AW K (.ref C) f=some none)(l:DV f o=some (some u)):PySem.W.findObj K C (some o) f=some (.value u):=by obtain⟨cd,a,hd⟩:=PySem.W.any_some c;unfold PySem.W.findObj;rw[a,Cq,n,Cq];dsimp only;simp only[Cq];unfold PySem.W.ownOf;rw[hd,if_pos Z];dsimp only;rw[l,Cq]
theorem qi3 {e:Expr}{f:Str}{pos:Pos}{i:TE}(k:PE X e i)(t:attributeBase e f X.env (eval e X.env)=eval e X.env):PE X (.Attribute e f pos) (tXFld X.K i f):=by intro b s σ H Q I h;refine qsm t (thn (k b s σ H _ I h) λu s1 ⟨v,m,a,D,x,C,dx,fr,fs,y,w,ex,p,c,n,l,q⟩=>?_);subst w;obtain rfl:u=Ap x:=D;obtain⟨vs,sl,z,_⟩:=qfi a.hok ex;obtain⟨j,B,r,_⟩:=qok a.hok p;obtain⟨od,d,hl⟩:=qnc B;obtain⟨uv,A,g⟩:=RelO.some_of (v:=y) (o:=j f) (by rw[<- l];exact r f);exact qtz a.kIn (ox:=qdt C (some dx) vs sl) (od:=some od) ⟨z,Z,Z,d⟩ c.toXGet (qv7 c.dct n (by rw[hl,A])) (qnd g) ⟨y,m,a.tok _,g,q⟩
theorem qv8 {x dx:Addr}{o o':HO}{h':Heap}{tk:Nat}(I:Inv X pins σ H s)(e:Mut (H x))(hd:s.heap.objs.size<=dx)(hne:dx≠x)(k:∀b u,b≠x->s.heap.get? b=some u->h'.get? b=some u)(m:∃u,h'.get? x=some u)
  (l:ObjOk X.prog X.w (upd (upd H dx o') x o) h' x o)(j:ObjOk X.prog X.w (upd (upd H dx o') x o) h' dx o'):Inv X pins σ (upd (upd H dx o') x o) {s with heap:=h',toks:=tk}:=by
 have h:H dx=none:=I.hok.fresh hd;have d:∀b,H b=none->b≠x:=λb n z=>by subst z;rw[n]at e;exact e
 have nm:∀b u,H b=some u->¬Mut (some u)->b≠x:=λb u q nm z=>by subst z;rw[q]at e;exact nm e
 have p:∀b u,H b=some u->b≠dx:=λb u q=>qaf q h;have i:∀b u,s.heap.get? b=some u->b≠dx:=λb u q=>AG (AB (A1 q) hd);have stay:∀b u,H b=some u->b≠x->upd (upd H dx o') x o b=some u:=λb u q a=>by rw[qp a,qp (p b u q)];exact q
 refine I.un ⟨λb u q n _ _=>k b u (d b n) q,λb u q n _ _=>⟨u.slots,k b u (d b n) q⟩,λb u q n _=>by rw[qp (d b n),qp (i b u q)];exact n,λb u q _=>?_,λb xs q=>stay b _ q (nm b _ q λz=>z),λb u xs q=>stay b _ q (nm b _ q λz=>z),λb ps q=>⟨#[],by rw[stay b _ q (nm b _ q λz=>z)];simp⟩⟩ ?_
 .by_cases a:b=x
  .subst a;exact m
  .exact⟨u,k b u a q⟩
 .intro b u q;by_cases a:b=x
  .subst a;rw[qi]at q;cases q;exact l
  .rw[qp a]at q;by_cases f:b=dx
   .subst f;rw[qi]at q;cases q;exact j
   .rw[qp f]at q;refine(I.hok b u q).stay (λc v g r=>k c v ?_ r) (λc r=>stay c _ r (nm c _ r λz=>z)) λc xs r=>stay c _ r (nm c _ r λz=>z);rcases g with rfl|g
    .exact a
    .exact nm c _ g λz=>z
def sXFld (K:Ae)(ta tv:TE)(f:Str):TS:=λD σ H=>tv σ H λy H1=>ta σ H1 λv H2=>∃(x C:Addr)(fr:Bool),v=.ref x/\XSet K C f /\
 ((H2 x=some (exO x C none fr)/\∀dx,H2 dx=none->D.nx σ (upd (upd H2 dx (exD dx [(f,y)])) x (exO x C (some dx) fr))) \/
  (∃dx fs,H2 x=some (exO x C (some dx) fr)/\H2 dx=some (exD dx fs)/\fs.length<900/\D.nx σ (upd H2 dx (exD dx (qdc f y fs)))))
theorem qi4 {o a:Expr}{f:Str}{pos d:Pos}{L A:TE}(Q:PE X o L)(hv:PE X a A)(P:swapsWith a (some (.Attribute o f d)) pos.line X.env=pure false):PS X (.Assign [.Attribute o f d] a pos) (sXFld X.K L A f):=by
 intro i s0 σ V D I0 h;refine Ee (thn (hv i s0 σ V _ I0 h) λu R ⟨y,O,I1,N,q⟩=>thn (Q i R σ O _ I1 q) λov s ⟨v,H,I,rv,x,C,fr,S,c,Y⟩=>?_) P;subst S;obtain rfl:ov=Ap x:=rv;rcases Y with ⟨ex,nx⟩|⟨dx,fs,ex,m,hl,nx⟩
 .obtain⟨vs,sl,j,F,J⟩:=qfi I.hok ex;refine qv2 I.kIn j c λh' k B p W=>?_;have M:s.heap.objs.size≠x:=Cs (A1 j);refine⟨σ,_,qv8 (x:=x) (dx:=s.heap.objs.size) (o:=exO x C (some s.heap.objs.size) fr) (o':=exD s.heap.objs.size [(f,y)]) I (by rw[ex];exact trivial) (A0 _) M (λb E n e=>W b E n e) ⟨_,B⟩ (qoj B F J) (qv6 p (λg=>?_) λg t=>?_),nx _ (I.hok.fresh (A0 _))⟩
  .show RelO (CU g [(f,y)]) (if g=f then some u else none);by_cases q:g=f
   .subst q;rw[if_pos Z,BO,beq_self_eq_true];exact N
   .have T:(g == f)=false:=by simpa using q
    rw[if_neg q,BO,T];exact trivial
  .by_cases q:g=f
   .subst q;simp
   .exact absurd (if_neg q) t
 .obtain⟨vs,sl,j,F,J⟩:=qfi I.hok ex;obtain⟨w,p,r,G⟩:=qok I.hok m;refine qv3 I.kIn j p (ex_ne I.hok ex m) G (by rw[Ac];lia) c λh' k l U=>?_;have hd:∃o,h'.get? dx=some o:=let ⟨o,_,_,e',_⟩:=l;⟨o,e'⟩;refine⟨σ,_,I.write (x:=dx) (e:=dx) (o:=exD dx (qdc f y fs)) (t':=k) (by rw[m];exact trivial) (.inl Z) (λb E n z=>(U.2 b n).trans z) hd (qv6 l (λg=>?_) λg t=>?_),nx⟩
  .show RelO ((qdc f y fs).lookup g) (if g=f then some u else w g);rw[qg5];by_cases q:g=f
   .rw[if_pos q,if_pos q];exact N
   .rw[if_neg q,if_neg q];exact r g
  .by_cases q:g=f
   .rw[q];exact(qf6 f y fs).1
   .refine(qf6 f y fs).2 g (G g λz=>t ?_);show (if g=f then some u else w g)=none;rw[if_neg q];exact z
end
section
variable {X:Cx}
def rEqL (K:Ae)(f:Bool->Bool):R2:=λx y H Q=>∃a b xs ys,x=.ref a/\y=.ref b/\SqL K H a xs/\SqL K H b ys/\xs.all qde=true/\ys.all qde=true/\Q (.bl (f (qhb xs ys))) H
theorem qpw:∀{xs ys:List V},xs.length≠ys.length->qhb xs ys=false
 | [],[],h=>absurd rfl h
 | [],_::_,_=>rfl
 |_::_,[],_=>rfl
 |x::xs,y::ys,h=>by show (eqV x y && qhb xs ys)=false;rw[qpw (λz=>h (by rw[Au,Au,z])),Dm]
theorem qpx {xs ys:List V}(h:xs.length=ys.length):(B4 xs.length).all (eAt xs ys)=qhb xs ys:=by rw[<- qq8 xs ys,<- h,Nat.min_self];simp
theorem qol (e:X.A.units<cLine):OpR X (compareOp .NotEq) (rEqL X.K λz=>!z):=by
 intro pins s σ H x y v u Q I k n h;obtain⟨a,b,xs,ys,rfl,rfl,i,j,l,fy,q⟩:=h;cases k;cases n;obtain⟨its,c,d,_⟩:=I.list i;obtain⟨its2,f,g,_⟩:=I.list j;have m:=c.length;have l2:=f.length;by_cases hz:xs.length=ys.length
 .refine SeqAt.RcNeAt.lists d.isList g.isList (by rw[Ax,Ax];lia) e (items_eq c f l fy) _ _ _ _ ?_;rw[Ax,<- m,qpx hz];exact⟨.bl (!qhb xs ys),H,I,Z,q⟩
 .refine SeqAt.RcNeAt.lists_lengths d.isList g.isList (bne_iff_ne.mpr (by rw[Ax,Ax];lia)) e _ _ _ _ ?_;rw[qpw hz]at q;exact⟨.bl true,H,I,Z,q⟩
theorem qv9:∀{x:V},qde x=true->eqV x x=true
 |.non,_=>rfl
 |.bl b,_=>by cases b <;>rfl
 |.int i,_=>by simp[eqV]
 |.str y,_=>by simp[eqV]
 |.byt _,h=>by simp[qde]at h
 |.flt _,h=>by simp[qde]at h
 |.ref _,h=>by simp[qde]at h
 |.ty _,h=>by simp[qde]at h
theorem qh4:∀{xs:List V},xs.all qde=true->qhb xs xs=true
 | [],_=>rfl
 |x::xs,h=>by rw[C3,AD]at h;show (eqV x x && qhb xs xs)=true;rw[qv9 h.1,qh4 h.2];rfl
end
noncomputable def qrd (K:Ae)(C:Addr)(ini:Option Value):Bool:=qpu K C ini && Bq K (.ref C) && (AW K (.ref C) "__getattribute__" == some (some (.builtin "BaseException.__getattribute__"))) && (AW K (.ref C) "__getattr__" == some none) &&
 (PySem.W.mroIn K C (.type "BaseException") == some true) && CT K C && (AW K (.ref C) "__class__" == some (some (.builtin "object.__class__"))) &&
 (DX K (.builtin "object.__class__") "__get__" == some (some (.builtin "getset_descriptor.__get__"))) && (PySem.W.takesIn K (.builtin "object.__class__") == some true) && (PySem.W.mroIn K C (.type "object") == some true) &&
 (AW K (.ref C) "__setattr__" == some (some (.builtin "object.__setattr__"))) && ((PySem.W.clsIn K C).any λcd=>qpt cd.mro && cd.hasDict)
structure XA (K:Ae)(C:Addr)(ini:Option Value):Prop where
 xc:qpu K C ini=true
 kp:Bq K (.ref C)=true
 is:XIs K C
 sa:AW K (.ref C) "__setattr__"=some (some (.builtin "object.__setattr__"))
 cd:((PySem.W.clsIn K C).any λcd=>qpt cd.mro && cd.hasDict)=true
theorem qpy {K:Ae}{C:Addr}{a:Option Value}(h:qrd K C a=true):XA K C a:=by unfold qrd at h;rw[AD]at h;obtain⟨h,b⟩:=h;simp only[AD,beq_iff_eq]at h;obtain⟨⟨⟨⟨⟨⟨⟨⟨⟨⟨g,i⟩,j⟩,e⟩,f⟩,n⟩,l⟩,k⟩,m⟩,c⟩,d⟩:=h;exact⟨g,i,{ga:=j,hk:=e,sub:=f,dct:=n,cls:=l,get:=k,tak:=m,obj:=c},d,b⟩
theorem XA.set {K:Ae}{C:Addr}{b:Option Value}{name:Str}(a:XA K C b)(no:AW K (.ref C) name=some none):XSet K C name:=⟨a.sa,no,a.cd⟩
noncomputable def xNo (K:Ae)(C:Addr)(ns:List Str):Bool:=ns.all λn=>AW K (.ref C) n == some none
theorem qm {K:Ae}{C:Addr}{a:List Str}{n:Str}(h:xNo K C a=true)(m:n∈a):AW K (.ref C) n=some none:=beq_iff_eq.mp (Be.mp h n m)
noncomputable def qhf (K:Ae)(C:Addr)(cs:List Value)(bs:List Bool):Bool:=(cs.map λc=>BI K (.ref C) c) == bs.map some
theorem qbf {K:Ae}{C:Addr}{a:List Value}{bs:List Bool}(h:qhf K C a bs=true){i:Nat}{c:Value}{b:Bool}(d:a[i]?=some c)(f:bs[i]?=some b):BI K (.ref C) c=some b:=by have e:=congrArg (λl=>l[i]?) (beq_iff_eq.mp h);simp only[Ak,d,f,CP]at e;exact A9 e
noncomputable def qwa (K:Ae)(B:Addr):Bool:=(DX K (.ref B) "__getattribute__" == some (some (.builtin "type.__getattribute__"))) && PySem.W.readsIn K B (.type "type") &&
 (match PySem.W.findCls K (.ref B) (.type "type") "__init__" with|some (.val (.builtin n))=>n == "ValueError.__init__" |_=>false)
theorem xb_of {K:Ae}{B:Addr}(h:qwa K B=true):XBase K B:=by
 unfold qwa at h;simp only[AD,beq_iff_eq]at h;obtain⟨⟨b,c⟩,a⟩:=h;refine⟨b,c,?_⟩;split at a
 .rename_i n e;rw[e,beq_iff_eq.mp a]
 .cases a
structure MethAt (K:Ae)(x qual:Str)(st:Stmt)(ps:List Str)(f:Addr)(fd:AA):Prop where
 fn:Fun K x qual st f fd
 bd:Binds K fd ps []
 ty:Ct K (.ref f)=some (.type "function")
section
variable {X:Cx}{K:Ae}
theorem qre (a:X.K=K):OpR X (compareOp .In) (rIn K false):=a ▸ qdj
end
structure Notes (fs:List Addr)(x C:Addr)(od:Option Addr)(sl:Array (Option Value))(told:List Addr)(T:Addr)(fl:Value)(h h':Heap):Prop where
 rc:∃vs:Array Value,Sz6 vs/\h'.get? x=some (qdt C od vs sl)/\vs[1]?=some (.ref T)
 tb:∃oT ts,h'.get? T=some oT/\oT.data=.fields ts/\ts[3]?=some fl
 new:h.objs.size<=T
 ne:T≠x
 keep:∀b o,b≠x->b∉told->b∉fs->h.get? b=some o->h'.get? b=some o
 slot:∀b o,b≠x->b∉told->h.get? b=some o->∃s,h'.get? b=some {o with slots:=s}
 old:∀b∈told,∃o,h'.get? b=some o
section
variable {M:Model}{A:AX}{E:Value->Af->Prop}{s:Af}{base:Heap}{env:Env}{outer:List Env}{L x C:Addr}{od:Option Addr}{vs:Array Value}{sl:Array (Option Value)}
theorem qsr {i:Value}{g:Bool}{Q:Unit->Af->Prop}(u:A.frames=some (env::outer))(hl:s.heap.FunFrames base (env::outer))(I:env.frame=some L)(q:s.heap.get? x=some (qdt C od vs sl))(hz:Sz6 vs)
  (h:∀h' T,Notes (frs (env::outer)) x C od sl [] T (rawInt L) s.heap h'->Q () {s with heap:=h'}) :
  wpAny M A (do let a <- frameOf env;let pl <- entryPlaceOf L g;let b <- EntryCells.newEntry i a .none (rawInt L) .none pl;setField (.ref x) 1 b) Q E s:=by
 have p:x∉(env::outer).filterMap (·.frame):=λG=>by obtain⟨_,o,D,w⟩:=hl.mem G;rw[q]at D;cases D;exact w vs rfl
 refine Ab (wpAny_frameOf_fun u hl I λc f=>?_);refine Ab (wpAny_entryPlaceOf λpl k=>?_);unfold EntryCells.newEntry newFields;refine Ab (Cm ?_ (k.sizeOk5 _ _ _ _ _));generalize t:({cls:=.type "traceback",dict:=none,data:=.fields ([i,.ref L,.none,rawInt L,.none]++(if pl.isEmpty then List.replicate 6 BE else pl)).toArray}:Obj)=oT;have n:c.get? x=some (qdt C od vs sl):=(f.2.1 x p).trans q;have m:=Aj (h:=c) oT n;have l:(qdt C od vs sl).data=.fields vs:=rfl;refine Cb m l (by lia) (h _ c.objs.size ?_);have j:c.objs.size≠x:=Cs (A1 n);have F:=BX l (·.setIfInBounds 1 (Ap c.objs.size));have z:=Bg (CC (·.setIfInBounds 1 (Ap c.objs.size))) m (Cz F);have v:((c.push oT).update x (CC (·.setIfInBounds 1 (Ap c.objs.size)))).get? c.objs.size=some oT :=
  (Bv _ _ (Ba j)).trans (Aw c (by rw[<- t];rfl))
 have y:∀b o,b≠x->c.get? b=some o->((c.push oT).update x (CC (·.setIfInBounds 1 (Ap c.objs.size)))).get? b=some o:=λb o d e=>by rw[Bv _ _ (Ba d)];exact Aj _ e
 refine⟨⟨vs.setIfInBounds 1 (.ref c.objs.size),⟨by rw[Array.size_setIfInBounds];exact hz.1,by rw[Array.getElem?_setIfInBounds_ne Ez];exact hz.2⟩,z,by simp[hz.1]⟩,⟨oT,_,v,by rw[<- t],?_⟩,?_,j,λb o d _ r e=>y b o d ((f.2.1 b r).trans e),λb o d _ e=>?_,λb d=>absurd d (by simp)⟩
 .first | (simp;done) | (rcases k with rfl|⟨_,_,_,_,_,_,_,rfl⟩ <;>simp)
 .exact BW f.1.symm
 .obtain⟨B,H⟩:=f.2.2 b o e;exact⟨B,y b _ d H⟩
theorem qwb {Q:Unit->Af->Prop}(c:A.frames=some (env::outer))(hl:s.heap.FunFrames base (env::outer))(b:env.frame=some L)(a:s.heap.get? x=some (qdt C od vs sl))(hz:Sz6 vs)(d:vs[1]?=some .none)
  (h:∀h' T,Notes (frs (env::outer)) x C od sl [] T (rawInt L) s.heap h'->Q () {s with heap:=h'}):wpAny M A (noteFrame (.ref x) env) Q E s:=by
 unfold noteFrame;simp only[b];refine Ab (BS a Z d ?_);rw[if_neg Ez];exact qsr c hl b a hz h
theorem qt2 {Q:Unit->Af->Prop}{T:Addr}{r:Obj}{ts:Array Value}(n:A.frames=some (env::outer))(hl:s.heap.FunFrames base (env::outer))(u:env.frame=some L)(l:s.heap.get? x=some (qdt C od vs sl))(hz:Sz6 vs)(w:vs[1]?=some (.ref T))
  (j:T≠x)(f:s.heap.get? T=some r)(hd:r.data=.fields ts)(t:ts[3]?=some .none)
  (h:∀h' k,Notes (frs (env::outer)) x C od sl [T] k (rawInt L) s.heap h'->Q () {s with heap:=h'}):wpAny M A (noteFrame (.ref x) env) Q E s:=by
 unfold noteFrame;simp only[u];refine Ab (BS l Z w ?_);rw[if_pos (show (Ap T != BE)=true from by simp)];refine Ab (BS f hd t ?_);rw[if_neg (show ¬((BE == rawInt L)=true) from by simp[rawInt])];refine Ab (Cb f hd (CJ.mp t).1 ?_);have c:∀b,b≠T->(s.heap.update T (CC (·.setIfInBounds 3 BE))).get? b=s.heap.get? b:=λb a=>Bv _ _ (Ba a);have p:∃o,(s.heap.update T (CC (·.setIfInBounds 3 BE))).get? T=some o:=⟨_,Bg _ f (Cz (BX hd _))⟩;have v:∀b o,s.heap.get? b=some o->(∀vs,o.data ≠ .fields vs)->b≠T:=λb o a d q=>by rw[q,f]at a;cases a;exact d ts hd
 have z:T∉frs (env::outer):=λy=>by obtain⟨_,o,i,d⟩:=hl.mem y;rw[f]at i;cases i;exact d ts hd
 refine qsr n (hl.of_keeps λb o a d=>⟨o,(c b (v b o a d)).trans a,Z⟩) u ((c x (Ba j)).trans l) hz λh' k N=>h h' k ?_;obtain⟨o,i⟩:=p;refine⟨N.rc,N.tb,A3 (BW (Heap.size_update ..).symm) N.new,N.ne,λb o a g m e=>N.keep b o a (by simp) m ((c b (by simpa using g)).trans e),λb o a g e=>N.slot b o a (by simp) ((c b (by simpa using g)).trans e),λb a=>?_⟩;have e:b=T:=by simpa using a
 subst e;exact⟨o,N.keep b o j (by simp) z i⟩
theorem land_x {Q:Unit->Af->Prop}{fs d:List Addr}{T:Addr}{t:Value}{j:Heap}(N:Notes fs x C od sl d T t j s.heap)(p:T∉d)(h:∀h',Notes fs x C od sl d T .none j h'->Q () {s with heap:=h'}):wpAny M A (setFlight (.ref x) none) Q E s:=by
 obtain⟨vs,hz,k,m⟩:=N.rc;obtain⟨oT,ts,n,hd,r⟩:=N.tb;have i:=(CJ.mp r).1;unfold setFlight;refine Ab (BS k Z m ?_);rw[if_pos (show (Ap T != BE)=true from by simp)];refine Cb n hd i (h _ ?_);have a:∀b,b≠T->(s.heap.update T (CC (·.setIfInBounds 3 ((none:Option Addr).elim BE λf=>rawInt f)))).get? b=s.heap.get? b:=λb c=>Bv _ _ (Ba c);have lt:∀b o,j.get? b=some o->b≠T:=λb o e=>AG (AB (A1 e) N.new);refine⟨⟨vs,hz,(a x (Ba N.ne)).trans k,m⟩,⟨_,_,Bg _ n (Cz (BX hd _)),BX hd _,by simp[i]⟩,N.new,N.ne,λb o c g l e=>(a b (lt b o e)).trans (N.keep b o c g l e),λb o c g e=>?_,λb c=>?_⟩
 .obtain⟨q,u⟩:=N.slot b o c g e;exact⟨q,(a b (lt b o e)).trans u⟩
 .obtain⟨o,e⟩:=N.old b c;exact⟨o,(a b λz=>p (z ▸ c)).trans e⟩
end
def qrf (X:Cx)(pins:List (Addr×Obj))(H:Hp)(h:Heap)(x C:Addr)(od:Option Addr):Prop:=H x=some (exO x C od false)/\∃(vs:Array Value)(sl:Array (Option Value))(T:Addr)(oT:Obj)(ts:Array Value),
 h.get? x=some (qdt C od vs sl)/\vs[1]?=some (.ref T)/\h.get? T=some oT/\oT.data=.fields ts/\ts[3]?=some .none/\qe2 X pins H T
def Fly (X:Cx)(pins:List (Addr×Obj))(H:Hp)(h:Heap)(x C:Addr)(od:Option Addr):Prop:=H x=some (exO x C od true)\/qrf X pins H h x C od
theorem qss {P:AK}{w:World}{H:Hp}{h:Heap}{x C:Addr}{od:Option Addr}{fr b:Bool}(ok:HOk P w H h)(e:H x=some (exO x C od fr))(a:exHas H od):exHas (upd H x (exO x C od b)) od:=by
 cases od with
 |none=>exact trivial
 |some dx =>obtain⟨fs,q⟩:=a;exact⟨fs,by rw[qp (ex_ne ok e q)];exact q⟩
section
variable {X:Cx}{pins:List (Addr×Obj)}{σ:L2.St}{H:Hp}{s:Af}{E:Value->Af->Prop}{x C:Addr}{od:Option Addr}
theorem qt3 {fr:Bool}{sl:Array (Option Value)}{g:List Addr}{T:Addr}{y:Value}{h':Heap}(I:Inv X pins σ H s)(e:H x=some (exO x C od fr))(N:Notes (frs X.stack) x C od sl g T y s.heap h')(h:∀b∈g,qe2 X pins H b) :
  Inv X pins σ (upd H x (exO x C od false)) {s with heap:=h'}/\qe2 X pins (upd H x (exO x C od false)) T:=by
 have nx:∀b,H b=none->b≠x:=λb n z=>by rw[z,e]at n;cases n
 have l:∀b u,H b=some u->b∉g:=λb u q z=>by rw[(h b z).1]at q;cases q
 have p:∀b u,H b=some u->b∉frs X.stack:=λb u q z=>by rw[I.stkFree b z]at q;cases q
 have f:∀b u,H b=some u->u≠exO x C od fr->b≠x:=λb u q n z=>n (by rw[z,e]at q;exact(A9 q).symm);have sub:∀b,b≠X.env.locals->b∉X.fs->b∉frs X.stack:=λb j i z=>by
  rcases An.mp (I.stkSub b z) with q|q
  .exact j q
  .exact i q
 refine⟨I.step (g':=s.gens) (d':=s.drawn) (t':=s.toks) (ch:=g) (λb a=>⟨(h b a).2.2.2.1,(h b a).2.1,(h b a).2.2.2.2.1,(h b a).2.2.2.2.2⟩) (λb o j i d q n=>N.keep b o (nx b n) d (sub b j i) q) (λb o _ _ d q n=>N.slot b o (nx b n) d q)
  (λb o _ _ n=>by rw[qp (nx b n)];exact n) (λb o d q=>?_) (λb xs q=>?_) (λb o u q=>?_) (λb ps q=>?_) (λm A=>?_) (λb u q=>?_) I.bare,?_⟩
 .by_cases a:b=x
  .subst a;obtain⟨vs,_,r,_⟩:=N.rc;exact⟨_,r⟩
  .obtain⟨t,k⟩:=N.slot b o a d q;exact⟨_,k⟩
 .rw[qp (f b _ q (by unfold exO;intro z;cases z))];exact q
 .rw[qp (f b _ q (by unfold exO;intro z;cases z))];exact q
 .exact⟨#[],by rw[qp (f b _ q (by unfold exO;intro z;cases z)),q];simp⟩
 .obtain⟨o,es,ep,w,r⟩:=A;obtain⟨t,k⟩:=N.slot _ o (nx _ I.free) (λz=>(h _ z).2.1 Z) w;exact⟨_,es,ep,k,r⟩
 .by_cases a:b=x
  .subst a;rw[qi]at q;cases q;obtain⟨vs,hz,r,_⟩:=N.rc;exact qoj r hz λz=>nomatch z
  .rw[qp a]at q;refine(I.hok b u q).stay (λc v d r=>?_) (λc r=>?_) λc xs r=>?_
   .rcases d with rfl|d
    .exact N.keep c v a (l c u q) (p c u q) r
    .exact N.keep c v (f c _ d (by unfold exO;intro z;cases z)) (l c _ d) (p c _ d) r
   .rw[qp (f c _ r (by unfold exO;intro z;cases z))];exact r
   .rw[qp (f c _ r (by unfold exO;intro z;cases z))];exact r
 .exact I.fpOk N.new (by rw[qp N.ne];exact I.hok.fresh N.new)
theorem qnn {Q:Af->Prop}(d:X.stack=X.env::X.outer/\X.env.frame=some X.env.locals)(I:Inv X pins σ H s)(f:Fly X pins H s.heap x C od)
  (h:∀s',Inv X pins σ (upd H x (exO x C od false)) s'->qrf X pins (upd H x (exO x C od false)) s'.heap x C od->Q s') :
  wpAny (model X.prog X.w) X.A (noteFrame (.ref x) X.env) (λ_ G=>wpAny (model X.prog X.w) X.A (setFlight (.ref x) none) (λ_ p=>Q p) E G) E s:=by
 have k:X.A.frames=some (X.env::X.outer):=by rw[I.ok.frames,d.1]
 have hl:s.heap.FunFrames X.base (X.env::X.outer):=by rw[<- d.1];exact I.stack
 have l:∀{fr:Bool}{sl:Array (Option Value)}{c:List Addr}{T:Addr}{B:Value}{h':Heap},H x=some (exO x C od fr)->(∀b∈c,qe2 X pins H b)->(∀b∈c,∃o,s.heap.get? b=some o)->Notes (frs (X.env::X.outer)) x C od sl c T B s.heap h' ->
   wpAny (model X.prog X.w) X.A (setFlight (.ref x) none) (λ_ p=>Q p) E {s with heap:=h'}:=by
  intro fr sl c T B h' e F D N;refine land_x (s:={s with heap:=h'}) N (λz=>?_) λh2 i=>?_
  .obtain⟨o,q⟩:=D T z;exact absurd (A1 q) (Nat.not_lt.mpr N.new)
  .rw[<- d.1]at i;obtain⟨J,fp⟩:=qt3 I e i F;obtain⟨vs,hz,r,n⟩:=i.rc;obtain⟨y,ts,j,hd,u⟩:=i.tb;exact h _ J ⟨qi,vs,sl,T,y,ts,r,n,j,hd,u,fp⟩
 rcases f with e|⟨e,vs,sl,T,y,ts,g,n,j,hd,u,fp⟩
 .obtain⟨vs,sl,g,hz,K⟩:=qfi I.hok e;obtain⟨rfl,t,rfl⟩:=K rfl;exact qwb k hl d.2 g ⟨Z,Z⟩ rfl λh' T N=>l e (λb a=>absurd a (by simp)) (λb a=>absurd a (by simp)) N
 .have hz:Sz6 vs:=by
   obtain⟨vs',sl',m,hz,_⟩:=qfi I.hok e
   rw[g]at m
   cases m
   exact hz
  have v:T≠x:=λz=>by have:=fp.1;rw[z,e]at this;cases this
  have one:∀b∈[T],b=T:=λb a=>by simpa using a
  exact qt2 k hl d.2 g hz n v j hd u λh' T' N=>l e (λb a=>by rw[one b a];exact fp) (λb a=>by rw[one b a];exact⟨_,j⟩) N
end
def CX1 (P:AK)(w:World):CXT:=λouter H s E e s'=>∃(x C:Addr)(od:Option Addr)(H':Hp)(vs:Array Value)(sl:Array (Option Value))(T:Addr)(oT:Obj)(ts:Array Value),e=.ref x/\H' x=some (exO x C od false)/\exHas H' od/\s'.heap.get? x=some (qdt C od vs sl)/\vs[1]?=some (.ref T) /\
 s'.heap.get? T=some oT/\oT.data=.fields ts/\ts[3]?=some .none/\H' T=none/\s.heap.objs.size<=T/\s'.os=s.os/\AllBare s'.gens/\Un (frs outer) [] H H' s.heap s'.heap/\HOk P w H' s'.heap/\E (.ref x) od H'
def Takes (X:Cx)(E:XK):Prop:=∀(pins:List (Addr×Obj))(σ:L2.St)(H:Hp)(s:Af)(x C:Addr)(od:Option Addr),Inv X pins σ H s->Fly X pins H s.heap x C od->exHas H od->E (.ref x) od (upd H x (exO x C od false))->X.xe (.ref x) s
theorem qbo {P:AK}{w:World}{K:Ae}{mg:Str->Option Value}{base:Heap}{N:List Str}{a:Str}{scope:Scope}{f:Addr}{k:Value}{A:AX}{outer:List Env}{s:Af}{H:Hp}{E:XK} :
  Takes (qoc (CX1 P w) P w K mg base N a scope f k A outer s H E) E:=by
 intro pins σ g s1 x C od I d has q;show wpAny _ _ (leaving _ _) _ _ _;unfold leaving;refine Ab (qnn ⟨Z,Z⟩ I d λs2 J h=>?_);obtain⟨e,vs,sl,T,j,ts,n,i,l,hd,m,fp⟩:=h;have c:s.heap.objs.size<=T:=by
  rcases fp.2.2.2.1 with z|z
  .exact absurd (show T∈([]:List Addr) from z) (by simp)
  .exact z
 have b:∃fr,g x=some (exO x C od fr):=by
  rcases d with z|z
  .exact⟨_,z⟩
  .exact⟨_,z.1⟩
 obtain⟨fr,b⟩:=b;exact⟨x,C,od,_,vs,sl,T,j,ts,Z,e,qss I.hok b has,n,i,l,hd,m,fp.1,c,J.os,J.bare,J.base,J.hok,q⟩
section
variable {P:AK}{w:World}{K:Ae}{mg:Str->Option Value}{base:Heap}
theorem okX {x a:Str}{st:Stmt}{f:Addr}{e:AA}{N ps:List Str}{k:Nat}{sp:Sp}(F:Fun K x a st f e)(S:FnScope N ps (qab st))(len:∀vs H Q E,sp vs H Q E->vs.length=ps.length)
  (c:∀(b:Value)(A:AX)(outer:List Env)(s:Af)(H:Hp)(vs:List V)(Q:VK)(E:XK),Room k (A.deeper (envOfC a (qab st) s.heap.objs.size f b))->sp vs H Q E ->
   ∃t,PSs (qoc (CX1 P w) P w K mg base N a (qab st) f b A outer s H E) (qbw st) t/\t {nx:=λ_ H'=>Q .non H',rt:=Q} (qg0 N vs) H):FnOk P w K mg base (CX1 P w) (k+1) f e ps sp:=by
 obtain⟨oc,od,kV,doc,pm,an,b,ct,osl,rfl,i,d⟩:=F.ex
 exact qvn i d S len λA outer s H vs Q E h g=>c b A outer s H vs Q E h g
end
theorem qwc {X:Cx}{P:AK}{w:World}:qgg (CX1 P w) X E0:=λ_ _ _ _ _ _ _ h=>by obtain⟨_,_,_,_,_,_,_,_,_,_,_,_,_,_,_,_,_,_,_,_,_,_,_,q⟩:=h;exact q.elim
def TakesAt (X:Cx)(EX:L2.St->XK):Prop:=∀(pins:List (Addr×Obj))(σ:L2.St)(H:Hp)(s:Af)(x C:Addr)(od:Option Addr),Inv X pins σ H s->Fly X pins H s.heap x C od->exHas H od->EX σ (.ref x) od (upd H x (exO x C od false))->X.xe (.ref x) s
theorem Takes.at {X:Cx}{E:XK}(t:Takes X E):TakesAt X λ_=>E:=t
theorem TakesAt.pass {X:Cx}{g:L2.St->XK}{a:List (Addr×Obj)}{σ:L2.St}{H:Hp}{s f:Af}{e:Value}(t:TakesAt X g)(I:Inv X a σ H s)(c:CX1 X.prog X.w X.stack H s (g σ) e f):X.xe e f:=by obtain⟨x,C,od,H',vs,sl,T,i,ts,rfl,ex,has,n,h,j,hd,k,m,hz,l,d,un,ok,q⟩:=c;have J:=I.call' (ch:=[]) l un ok d λb d=>absurd d (by simp);refine t a σ H' f x C od J (.inr ⟨ex,vs,sl,T,i,ts,n,h,j,hd,k,I.fpOk hz m⟩) has ?_;rw[qpv ex];exact q
def tCallX (sp:Sp)(dvs:List V)(EX:L2.St->XK)(t:TA):TE:=λσ H Q=>t σ H λvs H1=>sp (vs++dvs) H1 Q (EX σ)
def tMakeX (C:Addr)(sp:Sp)(dvs:List V)(EX:L2.St->XK)(t:TA):TE:=λσ H Q=>t σ H λvs H1=>∀x dx,H1 x=none->H1 dx=none->dx≠x ->
 sp (.ref x::(vs++dvs)) (upd (upd H1 dx (.own x)) x (.ins C dx [])) (λv H2=>v=.non/\Q (.ref x) H2) (EX σ)
section
variable {X:Cx}{k:Nat}{f C:Addr}{fd:AA}{ps:List Str}{sp:Sp}{dvs:List V}{ds:List Value}{EX:L2.St->XK}{x m:Str}{p pos apos:Pos}{e o:Expr}{es:List Expr}{ta:TE}{t:TA}
theorem qy1 {a:List (Addr×Obj)}{σ:L2.St}{H:Hp}{s:Af}{Q:VK}{us:List Value}{vs:List V}(F:FnOk X.prog X.w X.K X.mg X.base (CX1 X.prog X.w) k f fd ps sp)(g:Room k X.A)(i:Binds X.K fd ps ds)(hd:Vals dvs ds)(d:TakesAt X EX)
  (I:Inv X a σ H s)(r:Vals vs us)(h:sp (vs++dvs) H Q (EX σ)):wpAny (model X.prog X.w) X.A (call (.ref f) us) (EP X a σ Q) X.xe s:=by
 have c:Vals (vs++dvs) (us++ds):=r.append hd;have hl:(us++ds).length=ps.length:=by rw[<- c.length];exact F.len _ _ _ _ h
 refine Db (CA (F.run X.A X.stack s H ⟨us,[]⟩ (us++ds) (vs++dvs) Q (EX σ) g I.env0 (i s us I.kIn hl) c h) λr s' b=>?_);cases r with
 |error e=>exact d.pass I b
 |ok fl =>
  cases fl with|ret u=>exact I.after b|next=>exact BK b|brk=>exact BK b|cont=>exact BK b
theorem qes (F:FnOk X.prog X.w X.K X.mg X.base (CX1 X.prog X.w) k f fd ps sp)(i:Room k X.A)(l:Gl X x)(j:X.mg x=some (.ref f))(hk:Bq X.K (.ref f)=true)(g:Binds X.K fd ps ds)(hd:Vals dvs ds)(m:TakesAt X EX)
  (d:PA X (e::es) t)(b:(x == ("__debug__" : Str))=false:=by decide)(he:starEach (e::es) X.env=(false,eval e X.env)::starEach es X.env:=by rfl)(hpl:(backTo pos (starEach es X.env)).any (·.1)=false:=by rfl) :
  PE X (.Call (.Name x p) (e::es) [] pos) (tCallX sp dvs EX t):=by
 intro a s σ H Q I h;refine B9 (qfs I l j ?_ b);refine CH (h₀:=X.base) I.ok.mod.kin hk (thn (d pos a s σ H _ I h) λus s1 ⟨vs,H1,c,r,q⟩=>⟨c.kIn,?_⟩) he hpl;exact qy1 F i g hd m c r q
theorem qt4 {b:List (Addr×Obj)}{σ:L2.St}{H:Hp}{s:Af}{Q:VK}{us:List Value}{vs:List V}(M:Mk X.K C f)(F:FnOk X.prog X.w X.K X.mg X.base (CX1 X.prog X.w) k f fd ps sp)(m:Room (k+1) X.A)(i:Binds X.K fd ps ds)(hd:Vals dvs ds)
  (o:TakesAt X EX)(I:Inv X b σ H s)(r:Vals vs us)
  (h:∀x dx,H x=none->H dx=none->dx≠x->sp (.ref x::(vs++dvs)) (upd (upd H dx (.own x)) x (.ins C dx [])) (λv p=>v=.non/\Q (.ref x) p) (EX σ)) :
  wpAny (model X.prog X.w) X.A (call (.ref C) us) (EP X b σ Q) X.xe s:=by
 have g:=h (s.heap.objs.size+1) s.heap.objs.size (I.hok.fresh (Cp _)) (I.hok.fresh (A0 _)) (AG (Cc _));have c:=Inv.made (C:=C) I;have d:Vals (V.ref (s.heap.objs.size+1)::(vs++dvs)) (Ap (s.heap.objs.size+1)::(us++ds)):=.cons rfl (r.append hd);have hl:(Ap (s.heap.objs.size+1)::us++ds).length=ps.length:=by have e:=d.length;rw[F.len _ _ _ _ g]at e;exact e.symm
 refine Db (qpg (f:=f) I.kIn M.makes M.init (beq_iff_eq.mp M.fn) (CA (F.run _ X.stack _ _ ⟨Ap (s.heap.objs.size+1)::us,[]⟩ (Ap (s.heap.objs.size+1)::(us++ds)) _ _ (EX σ) (m.make C us [])
  (c.env0.make C us []) (i _ (Ap (s.heap.objs.size+1)::us) c.kIn hl) d g) λr s' a=>?_))
 cases r with
 |error e=>exact o.pass c a
 |ok fl =>
  cases fl with
  |ret u =>obtain⟨v,H',n,q,l,j⟩:=c.after a;subst l;exact⟨q,⟨V.ref (s.heap.objs.size+1),H',n,Z,j⟩⟩
  |next=>exact BK a
  |brk=>exact BK a
  |cont=>exact BK a
theorem qwd (M:Mk X.K C f)(F:FnOk X.prog X.w X.K X.mg X.base (CX1 X.prog X.w) k f fd ps sp)(i:Room (k+1) X.A)(l:Gl X x)(j:X.mg x=some (.ref C))(g:Binds X.K fd ps ds)(hd:Vals dvs ds)(m:TakesAt X EX)
  (d:PA X (e::es) t)(b:(x == ("__debug__" : Str))=false:=by decide)(he:starEach (e::es) X.env=(false,eval e X.env)::starEach es X.env:=by rfl)(hpl:(backTo pos (starEach es X.env)).any (·.1)=false:=by rfl) :
  PE X (.Call (.Name x p) (e::es) [] pos) (tMakeX C sp dvs EX t):=by
 intro a s σ H Q I h;refine B9 (qfs I l j ?_ b);refine CH (h₀:=X.base) I.ok.mod.kin M.kp (thn (d pos a s σ H _ I h) λus s1 ⟨vs,H1,c,r,q⟩=>⟨c.kIn,?_⟩) he hpl;exact qt4 M F i g hd m c r q
end
noncomputable abbrev _root_.L2.Cx.tr (X:Cx)(pins:List (Addr×Obj))(W:Value->Af->Prop):Cx:={X with pn:=X.pn++pins,xe:=W}
noncomputable abbrev _root_.L2.Cx.sup (X:Cx)(e:Value)(W:Value->Af->Prop):Cx:={X with A:=X.A.mark (some e),calm:=false,xe:=W}
section
variable {X:Cx}{pins pins':List (Addr×Obj)}{σ:L2.St}{H:Hp}{s:Af}{W:Value->Af->Prop}{e:Value}
theorem ok_tr (ok:X.Ok):(X.tr pins W).Ok:=⟨ok.mod,ok.kind,ok.glob,ok.blt,ok.above,ok.inj,ok.has,ok.cab,ok.hd,ok.frames,ok.stk,ok.exf,ok.bs,ok.bsz,ok.noex,ok.exfs,ok.funs,ok.frf⟩
theorem qy2 (ok:(X.tr pins W).Ok):X.Ok:=⟨ok.mod,ok.kind,ok.glob,ok.blt,ok.above,ok.inj,ok.has,ok.cab,ok.hd,ok.frames,ok.stk,ok.exf,ok.bs,ok.bsz,ok.noex,ok.exfs,ok.funs,ok.frf⟩
theorem inv_tr (I:Inv X pins σ H s):Inv (X.tr pins W) [] σ H s:=⟨ok_tr I.ok,I.os,I.bare,I.base,I.loc,I.cell,I.free,I.freeC,λp a=>I.pin p (by rw[Bm]at a;exact a),I.hok,I.len⟩
theorem qhg (I:Inv (X.tr pins W) pins' σ H s):Inv X pins σ H s:=⟨qy2 I.ok,I.os,I.bare,I.base,I.loc,I.cell,I.free,I.freeC,λp a=>I.pin p (Bk _ a),I.hok,I.len⟩
theorem qy3 {b:Addr}(f:qe2 (X.tr pins W) pins' H b):qe2 X pins H b:=⟨f.1,f.2.1,f.2.2.1,f.2.2.2.1,f.2.2.2.2.1,λp a=>f.2.2.2.2.2 p (Bk _ a)⟩
theorem qwe {h:Heap}{x C:Addr}{od:Option Addr}(f:Fly (X.tr pins W) pins' H h x C od):Fly X pins H h x C od:=by
 rcases f with z|⟨e,vs,sl,T,b,ts,d,g,i,a,c,j⟩
 .exact .inl z
 .exact .inr ⟨e,vs,sl,T,b,ts,d,g,i,a,c,qy3 j⟩
theorem qy4 {D:Ends}{f:Flow}{a:Af}(h:SP (X.tr pins W) [] D f a):SP X pins D f a:=by
 cases f with
 |next=>obtain⟨σ',H',I,q⟩:=h;exact⟨σ',H',qhg I,q⟩
 |brk=>obtain⟨σ',H',I,q⟩:=h;exact⟨σ',H',qhg I,q⟩
 |cont=>obtain⟨σ',H',I,q⟩:=h;exact⟨σ',H',qhg I,q⟩
 |ret u=>obtain⟨v,σ',H',I,r,q⟩:=h;exact⟨v,σ',H',qhg I,r,q⟩
theorem ok_sup (ok:X.Ok):(X.sup e W).Ok:=⟨ok.mod,ok.kind,ok.glob,ok.blt,ok.above,ok.inj,ok.has,ok.cab,(λz=>nomatch z),ok.frames,ok.stk,ok.exf,ok.bs,ok.bsz,ok.noex,ok.exfs,ok.funs,ok.frf⟩
theorem qst (I:Inv X pins σ H s):Inv (X.sup e W) pins σ H s:=⟨ok_sup I.ok,I.os,I.bare,I.base,I.loc,I.cell,I.free,I.freeC,I.pin,I.hok,I.len⟩
theorem qh5 (ok:X.Ok)(I:Inv (X.sup e W) pins σ H s):Inv X pins σ H s:=⟨ok,I.os,I.bare,I.base,I.loc,I.cell,I.free,I.freeC,I.pin,I.hok,I.len⟩
theorem qwf {D:Ends}{f:Flow}{a:Af}(ok:X.Ok)(h:SP (X.sup e W) pins D f a):SP X pins D f a:=by
 cases f with
 |next=>obtain⟨σ',H',I,q⟩:=h;exact⟨σ',H',qh5 ok I,q⟩
 |brk=>obtain⟨σ',H',I,q⟩:=h;exact⟨σ',H',qh5 ok I,q⟩
 |cont=>obtain⟨σ',H',I,q⟩:=h;exact⟨σ',H',qh5 ok I,q⟩
 |ret u=>obtain⟨v,σ',H',I,r,q⟩:=h;exact⟨v,σ',H',qh5 ok I,r,q⟩
end
abbrev TH:=Ends->L2.St->Addr->Addr->Option Addr->Hp->Prop
def PH (X:Cx)(hs:List ExceptHandler)(th:TH):Prop:=∀(pins:List (Addr×Obj))(s:Af)(σ:L2.St)(H:Hp)(D:Ends)(x C:Addr)(od:Option Addr),Inv X pins σ H s->qrf X pins H s.heap x C od->exHas H od->th D σ x C od H ->
 wpAny (model X.prog X.w) X.A (handleBy (.ref x) X.env hs) (SP X pins D) X.xe s
noncomputable def EXof (th:TH)(D:Ends):L2.St->XK:=λσ v od H=>∃x C,v=.ref x/\H x=some (exO x C od false)/\th D σ x C od H
def tTry (tb:(L2.St->XK)->TS)(th:TH):TS:=λD σ H=>tb (EXof th D) D σ H
theorem ps_try {X:Cx}{b:List Stmt}{g:ExceptHandler}{d:List ExceptHandler}{pos:Pos}{p:(L2.St->XK)->TS}{i:TH}(t:X.stack=X.env::X.outer/\X.env.frame=some X.env.locals)
  (u:∀a W EX,TakesAt (X.tr a W) EX->B3 (model X.prog X.w) X.A X.env W->PSs (X.tr a W) b (p EX))(B:PH X (g::d) i):PS X (.Try b (g::d) [] [] pos) (tTry p i):=by
 intro a s σ H D I h;refine wpAny_Try_except ?_;have ok:=I.ok;let W:Value->Af->Prop:=λe k=>wpAny (model X.prog X.w) X.A (noteFrame e X.env) (λ_ v=>wpAny (model X.prog X.w) X.A (setFlight e none) (λ_ y=>wpAny (model X.prog X.w) X.A (handleBy e X.env (g::d)) (SP X a D) X.xe y) X.xe v) X.xe k;have T:TakesAt (X.tr a W) (EXof i D):=by
  intro pins' σ' H' s' x C od K F has q;obtain⟨x',C',n,m,q⟩:=q;cases n;have J:=qhg K;have c:=qwe F;have j:∃fr,H' x=some (exO x C od fr):=by
   rcases c with z|z
   .exact⟨_,z⟩
   .exact⟨_,z.1⟩
  obtain⟨fr,j⟩:=j;refine qnn t J c λE r o=>?_;obtain⟨_,_,z,_⟩:=qfi r.hok m;have l:=o;obtain⟨_,_,_,_,_,_,G,_⟩:=l;rw[G]at z;cases z;exact B a E σ' _ D x C od r o (qss J.hok j has) q
 refine Cf (u a W _ T B3.looking [] s σ H D (inv_tr I) h) (λf k q=>?_) λe k q=>q;have q:=qy4 q;cases f with|next=>exact D0 q|_=>exact q
theorem ph_nil {X:Cx}:PH X [] λ_ _ _ _ _ _=>False:=λ_ _ _ _ _ _ _ _ _ _ _ h=>h.elim
section
variable {X:Cx}{pins:List (Addr×Obj)}{σ:L2.St}{H:Hp}{s:Af}{E:Value->Af->Prop}
theorem qrg {M:Model}{A:AX}{x C:Addr}{od:Option Addr}{Q:Unit->Af->Prop}(I:Inv X pins σ H s)(f:qrf X pins H s.heap x C od)(h:∀s',Inv X pins σ H s'->qrf X pins H s'.heap x C od->Q () s'):wpAny M A (setFlight (.ref x) none) Q E s:=by
 obtain⟨e,vs,sl,T,oT,ts,t,k,p,hd,w,fp⟩:=f;have i:=(CJ.mp w).1;unfold setFlight;refine Ab (BS t Z k ?_);rw[if_pos (show (Ap T != BE)=true from by simp)];refine Cb p hd i ?_;have a:∀b,b≠T->(s.heap.update T (CC (·.setIfInBounds 3 ((none:Option Addr).elim BE λf=>rawInt f)))).get? b=s.heap.get? b:=λb g=>Bv _ _ (Ba g);have l:=Bg (CC (·.setIfInBounds 3 ((none:Option Addr).elim BE λf=>rawInt f))) p (Cz (BX hd _));have j:∀b u,H b=some u->b≠T:=λb u q z=>by rw[z,fp.1]at q;cases q
 have one:∀b,b∉[T]->b≠T:=λb g z=>g (by rw[z];simp);refine h _ (I.step (g':=s.gens) (d':=s.drawn) (t':=s.toks) (ch:=[T]) (λb g=>?_) (λb o _ _ d q _=>(a b (one b d)).trans q) (λb o _ _ d q _=>⟨o.slots,(a b (one b d)).trans q⟩) (λb o _ _ n=>n) (λb o d q=>⟨o,(a b (one b d)).trans q⟩)
  (λb xs q=>q) (λb o u q=>q) (λb ps q=>⟨#[],by rw[q];simp⟩) (λm B=>?_) (λb u q=>?_) I.bare) ⟨e,vs,sl,T,_,_,(a x (j x _ e)).trans t,k,l,BX hd _,by simp[i],fp⟩
 .have z:b=T:=by simpa using g
  subst z;exact⟨fp.2.2.2.1,fp.2.1,fp.2.2.2.2.1,fp.2.2.2.2.2⟩
 .obtain⟨o,es,ep,y,r⟩:=B;exact⟨o,es,ep,(a _ (Ba fp.2.1)).trans y,r⟩
 .exact(I.hok b u q).stay (λc v d r=>(a c (by
   rcases d with rfl|d
   .exact j c u q
   .exact j c _ d)).trans r) (λ_ r=>r) λ_ _ r=>r
theorem qk3 {M:Model}{A:AX}{i:Nat}{n:Str}{pos:Pos}{Q:Unit->Af->Prop}(I:Inv X pins σ H s)(P:X.N.Nodup)(D:X.N[i]?=some n)(hk:X.env.scope.names.lookup n=some .local)
  (h:∀s',Inv X pins (σ.set i none) H s'->Q () s'):wpAny M A (do bindName X.env n .none;unbindBehindTheSuite X.env n pos) Q E s:=by
 obtain⟨m,C,hl⟩:=id I.loc;have x:(X.env.scope.kind == .class || (X.env.scope.kind == .module && X.env.locals != X.env.globals))=false:=by rw[I.ok.kind];rfl
 have cne:=I.cne;refine wpAny_nameGoes_keeps hk C x λh' v G a=>?_;obtain⟨oL,_,_,hoL,_⟩:=id C;have g:HOk X.prog X.w H h':=λb L e=>by
  refine(I.hok b L e).stay (λc F t q=>(a.2 c ?_).trans q) (λ_ q=>q) λ_ _ q=>q;rintro rfl;rcases t with rfl|t
  .rw[I.free]at e;cases e
  .rw[I.free]at t;cases t
 refine h _ ⟨I.ok,I.os,I.bare,⟨λb o e n u l=>?_,λb o e n u l=>?_,I.base.free,λb o e l=>?_,I.base.tups,I.base.frzs,I.base.tbls⟩,⟨_,G,λj y R f r K=>?_⟩,λy c e=>?_,I.free,I.freeC,λp T=>?_,g,by simpa using I.len⟩
 .exact(a.2 b (AG (AB (A1 e) I.ok.above))).trans (I.base.keep b o e n u l)
 .obtain⟨sl,f⟩:=I.base.slot b o e n u l;exact⟨sl,(a.2 b (AG (AB (A1 e) I.ok.above))).trans f⟩
 .obtain⟨o',f⟩:=I.base.there b o e l;exact⟨o',(a.2 b (AG (AB (A1 e) I.ok.above))).trans f⟩
 .have J:j≠i:=λz=>by
   subst z
   rw[Cj (by rw[I.len];exact(Ah.mp D).1)]at r
   cases r
  rw[CS (Ba J)]at r
  obtain⟨O,r',q⟩:=hl j y R f r K
  refine⟨O,r',?_⟩
  rcases q with ⟨k,e⟩|⟨k,c,e,z⟩
  .refine .inl ⟨k,?_⟩;have:y≠n:=λe=>J (qla P f (e ▸ D));simp[this,e]
  .exact .inr ⟨k,c,e,z.sameBut a (cne y c e)⟩
 .obtain⟨F,z⟩:=I.cell y c e;exact⟨F,z.sameBut a (cne y c e)⟩
 .obtain⟨e,n,B,S,d⟩:=I.pin p T;exact⟨(a.2 p.1 B).trans e,n,B,S,d⟩
end
def PC (X:Cx)(t:Expr)(c:Value):Prop:=∀(e:Value)(E:Value->Af->Prop)(pins:List (Addr×Obj))(s:Af)(σ:L2.St)(H:Hp)(Q:Value->Af->Prop),Inv X pins σ H s->Q c s->wpAny (model X.prog X.w) (X.A.mark (some e)) (eval t X.env) Q E s
theorem qdk {X:Cx}{x:Str}{u:Value}{pos:Pos}(b:Gl X x)(a:X.mg x=some u)(hd:(x == ("__debug__" : Str))=false:=by decide):PC X (.Name x pos) u:=λe E pins s σ H Q I h =>
 qfs (X:=X.sup e E) (qst I) b a h hd
def hCl (K:Ae)(c:Value)(suite qbm:TH):TH:=λD σ x C od H=>match Ad K (.ref C) c with
 |some true=>suite D σ x C od H
 |some false=>qbm D σ x C od H
 |none=>False
def hAs (i:Nat)(ts:Addr->TS):TH:=λD σ x _ _ H=>ts x {nx:=λσ' H'=>D.nx (σ'.set i none) H',rt:=D.rt,bk:=λσ' H'=>D.bk (σ'.set i none) H',ct:=λσ' H'=>D.ct (σ'.set i none) H'} (σ.set i (some (.ref x))) H
section
variable {X:Cx}{t:Expr}{b₀:Stmt}{body:List Stmt}{pos:Pos}{qbm:List ExceptHandler}{c:Value}{ts:Addr->TS}{tr:TH}
theorem qrh {a:List (Addr×Obj)}{H:Hp}{h:Heap}{x C:Addr}{od:Option Addr}(c:qrf X a H h x C od):BR (model X.prog X.w) h (typeOf (.ref x)) (.ref C):=by obtain⟨e,vs,sl,T,oT,tsl,b,_⟩:=c;exact(BR.ld b).andThen .now
theorem qpz {i:Nat}{n:Str}(d:X.N.Nodup)(e:X.N[i]?=some n)(hk:X.env.scope.names.lookup n=some .local)(A:PC X t c)(l:∀x,PSs (X.sup (.ref x) λ_ _=>False) (p::body) (ts x))(w:PH X qbm tr) :
  PH X (.ExceptHandler (some t) (some n) (p::body) pos::qbm) (hCl X.K c (hAs i ts) tr):=by
 intro b s σ H D x C od I g has h;refine wpAny_handleBy_cons (codeAny_handlers_test (A (.ref x) _ b s σ H _ I ?_)) (by intro q;cases q);unfold hCl at h;split at h
 .rename_i j;refine(PySem.W.exm_one I.kIn (qrh g) j).here ?_;refine codeAny_handlers_suite_as (qrg I g λs2 m f2=>?_);refine qix m d e (.inl hk) (v:=.ref x) rfl (λo y=>?_) (.inr hk);refine Cf (l x b o _ H _ (qst y) h) (λf s4 q=>?_) λ_ _ z=>z.elim;have q:=qwf I.ok q;cases f with
  |next=>obtain⟨σ',H',J,q⟩:=q;exact qk3 J d e hk λk a=>⟨_,H',a,q⟩
  |brk=>obtain⟨σ',H',J,q⟩:=q;exact qk3 J d e hk λk a=>⟨_,H',a,q⟩
  |cont=>obtain⟨σ',H',J,q⟩:=q;exact qk3 J d e hk λk a=>⟨_,H',a,q⟩
  |ret u=>obtain⟨v,σ',H',J,r,q⟩:=q;exact qk3 J d e hk λk a=>⟨v,_,H',a,r,q⟩
 .rename_i j;refine(PySem.W.exm_one I.kIn (qrh g) j).here ?_;exact w b s σ H D x C od I g has h
 .exact h.elim
end
structure XRaise (K:Ae)(C:Addr):Prop where
 sub:PySem.W.mroIn K C (.type "BaseException")=some true
 ty:Ct K (.ref C)=some (.type "type")
noncomputable def qim (K:Ae)(C:Addr):Bool:=(PySem.W.mroIn K C (.type "BaseException") == some true) && (Ct K (.ref C) == some (.type "type"))
theorem qp0 {K:Ae}{C:Addr}(h:qim K C=true):XRaise K C:=by unfold qim at h;simp only[AD,beq_iff_eq]at h;exact⟨h.1,h.2⟩
theorem qy5 {prog:AK}{w:World}{A:AX}{E:Value->Af->Prop}{s:Af}{env:Env}{K:Ae}{m:Sem Value}{Q:Flow->Af->Prop}(j:A.handled=none)
  (h:wpAny (model prog w) A m (λv a=>∃x C od vs sl,v=.ref x/\K.In a.heap/\XRaise K C/\a.heap.get? x=some (qdt C od vs sl)/\vs[1]?=some .none/\E (.ref x) a) E s) :
  wpAny (model prog w) A (raiseStmt env (some m) none) Q E s:=by
 unfold raiseStmt;refine Ab (Cf h (λv a k=>?_) λ_ _ x=>x);obtain⟨x,C,od,vs,sl,rfl,d,c,b,i,l⟩:=k;have e:BR (model prog w) a.heap (typeOf (.ref x)) (.ref C):=(BR.ld b).andThen .now;have g:BR (model prog w) a.heap (isInstance (.ref x) (.type "BaseException")) true:=e.andThen (PySem.W.looks_mroIn d c.sub);have f:BR (model prog w) a.heap (isType (.ref x)) false:=(BR.ld b).andThen .now;have n:BR (model prog w) a.heap (typeOf (.ref C)) (.type "type"):=PySem.W.looks_typeIn d c.ty;refine Ab (Ao ?_);refine Ab (BL ?_);unfold excFromValue isExcClass;refine Ab (Ab (f.here ?_));rw[if_neg Ez];refine Ao ?_;rw[if_neg Ez];refine Ab (g.here ?_);rw[if_pos Z];refine Ao ?_;refine Ab (f.here ?_);rw[if_neg Ez];refine Ab ?_;unfold raisedInstance;refine Ab (e.here (Ab (n.here ?_)));rw[if_pos (beq_self_eq_true _)];refine Ao ?_;refine Ab ?_;unfold setFlight;refine Ab (BS b Z i ?_);rw[if_neg Ez];exact Ao (wpAny_raiseNew_none j l)
def tRaise (K:Ae)(te:TE)(EX:L2.St->XK):TS:=λ_ σ H=>te σ H λv H1=>∃x C od,v=.ref x/\H1 x=some (exO x C od true)/\exHas H1 od/\XRaise K C/\EX σ (.ref x) od (upd H1 x (exO x C od false))
theorem qdu {X:Cx}{e:Expr}{d:TE}{pos:Pos}{f:L2.St->XK}(o:X.calm=true)(m:TakesAt X f)(g:PE X e d):PS X (.Raise (some e) none pos) (tRaise X.K d f):=by intro a s σ H D I h;rw[arm_exec_Raise];refine Ab (wpAny_standAt ?_);show wpAny _ _ (raiseStmt X.env (some (do let v <- eval e X.env;standAt pos;pure v)) none) _ _ _;refine qy5 (K:=X.K) (I.ok.hd o) (Ab (thn (g a s σ H _ I h) λv j ⟨u,i,b,r,x,C,od,n,ex,has,c,q⟩=>Ab (wpAny_standAt (Ao ?_))));subst n;obtain rfl:v=Ap x:=r;obtain⟨vs,sl,k,z6,l⟩:=qfi b.hok ex;obtain⟨rfl,t,rfl⟩:=l rfl;exact⟨x,C,od,_,_,Z,b.kIn,c,k,Z,m a σ i j x C od b (.inl ex) has q⟩
theorem qno:∀{b:List Addr}{its:List Value},Vals (b.map V.ref) its->its=b.map Ap
 | [],_,.nil=>rfl
 |D::b,_,.cons a r=>by have:=qno r;rw[A6,<- this];exact congrArg (· :: _) a
section
variable {X:Cx}
theorem qj0:qer X (.builtin "isinstance") (λxs H Q=>∃(x C a:Addr)(od:Option Addr)(fr:Bool)(c:List Addr)(b:Bool),xs=[.ref x,.ref a]/\H x=some (exO x C od fr)/\exHas H od/\XIs X.K C/\H a=some (.tup (c.map V.ref)) /\
  PySem.W.kitAny X.K (.ref C) (c.map Ap)=some b/\Q (.bl b) H):=by
 intro pins s σ H xs us Q I r h;obtain⟨x,C,a,od,fr,c,b,rfl,e,d,i,o,l,q⟩:=h;obtain⟨u,u',rfl,f,k⟩:=Vals.two r;cases f;cases k;obtain⟨vs,sl,g,_⟩:=qfi I.hok e;obtain⟨_,its,t,p⟩:=(show ObjOk X.prog X.w H s.heap a (.tup (c.map V.ref)) from I.hok a _ o);cases qno t;obtain⟨⟨oc,od',dt,sl'⟩,m,j,n,hd⟩:=p;cases j;cases hd;exact PySem.W.kia_tup (qps i) I.kIn (qsq g (exHas.at I.hok d)) m l (λz=>nomatch z) λtk=>⟨.bl b,H,I.tok tk,Z,q⟩
theorem qe4 {K:Ae}{t:Value}:∀{a:List Value},(a.map λc=>BI K t c)=a.map (λ_=>some false)->PySem.W.kitAny K t a=some false
 | [],_=>rfl
 |c::a,h=>by rw[A6,A6]at h;obtain⟨b,d⟩:=D5 h;unfold PySem.W.kitAny;rw[b];exact qe4 d
end
def tFmt (te:TE):TE:=λσ H Q=>te σ H λv H1=>(∃i:Int,v=.int i/\i.natAbs.log2<1920/\Q (.str (toString i)) H1) \/ ∃x:Str,v=.str x/\x.length<=A4/\Q (.str x) H1
noncomputable abbrev TJ:=Str->TE
def PJ (X:Cx)(es:List Expr)(t:TJ):Prop:=∀(acc:Str)(pins:List (Addr×Obj))(s:Af)(σ:L2.St)(H:Hp)(Q:VK),Inv X pins σ H s->t acc σ H Q->wpAny (model X.prog X.w) X.A (joinParts acc (evalEach es X.env)) (EP X pins σ Q) X.xe s
def tJ0:TJ:=λacc _ H Q=>acc.length<=A4/\Q (.str acc) H
def tJc (te:TE)(tj:TJ):TJ:=λacc σ H Q=>te σ H λv H1=>∃y:Str,v=.str y/\(acc++y).length<=A4/\tj (acc++y) σ H1 Q
section
variable {X:Cx}{e:Expr}{es:List Expr}{te:TE}{tj:TJ}{pos:Pos}
theorem qfz (d:PE X e te):PE X (.FormattedValue e (-1) none pos) (tFmt te):=by
 intro a s σ H Q I h;refine FormattedValue_plain (thn (d a s σ H _ I h) λu s1 ⟨v,b,c,r,q⟩=>?_);rcases q with ⟨i,rfl,hz,q⟩|⟨x,rfl,hz,q⟩
 .obtain⟨t,rfl⟩:=r;exact formatField_int_small hz ⟨.str (toString i),b,c.tok _,⟨_,Z⟩,q⟩
 .obtain⟨t,rfl⟩:=r;exact formatField_str (λt' tk=>⟨.str x,b,c.tok tk,⟨_,Z⟩,q⟩) hz
theorem qom:PJ X [] tJ0:=λa pins s σ H Q I h=>joinParts_nil ⟨.str a,H,I.tok _,⟨_,Z⟩,h.2⟩ h.1
theorem qbx (c:PE X e te)(j:PJ X es tj):PJ X (e::es) (tJc te tj):=λb a s σ H Q I h =>
 joinParts_cons (thn (c a s σ H _ I h) λu f ⟨v,d,i,r,y,g,hz,q⟩=>by subst g;obtain⟨t,rfl⟩:=r;exact⟨hz,j (b++y) a f σ d Q i q⟩)
def tFs (tj:TJ):TE:=λσ H Q=>tj CF σ H Q
theorem qsu {b:Expr}(c:PJ X (e::b::es) tj):PE X (.JoinedStr (e::b::es) pos) (tFs tj):=λa s σ H Q I h=>JoinedStr_many (c CF a s σ H Q I h)
end
open Builtin Builtin.Str
section
variable {X:Cx}
theorem qnp:∀(l:List (Str×Tok)),Vals (l.map λp=>V.str p.1) (strValues l)
 | []=>.nil
 |p::l=>.cons ⟨p.2,Z⟩ (qnp l)
theorem qin {a:List (Addr×Obj)}{s:Af}{σ:L2.St}{H:Hp}{Q:VK}{ys:List Str}(I:Inv X a σ H s)(k:Nat)(l:List (Str×Tok))(e:l.map (·.1)=ys)(z:ys.length<=A4)(q:∀p,H p=none->Q (.ref p) (upd H p (.lst (ys.map V.str)))) :
  EP X a σ Q (.ref s.heap.objs.size) {s with heap:=s.heap.push {cls:=.type "list",data:=.seq (strValues l).toArray},toks:=k}:=by
 have c:H s.heap.objs.size=none:=I.hok.fresh (A0 _);refine⟨.ref s.heap.objs.size,upd H s.heap.objs.size (.lst (ys.map V.str)),I.laid (t':=k) (λb u e=>Aj _ e) (A0 _) ?_,Z,q _ c⟩;refine⟨by rw[Ac];exact z,strValues l,0,?_,Aw _ Z⟩;rw[<- e,AV];exact qnp l
theorem qi5:MtR X "str.split" (λx vs H Q=>∃a y:Str,x=.str a/\vs=[.str y]/\(y.length == 0)=false/\a.length<=A4/\(BU a y).length<=A4/\(partsBetween a (occurrences a y 0 a.length (a.length+1)) y.length).length<=A4 /\
  ∀p,H p=none->Q (.ref p) (upd H p (.lst ((BU a y).map V.str)))):=by
 intro pins s σ H x vs v us Q I e i h;obtain⟨a,y,rfl,rfl,d,g,hz,f,q⟩:=h;obtain⟨t,rfl⟩:=e;obtain⟨u',rfl,u,rfl⟩:=i.one;cases b:(decide (a.length<y.length) || decide (strKind a<strKind y))
 .cases c:(occurrences a y 0 a.length (a.length+1)).isEmpty
  .refine Ei F.slot_str_split (typeIs_str _ _ _) F.entry_str_split (F.args_str_split_2 _ _) (meets_str_split_sep a y t u b d c g f) ?_;show wants _ _ _ {s with toks:=_,heap:=s.heap.push {cls:=.type "list",data:=.seq (strsFrom s.toks (partsBetween a (occurrences a y 0 a.length (a.length+1)) y.length)).toArray} };rw[strsFrom_eq];exact qin I _ _ ((numbered_texts _ _).trans ((if_neg (ne_true_of_eq_false b)).trans (if_neg (ne_true_of_eq_false c))).symm) hz q
  .exact Ei F.slot_str_split (typeIs_str _ _ _) F.entry_str_split (F.args_str_split_2 _ _) (meets_str_split_not_found a y t u b d c) (qin I s.toks [(a,t)] ((if_neg (ne_true_of_eq_false b)).trans (if_pos c)).symm hz q)
 .exact Ei F.slot_str_split (typeIs_str _ _ _) F.entry_str_split (F.args_str_split_2 _ _) (meets_str_split_cannot_occur a y t u b) (qin I s.toks [(a,t)] (if_pos b).symm hz q)
end
end Add
namespace Add
open PySem PySem.Spec PyProof.Rows L2
theorem qh6 {X:Cx}:qer X (.type "int") (λxs H Q=>∃(x:Str)(n:Int),xs=[.str x]/\PySem.intText? x=some n/\x.length<=640/\Q (.int n) H):=by intro pins s σ H xs us Q I r h;obtain⟨x,n,rfl,a,hl,q⟩:=h;obtain⟨u,rfl,t,rfl⟩:=qf5 r;exact PySem.W.KIN.call_text a hl ⟨.int n,H,I.tok _,⟨_,Z⟩,q⟩
section
variable {K:Ae}{C f:Addr}{m:Str}
noncomputable def qy6 (K:Ae)(C:Addr):Bool:=DE K C CF && CT K C && PySem.W.plainOver K C && (AW K (.ref C) "__setattr__" == some (some (.builtin "object.__setattr__")))
theorem qwg (h:qy6 K C=true):Cls K C:=by unfold qy6 at h;simp only[AD,beq_iff_eq]at h;obtain⟨⟨⟨b,c⟩,d⟩,a⟩:=h;exact⟨b,c,d,a⟩
noncomputable def mkB (K:Ae)(C f:Addr):Bool:=PySem.W.makesIn K C && (AW K (.ref C) "__init__" == some (some (.ref f))) && PySem.W.isFn K (.ref f) && Bq K (.ref C)
theorem mk_of (h:mkB K C f=true):Mk K C f:=by unfold mkB at h;simp only[AD,beq_iff_eq]at h;obtain⟨⟨⟨b,c⟩,d⟩,a⟩:=h;exact⟨b,c,d,a⟩
noncomputable def qls (K:Ae)(C:Addr)(m:Str)(f:Addr):Bool:=(AW K (.ref C) m == some (some (.ref f))) && PySem.W.isFn K (.ref f) && Bq K (.ref f)
theorem qi6 (h:qls K C m f=true):Meth K C m f:=by unfold qls at h;simp only[AD,beq_iff_eq]at h;obtain⟨⟨a,b⟩,c⟩:=h;exact⟨a,b,c⟩
end
open Builtin Builtin.Str
section
variable {X:Cx}
theorem qmy:MtR X "str.startswith" (λx vs H Q=>∃a y:Str,x=.str a/\vs=[.str y]/\Q (.bl (Txt.startswith a y)) H):=by intro pins s σ H x vs v us Q I b c h;obtain⟨a,y,rfl,rfl,q⟩:=h;obtain⟨t,rfl⟩:=b;obtain⟨u',rfl,u,rfl⟩:=c.one;exact SC.startswith ⟨.bl _,H,I,Z,q⟩
theorem qnq:∀{ys:List Str}{us:List Value},Vals (ys.map V.str) us->∃l:List (Str×Tok),strValues l=us/\l.map (·.1)=ys
 | [],us,r=>by cases r;exact⟨[],Z,Z⟩
 |y::ys,us,r=>by
  cases r with
  |cons h r =>obtain⟨t,rfl⟩:=h;obtain⟨l,a,b⟩:=qnq r;exact⟨(y,t)::l,by rw[<- a];rfl,by rw[<- b];rfl⟩
theorem qi7:MtR X "str.join" (λx vs H Q=>∃(a:Str)(p:Addr)(ys:List Str),x=.str a/\vs=[.ref p]/\SqL X.K H p (ys.map V.str)/\JoinOk a ys=true/\Q (.str (Txt.join a ys)) H):=by intro pins s σ H x vs v us Q I c f h;obtain⟨a,p,ys,rfl,rfl,e,g,q⟩:=h;obtain⟨t,rfl⟩:=c;obtain⟨u',rfl,d⟩:=f.one;cases d;obtain⟨its,r,pl,hz⟩:=I.list e;obtain⟨l,rfl,b⟩:=qnq r;exact SC.join pl.isList b g λt' k=>⟨.str _,H,I.tok _,⟨_,Z⟩,q⟩
end
end Add
namespace Add
open PySem PySem.Spec PyProof.Rows L2
open Builtin Builtin.Str
end Add
namespace Add
open PySem PySem.Spec PyProof.Rows L2
theorem qao {H H':Hp}{p:Addr}{o:HO}(s:Same H H')(n:H p=none):Same H (upd H' p o):=λb u e=>by rw[qp (qaf e n)];exact s _ _ e
theorem qt5 {K:Ae}{H H':Hp}{a:Addr}{xs:List V}(e:Same H H')(h:SqT K H a xs):SqT K H' a xs:=by
 rcases h with (h|h)|h
 .exact .inl (.inl (e _ _ h))
 .obtain⟨o,h⟩:=h;exact .inl (.inr ⟨o,e _ _ h⟩)
 .exact .inr h
end Add
namespace Wri
open PySem PySem.Spec PyProof.Rows PySem.W PySem.W.KIN PySem.NumText
theorem cut_eq (c:Nat):∀{a b r t:List Nat},c∉a->c∉b->a++c::r=b++c::t->a=b/\r=t
 | [],[],_,_,_,_,e=>⟨Z,(D5 e).2⟩
 | [],y::b,_,_,_,hb,e=>absurd (D5 e).1 λz=>hb (by rw[z];exact Am)
 |x::a,[],_,_,ha,_,e=>absurd (D5 e).1 λz=>ha (by rw[<- z];exact Am)
 |x::a,y::b,_,_,ha,hb,e=>by obtain⟨f,g⟩:=D5 e;obtain⟨h,d⟩:=cut_eq c (λz=>ha (Ar _ z)) (λz=>hb (Ar _ z)) g;exact⟨by rw[f,h],d⟩
noncomputable def jl (c:Nat):List (List Nat)->List Nat
 | []=>[]
 | [x]=>x
 |x::y::r=>x++c::jl c (y::r)
theorem qwh (c:Nat):∀{ps a:List (List Nat)},ps≠[]->a≠[]->(∀p∈ps,c∉p)->(∀q∈a,c∉q)->jl c ps=jl c a->ps=a
 | [],_,h,_,_,_,_=>absurd rfl h
 |_,[],_,h,_,_,_=>absurd rfl h
 | [x],[y],_,_,_,_,e=>by rw[show x=y from e]
 | [x],y::z::r,_,_,hp,_,e=>absurd (show c∈x by rw[show x=y++c::jl c (z::r) from e];simp) (hp x Am)
 |x::z::r,[y],_,_,_,hq,e=>absurd (show c∈y by rw[show y=x++c::jl c (z::r) from e.symm];simp) (hq y Am)
 |x::u::r,y::v::t,_,_,hp,hq,e=>by obtain⟨b,d⟩:=cut_eq c (hp x Am) (hq y Am) (show x++c::jl c (u::r)=y++c::jl c (v::t) from e);rw[b,qwh c (Dn _ _) (Dn _ _) (λp h=>hp p (Ar _ h)) (λp h=>hq p (Ar _ h)) d]
theorem qd2 (c:Nat):∀ps:List Str,(Str.join ⟨#[c]⟩ ps).cps.toList=jl c (ps.map λp=>p.cps.toList)
 | []=>rfl
 | [x]=>rfl
 |x::y::r=>by show (x++⟨#[c]⟩++Str.join ⟨#[c]⟩ (y::r)).cps.toList=_;rw[DB,DB,Array.toList_append,Array.toList_append,qd2 c (y::r),AE];rfl
theorem str_ext {x y:Str}(h:x.cps.toList=y.cps.toList):x=y:=by cases x;cases y;congr;exact Array.toList_inj.mp h
theorem qi8 (x:Str)(c:Nat):BU x ⟨#[c]⟩≠[]:=by
 unfold BU;split
 .exact Dn _ _
 .split
  .exact Dn _ _
  .intro h;have:=length_partsBetween x (AH.Str.occurrences x ⟨#[c]⟩ 0 x.length (x.length+1)) (⟨#[c]⟩:Str).length;rw[h]at this;cases this
theorem qlt (c:Nat){ps:List Str}(d:ps≠[])(h:∀p∈ps,c∉p.cps.toList):BU (Str.join ⟨#[c]⟩ ps) ⟨#[c]⟩=ps:=by
 have e:(BU (Str.join ⟨#[c]⟩ ps) ⟨#[c]⟩).map (λp=>p.cps.toList)=ps.map λp=>p.cps.toList:=by
  refine qwh c (λz=>qi8 _ c (List.map_eq_nil_iff.mp z)) (λz=>d (List.map_eq_nil_iff.mp z)) (λp b=>?_) (λp b=>?_) ?_
  .obtain⟨q,a,rfl⟩:=AS.mp b;exact StrLaws.split_free _ c q a
  .obtain⟨q,a,rfl⟩:=AS.mp b;exact h q a
  .rw[<- qd2,<- qd2,StrLaws.join_split]
 exact List.map_inj_right (λ_ _ z=>str_ext z) |>.mp e
theorem qy7 {l:List Nat}{n:Nat}(h:n∈l):n<=l.sum:=by
 induction l with
 |nil=>cases h
 |cons a l ih =>
  rw[DL];rcases An.mp h with rfl|h
  .lia
  .have:=ih h;lia
theorem qp1 (c:Nat):∀ps:List Str,ps≠[]->(ps.map (·.length)).sum+ps.length<=(Str.join ⟨#[c]⟩ ps).length+1
 | [],h=>absurd rfl h
 | [x],_=>by simp[Str.join]
 |x::y::r,_=>by have a:=qp1 c (y::r) (Dn _ _);show _<=(x++⟨#[c]⟩++Str.join ⟨#[c]⟩ (y::r)).length+1;rw[Str.length_append,Str.length_append];have:(⟨#[c]⟩:Str).length=1:=rfl;simp only[A6,DL,Au]at a |-;lia
theorem qj1 (x:Str)(c:Nat):(BU x ⟨#[c]⟩).length<=x.length+1/\∀p∈BU x ⟨#[c]⟩,p.length<=x.length:=by have h:=qp1 c (BU x ⟨#[c]⟩) (qi8 x c);rw[StrLaws.join_split]at h;refine⟨by lia,λp a=>?_⟩;have h2:=qy7 (AS.mpr ⟨p,a,Z⟩:p.length∈(BU x ⟨#[c]⟩).map (·.length));have h3:1<=(BU x ⟨#[c]⟩).length:=List.length_pos_iff.mpr (qi8 x c);lia
theorem qfv (x:Str)(c:Nat):(AH.Str.partsBetween x (AH.Str.occurrences x ⟨#[c]⟩ 0 x.length (x.length+1)) (⟨#[c]⟩:Str).length).length<=x.length+2:=by rw[length_partsBetween];have:=StrLaws.occ_length_le x ⟨#[c]⟩ 0 x.length (x.length+1);lia
noncomputable def fig (c:Nat):Bool:=decide (48<=c) && decide (c<=57)
noncomputable def nv (x:Str):Int:=((digitsVal x.cps.toList:Nat):Int)
noncomputable def plain (x:Str):Bool:=decide (x=Aa "0") || !decide (x.cps.toList.head?=some 48)
noncomputable def wn (x:Str):Bool:=(decide (1<=x.cps.size) && decide (x.cps.size<=60)) && (x.cps.toList.all fig && plain x)
theorem qy8 {x:Str}(h:x.cps.toList.all fig=true):AllDigits x.cps.toList:=λc a=>by have:=Be.mp h c a;unfold fig at this;simp only[AD,decide_eq_true_eq]at this;exact this
theorem qwi {x:Str}(h:x.cps.toList.all fig=true)(h1:1<=x.cps.size)(a:x.cps.size<=4300):PySem.intText? x=some (nv x):=by
 refine intText_digits (qy8 h) (λz=>?_) a;have:x.cps.toList.length=0:=by rw[z];rfl
 rw[A7]at this;lia
end Wri
namespace Add
open PySem PySem.Spec PyProof.Rows L2
inductive Tups (H:Hp):List V->List (List V)->Prop where
 |nil:Tups H [] []
 |cons {a:Addr} {r vs:List V} {rs:List (List V)} (h:H a=some (.tup r)) (t:Tups H vs rs):Tups H (.ref a::vs) (r::rs)
theorem Tups.same {H H':Hp}{vs:List V}{rs:List (List V)}(t:Tups H vs rs)(s:Same H H'):Tups H' vs rs:=by
 induction t with
 |nil=>exact .nil
 |cons h _ ih=>exact .cons (s _ _ h) ih
theorem Tups.length {H:Hp}{vs:List V}{rs:List (List V)}(t:Tups H vs rs):vs.length=rs.length:=by
 induction t with
 |nil=>rfl
 |cons _ _ ih=>rw[Au,Au,ih]
theorem Tups.get {H:Hp}{vs:List V}{rs:List (List V)}(t:Tups H vs rs):∀{i:Nat}{r:List V},rs[i]?=some r->∃a,vs[i]?=some (.ref a)/\H a=some (.tup r):=by
 induction t with
 |nil=>intro i r h;cases i <;>cases h
 |cons h _ ih =>
  intro i r' h';cases i with|zero=>cases h';exact⟨_,Z,h⟩|succ i=>exact ih (i:=i) h'
theorem Tups.get' {H:Hp}{vs:List V}{rs:List (List V)}(t:Tups H vs rs){i:Nat}{v:V}(h:vs[i]?=some v):∃a r,v=.ref a/\rs[i]?=some r/\H a=some (.tup r):=by
 have b:i<rs.length:=by rw[<- t.length];exact(Ah.mp h).1
 obtain⟨a,e,q⟩:=t.get (i:=i) (r:=rs[i]) (by simp[b]);rw[h]at e;cases e;exact⟨a,_,Z,by simp[b],q⟩
theorem Tups.app {H:Hp}{vs us:List V}{rs ts:List (List V)}(t:Tups H vs rs)(u:Tups H us ts):Tups H (vs++us) (rs++ts):=by
 induction t with
 |nil=>exact u
 |cons h _ ih=>exact .cons h ih
theorem Tups.snoc {H:Hp}{vs:List V}{rs:List (List V)}{a:Addr}{r:List V}(t:Tups H vs rs)(h:H a=some (.tup r)):Tups H (vs++[.ref a]) (rs++[r]):=t.app (.cons h .nil)
section
variable {X:Cx}
theorem qon {a:Addr}{u:Value}(r:RelV (.ref a) u):u=.ref a:=by cases r;rfl
theorem qsv {K:Ae}(h:X.K=K):IxR X (rIxT K):=by subst h;exact zt
theorem qwj {K:Ae}(h:X.K=K):IxR X (rIxL K):=by subst h;exact zu
end
end Add
namespace Lay
section
variable {W:Type}[DecidableEq W]
noncomputable abbrev Row (W:Type):=Int×Int×W
noncomputable def cnt (es:List Int)(d:Int):Nat:=(es.filter λe=>decide (e<d)).length
noncomputable abbrev ends (rs:List (Row W)):List Int:=rs.map λr=>r.2.1
noncomputable def left (rs:List (Row W))(f:Int):List (Row W):=rs.filterMap λr=>if r.1<f then some (r.1,min r.2.1 (f-1),r.2.2) else none
noncomputable def right (rs:List (Row W))(l:Int):List (Row W):=rs.filterMap λr=>if l<r.2.1 then some (max r.1 (l+1),r.2.1,r.2.2) else none
noncomputable def over (rs:List (Row W))(f l:Int)(w:W):List (Row W):=left rs f++(f,l,w)::right rs l
noncomputable def jn1 (told:List (Row W))(r:Row W):List (Row W):=match told.getLast? with
 |some t=>if t.2.2=r.2.2/\t.2.1+1=r.1 then told.dropLast++[(t.1,r.2.1,r.2.2)] else told++[r]
 |none=>told++[r]
def Nx (r s:Row W):Prop:=r.2.1<s.1/\(s.1=r.2.1+1->r.2.2≠s.2.2)
noncomputable def jn (rs:List (Row W)):List (Row W):=rs.foldl jn1 []
noncomputable def lay (rs:List (Row W)):List (Row W):=rs.foldl (λlaid r=>over laid r.1 r.2.1 r.2.2) []
noncomputable def ov (rs:List (Row W)):List (Row W):=jn (lay rs)
end
end Lay
namespace Srt
open PySem PySem.W PyProof.Rows
section
variable {n:Nat}{r:Nat->Nat->Bool}
noncomputable abbrev at' (p:Array Nat)(i:Nat):Nat:=p.getD i 0
end
end Srt
namespace Srt
open PySem PySem.W PySem.Calls PyProof.Rows
section
variable {prog:AK}{w:World}{A:AX}{E:Value->Af->Prop}{s:Af}
end
end Srt
namespace Add
open PySem PySem.Spec PyProof.Rows L2 Srt PySem.W
section
variable {X:Cx}{pins:List (Addr×Obj)}{σ:L2.St}{H:Hp}{s:Af}
end
end Add
namespace Mrg
noncomputable abbrev S2:=Int×Int
noncomputable def inB (rs:List S2)(d:Int):Bool:=rs.any λr=>decide (r.1<=d) && decide (d<=r.2)
noncomputable def mg1 (told:List S2)(r:S2):List S2:=match told.getLast? with
 |some t=>if r.1<=t.2+1 then told.dropLast++[(t.1,if r.2 > t.2 then r.2 else t.2)] else told++[r]
 |none=>told++[r]
noncomputable def mg (rs:List S2):List S2:=rs.foldl mg1 []
end Mrg
namespace Add
open PySem PySem.Spec PyProof.Rows L2
theorem qsw {X:Cx}{d:List (Addr×Obj)}{σ:L2.St}{H:Hp}{s:Af}{h':Heap}{t':Nat}{e it:Addr}(I:Inv X d σ H s)(k:∀b o,b≠e->b≠it->s.heap.get? b=some o->h'.get? b=some o)(h:qe2 X d H e)(g:qe2 X d H it) :
  Inv X d σ H {s with heap:=h',toks:=t'}:=by
 have j:∀b u,H b=some u->b≠e:=λb u q z=>by rw[z,h.1]at q;cases q
 have i:∀b u,H b=some u->b≠it:=λb u q z=>by rw[z,g.1]at q;cases q
 have out:∀b,b∉[e,it]->b≠e/\b≠it:=λb f=>⟨λz=>f (by simp[z]),λz=>f (by simp[z])⟩;refine I.step (g':=s.gens) (d':=s.drawn) (ch:=[e,it]) (λb f=>?_) (λb o _ _ a q _=>k b o (out b a).1 (out b a).2 q) (λb o _ _ a q _=>⟨o.slots,k b o (out b a).1 (out b a).2 q⟩) (λ_ _ _ _ n=>n)
  (λb o a q=>⟨o,k b o (out b a).1 (out b a).2 q⟩) (λ_ _ q=>q) (λ_ _ _ q=>q) (λb ps q=>⟨#[],by rw[q];simp⟩) (λm p=>?_) (λb u q=>?_) I.bare
 .rcases An.mp f with rfl|f
  .exact⟨h.2.2.2.1,h.2.1,h.2.2.2.2.1,h.2.2.2.2.2⟩
  .cases Ai.mp f;exact⟨g.2.2.2.1,g.2.1,g.2.2.2.2.1,g.2.2.2.2.2⟩
 .obtain⟨o,es,ep,l,r⟩:=p;exact⟨o,es,ep,k _ o (Ba h.2.1) (Ba g.2.1) l,r⟩
 .refine(I.hok b u q).stay (λc v a z=>k c v ?_ ?_ z) (λ_ z=>z) λ_ _ z=>z
  .rcases a with rfl|a
   .exact j _ u q
   .exact j c _ a
  .rcases a with rfl|a
   .exact i _ u q
   .exact i c _ a
noncomputable def Ite (K:Ae)(a:Addr):It :=
 ⟨λi H=>∃xs x,SqL K H a xs/\xs[i]?=some x,λi H x H'=>∀xs,SqL K H a xs->∃y t,xs[i]?=some y/\H t=none/\x=.ref t/\H'=upd H t (.tup [.int i,y]),λi H=>∃xs,SqL K H a xs/\xs.length<=i⟩
theorem qwk {X:Cx}{a:List (Addr×Obj)}{H:Hp}{b t:Addr}{o:HO}(f:qe2 X a H b)(c:b≠t):qe2 X a (L2.upd H t o) b:=⟨by rw[qp c];exact f.1,f.2⟩
theorem qt6 {P:AK}{w:World}{K:Ae}{es:List Expr}{kk pos}(a e it:Addr)(G:e≠it):Turn P w K (.Tuple es kk pos) (Ite K a) [e,it] e (λi h=>∃f,IsEnum h e it i f/\h.IsListIter it a i) where
 mem:=by simp
 obj:=λi h st b l=>by
  obtain⟨f,r,o,j,c,d⟩:=st;rcases An.mp l with rfl|l
  .exact⟨_,r,λv z=>by cases z⟩
  .cases Ai.mp l;exact⟨o,j,λv z=>by rw[d]at z;cases z⟩
 keep:=λi h h' st k=>by obtain⟨f,r,j⟩:=st;exact⟨f,k e (by simp) _ r,j.at λo q=>k it (by simp) o q⟩
 item:=by
  intro X M U J hc i R s σ H E I n st T;subst M U J;obtain⟨f,m,g⟩:=st;obtain⟨xs,x,B,S⟩:=T;obtain⟨its,V,p,hz⟩:=I.list B;obtain⟨u,hu,ru⟩:=V.get S;have D:=n e (by simp);have C:=n it (by simp);refine wpAny_pyNext_enum_item m g p.isList (x:=u) (by simpa using hu) G λr ho N ht hsz keep=>⟨_,Z,?_⟩;refine wpAny_letOwnedTupleGo_enum ho λj ac t=>?_
  replace t:Bf e r j:=t
  have y:e<s.heap.objs.size:=A1 m;obtain⟨oi,W,_⟩:=id g;have F:it<s.heap.objs.size:=A1 W;have aa:j.get? s.heap.objs.size=some {cls:=.type "tuple",data:=.seq #[.int i s.toks,u]}:=(t.2 _ (Cs y)).trans ht;have Y:H s.heap.objs.size=none:=I.hok.fresh (A0 _);have I1:=I.laid (a:=s.heap.objs.size) (o:=.tup [.int i,x]) (h':=s.heap.push {cls:=.type "tuple",data:=.seq #[.int i s.toks,u]}) (t':=s.toks) (λb o q=>Aj _ q) (A0 _) ⟨show 2<=A4 by rw[Bl];decide,[.int i s.toks,u],.cons ⟨_,Z⟩ (.cons ru .nil),⟨_,Aw _ Z,Z,_,Z⟩⟩;have I2:=qsw (h':=j) (t':=s.toks+1) I1 (λb o O L q=>by
   by_cases z:b=s.heap.objs.size
   .subst z;rw[Aw _ Z]at q;cases q;exact aa
   .rw[Heap.get?_push_ne _ _ _ z]at q;exact(t.2 b O).trans (keep b o O L q)) (qwk D (AG y)) (qwk C (AG F))
  refine⟨.ref s.heap.objs.size,_,I2,Z,λys hy=>?_,⟨u,ac,N.at λo q=>(t.2 it (Ba G)).trans q⟩,λb l=>?_⟩
  .rw[I.list_inj hy B];exact⟨x,_,S,Y,Z,Z⟩
  .rcases An.mp l with rfl|l
   .rw[qp (AG y)];exact D.1
   .cases Ai.mp l;rw[qp (AG F)];exact C.1
 done:=by intro X M U J hc i R s σ H E I n st T;subst M U J;obtain⟨f,m,g⟩:=st;obtain⟨xs,B,S⟩:=T;obtain⟨its,V,p,hz⟩:=I.list B;have hl:=V.length;have D:=n e (by simp);have C:=n it (by simp);exact wpAny_pyNext_enum_end (I.ok.hd hc) m g p.isList (by simp;lia) λh' eb=>⟨Z,qsw (t':=s.toks) I (λb o O L q=>eb b o L q) D C⟩
 self:=λA i s Q E st h=>by obtain⟨f,m,g⟩:=st;exact wpAny_pyIter_enum m h
def iEnum (K:Ae)(ta:TA):TI:=λσ H R=>ta σ H λvs H1=>∃a xs,vs=[.ref a]/\H1 a=some (.lst xs)/\R (Ite K a) H1
theorem qt7:bootBuiltins "enumerate"=some (.type "enumerate"):=En
theorem qsx {X:Cx}{es:List Expr}{y:_}{g:Pos}{a:Expr}{o:TA}{p pos:Pos}(B:Gl X "enumerate")(A:X.mg "enumerate"=none)(v:PA X [a] o)(r:starEach [a] X.env=[(false,eval a X.env)]:=by rfl):PI X (.Tuple es y g) (.Call (.Name "enumerate" p) [a] [] pos) (iEnum X.K o):=by
 intro f s σ H R I h;refine Call_ (qez I B A qt7 (Br (thn (v pos f s σ H _ I h) λus d ⟨vs,k,c,t,C⟩=>?_) r Z));obtain⟨l,xs,e,hl,q⟩:=C;subst e;obtain⟨u,rfl,x⟩:=qf5 t;cases qon x;obtain⟨z,its,n,rv,hz,e⟩:=c.lstM hl;refine call_enumerate_1 e λh' j m hsz keep=>wpAny_pyIter_enum j ?_;have w:Inv X f σ k {d with heap:=h'}:=c.kept (t':=d.toks) keep;refine⟨d.heap.objs.size+1,[d.heap.objs.size+1,d.heap.objs.size],_,_,k,Z,w,qt6 l _ _ (Cs (Cc _)),⟨.none,j,m⟩,λb i=>?_,q⟩;rcases An.mp i with rfl|i
 .exact c.fpOk (Cp _) (c.hok.fresh (Cp _))
 .cases Ai.mp i;exact c.fpOk (A0 _) (c.hok.fresh (A0 _))
theorem qp2 {K:Ae}{a:Addr}{xs:List V}{g:TG}{h:TS}{D:Ends}{σ:L2.St}{H:Hp}(b:Nat->L2.St->Hp->Prop)(o:b 0 σ H)(hl:∀i σ H,i<=xs.length->b i σ H->SqL K H a xs)
  (j:∀i x t σ H,xs[i]?=some x->b i σ H->H t=none->g (.ref t) σ (upd H t (.tup [.int i,x])) λσ2 d=>h {D with nx:=b (i+1),ct:=b (i+1),bk:=D.nx} σ2 d)(hd:∀σ H,b xs.length σ H->D.nx σ H) :
  ∃W:Nat->Nat->L2.St->Hp->Prop,(∃m,W 0 m σ H)/\∀i m σ H,W i m σ H ->
   ((Ite K a).stop i H/\D.nx σ H)\/((Ite K a).go i H/\∃N:L2.St->Hp->Prop,(∀σ' H',N σ' H'->∃m',m'<m/\W (i+1) m' σ' H')/\∀x H',(Ite K a).yld i H x H'->g x σ H' λσ2 d=>h {D with nx:=N,ct:=N,bk:=D.nx} σ2 d):=by
 refine⟨λi m σ H=>m=xs.length-i/\i<=xs.length/\b i σ H,⟨xs.length,by simp,B7 _,o⟩,?_⟩
 rintro i m σ H ⟨rfl,q,p⟩
 have f:=hl i σ H q p
 by_cases c:i<xs.length
 .have ex:xs[i]?=some xs[i]:=by simp[c]
  refine .inr ⟨⟨xs,xs[i],f,ex⟩,b (i+1),λσ' H' n=>⟨xs.length-(i+1),by lia,Z,c,n⟩,λx H' r=>?_⟩;obtain⟨y,t,k,l,rfl,rfl⟩:=r xs f;exact j i y t σ H k p l
 .have e:i=xs.length:=by lia
  subst e;exact .inl ⟨⟨xs,f,A0 _⟩,hd σ H p⟩
end Add
namespace Add
open PySem PySem.Spec PyProof.Rows L2
section
variable {X:Cx}
theorem qwl (bs:List Bool):((B4 bs.length).any λj=>(bs[j]?).getD true)=bs.any λb=>b:=by
 rw[C6,Ej,Ej];constructor
 .rintro⟨j,a,e⟩;have c:j<bs.length:=by simpa using a
  rw[Al c]at e;exact⟨bs[j],By c,e⟩
 .rintro⟨b,d,e⟩;obtain⟨j,a,rfl⟩:=List.getElem_of_mem d;exact⟨j,by simpa using a,by rw[Al a];exact e⟩
theorem qt8 (m:X.calm=true):qer X (.builtin "any") (λxs H Q=>∃(p:Addr)(bs:List Bool),xs=[V.ref p]/\SqL X.K H p (bs.map V.bl)/\Q (.bl (bs.any λb=>b)) H):=by
 intro pins s σ H xs us Q I r h;obtain⟨p,bs,rfl,w,q⟩:=h;obtain⟨u,rfl,d⟩:=Vals.one r;cases d;obtain⟨its,k,pl,hz⟩:=I.list w;have hl:=k.length;rw[Ac]at hl;have g:p≠s.heap.objs.size:=by obtain⟨o,n,_⟩:=pl.isList;exact AG (A1 n)
 refine call_any_walk (D6 pl.isList ⟨s.heap.objs.size,_,_,its.toArray.size,_,_,λj=>(bs[j]?).getD true,Z,Walks.list (show X.A.in1.handled=none from I.ok.hd m) _ p g its.toArray,
  ⟨⟨_,Aw _ Z,Z,Z⟩,pl.isList.at λo e=>Aj _ e⟩,?_,λh' tk hk=>?_⟩)
 .intro i v s' Q' E' y c;have a:its[i]?=some v:=by simpa using y
  cases e:bs[i]? with
  |none =>
   exfalso;have l:its.length<=i:=by rw[<- hl];exact BF.mp e
   rw[BF.mpr l]at a;cases a
  |some b =>obtain⟨u,f,d⟩:=k.get (i:=i) (x:=.bl b) (by rw[Ak,e];rfl);rw[a]at f;cases f;cases (show v=Value.bool b from d);dsimp only at c;rw[e]at c;exact BQ c
 .refine⟨.bl _,H,I.kept (t':=tk) λb o e=>hk b o (λz=>?_) (Aj _ e),Z,?_⟩
  .have t:b=s.heap.objs.size:=by simpa using z
   exact absurd (A1 e) (by rw[t];exact BJ _)
  .have e:its.toArray.size=bs.length:=by rw[Ax,hl]
   rw[e,qwl];exact q
theorem qwm {K:Ae}{n:Nat}{t:TGs}(d:∀xs σ' H' R b,(∀σ3 H3,R σ3 H3->b σ3 H3)->t xs σ' H' R->t xs σ' H' b)(x:V)(σ':L2.St)(H':Hp)(R b:L2.St->Hp->Prop)(h:∀σ3 H3,R σ3 H3->b σ3 H3)(z:qto K n t x σ' H' R):qto K n t x σ' H' b:=by obtain⟨a,xs,e,c,hl,z⟩:=z;exact⟨a,xs,e,c,hl,d _ _ _ _ _ h z⟩
end
structure FunD (K:Ae)(x qual:Str)(st:Stmt)(f:Addr)(fd:AA):Prop where
 ex:∃(oc dV kV doc pm cdv ct:Value)(od an:Option Addr)(osl:Array (Option Value)),
  fd=BB x qual (qce st) (qbw st) (qab st) dV kV doc pm an cdv ct/\K.lookup f=some ⟨oc,od,.func fd,osl⟩/\Co K cdv qual=true
 kp:Bq K (.ref f)=true
section
variable {P:AK}{w:World}{K:Ae}{mg:Str->Option Value}{base:Heap}
theorem FunD.ok {x a:Str}{st:Stmt}{f:Addr}{e:AA}{N ps:List Str}{k:Nat}{sp:Sp}(F:FunD K x a st f e)(S:FnScope N ps (qab st))(len:∀vs H Q E,sp vs H Q E->vs.length=ps.length)
  (c:∀(b:Value)(A:AX)(outer:List Env)(s:Af)(H:Hp)(vs:List V)(Q:VK)(E:XK),Room k (A.deeper (envOfC a (qab st) s.heap.objs.size f b))->sp vs H Q E ->
   ∃t,PSs (qoc CX0 P w K mg base N a (qab st) f b A outer s H E).nox (qbw st) t/\t {nx:=λ_ H'=>Q .non H',rt:=Q} (qg0 N vs) H):FnOk P w K mg base CX0 (k+1) f e ps sp:=by
 obtain⟨oc,dV,kV,doc,pm,b,ct,od,an,osl,rfl,j,d⟩:=F.ex
 refine qvn j d S len λA outer s H vs Q E i g=>?_
 obtain⟨t,h,q⟩:=c b A outer s H vs Q E i g
 exact⟨t,h.nox,q⟩
theorem qy9 {x a:Str}{st:Stmt}{f:Addr}{j:Value}{od h:Option Addr}{e:Array (Option Value)}{i kV d g b ct:Value}(l:K.lookup f=some ⟨j,od,.func (BB x a (qce st) (qbw st) (qab st) i kV d g h b ct),e⟩)
  (c:Co K b a=true)(k:Bq K (.ref f)=true):FunD K x a st f (BB x a (qce st) (qbw st) (qab st) i kV d g h b ct):=⟨⟨j,i,kV,d,g,b,ct,od,h,e,Z,l,c⟩,k⟩
theorem qwn {a:AA}{ps:List Str}{ds:List Value}(h:∀us:List Value,(us++ds).length=ps.length->∀S,PySem.W.peek K S (bindArgs a ⟨us,[]⟩)=some (ps.zip (us++ds))):Binds K a ps ds:=λs us X hl=>PySem.W.kp_binds X (h us hl)
end
structure MethD (K:Ae)(x qual:Str)(st:Stmt)(ps:List Str)(f:Addr)(fd:AA):Prop where
 fn:FunD K x qual st f fd
 bd:Binds K fd ps []
 ty:Ct K (.ref f)=some (.type "function")
section
variable {X:Cx}{a b c d:Expr}{ta tb tc td:TE}{pos:Pos}
end
theorem qsy {X:Cx}{K:Ae}(b:X.K=K){es:List Expr}{a:_}{pos:Pos}{t:TGs}{n:Nat}(d:X.calm=true)(h:PGs X es t)
  (c:(assignEach es X.env).length=n:=by rfl)(hst:(assignEach es X.env).findIdx? (·.1)=none:=by rfl):PG X (.Tuple es a pos) (qto K n t):=by
 subst b;exact qle d h c hst
end Add
namespace Tab
open Mrg Lay
noncomputable def fy (wk:List Int)(yr:List S2)(i:Int):Bool:=wk.contains (i % 7+1) || inB yr i
structure OkW (wk:List Int):Prop where
 len:wk.length<=6
 nd:wk.Nodup
 rng:∀x∈wk,1<=x/\x<=7
end Tab
namespace Add
open PySem PySem.Spec PyProof.Rows L2
section
variable {X:Cx}{tg:Expr}
end
end Add
namespace Rev
open PySem PyProof.Rows
set_option maxRecDepth 100000
theorem no_len:typeLookup (.type "list_reverseiterator") "__len__"=pure none:=by rw[DM,CL];kernel_rfl
theorem qwo:typeLookup (.type "list_reverseiterator") "__length_hint__"=pure (some (.builtin "list_reverseiterator.__length_hint__")):=by rw[DM,CL];kernel_rfl
section
variable {prog:AK}{w:World}{A:AX}{s:Af}{R:Result->Af->Prop}{E:Value->Af->Prop}
variable {I:Addr}{fp wr:List Addr}{G:Array GenState->Array GenState->Prop}{n:Nat}{P:Nat->Value->Prop}{St:Nat->Af->Prop}
theorem qza {x:Value}{Q:Bool->Af->Prop}(c:s.TypeIs x "list_reverseiterator")(h:Q false s):wpAny (model prog w) A (AH.List.listLengthHint x) Q E s:=by
 unfold AH.List.listLengthHint;refine Ab (wpAny_specialOf c no_len ?_);show wpAny _ A (specialOf x (Aa "__length_hint__") >>= _) _ _ _;refine Ab (wpAny_specialOf c qwo ?_);generalize a:("list_reverseiterator.__length_hint__" : String)=id0
 wp_delta
 rw[show splitId id0=some ("list_reverseiterator","__length_hint__") from by subst a;decide +kernel];subst a;refine Ab (wpAny_isInstance (b:=true) c (by rw[isSubtype_type];kernel_rfl) ?_);exact Ao h
theorem qt9 (W:WalksS prog w A.in1 I fp wr G n P St)(l:∀i s,St i s->s.TypeIs (.ref I) "list_reverseiterator")(S:Addr)(res:Value)(u:Nat)(c:St 0 s)(g:S∉fp)(q:I∈fp)
  (v:s.heap.get? S=some {cls:=.type "list",data:=.seq #[] u})
  (hR:∀a b d,Moved (S::wr) G s a->a.heap.get? S=some {cls:=.type "list",dict:=none,data:=.seq b d,slots:=#[]}->ItemsOf P b n->R (.ok (.ret res)) a)(hn:n<=A4) :
  wpAny (model prog w) A.in1 (AH.List.listExtendWith (.ref S) (.ref I) res)
   (λk a=>match k with | .done f=>R (.ok f) a | .again d=>d.quiet=true/\codeAny (model prog w) A d R a) (λe a=>R (.error e) a) s:=by
 have m:S≠I:=λe=>g (e ▸ q)
 unfold AH.List.listExtendWith
 refine Ab (wpAny_typeOf (l 0 _ c) ?_)
 have p:AH.List.listSameRef (.ref S) (.ref I)=false:=by simp[AH.List.listSameRef,m]
 have o:(BV "list_reverseiterator" == BV "list")=false:=by decide
 have r:(BV "list_reverseiterator" == BV "tuple")=false:=by decide
 simp only[p,o,r,Bool.or_false,Dt,if_false]
 refine Ab (W.self 0 _ _ _ c ?_)
 refine Ab (BL (qza (l 0 _ c) ?_))
 rw[if_neg Ez]
 exact Ao ⟨plainId_quiet F.plain_extend_loop _,codeAny_extend_loopS W hn _ g _ n 0 _ _ _ Z (B7 _) c v (ItemsOf.nil P) λa b d t j h=>hR a b d t j h⟩
theorem qzb (W:WalksS prog w A.in1 I fp wr G n P St)(x:∀i s,St i s->s.TypeIs (.ref I) "list_reverseiterator")(S:Addr)(u:St 0 s)(j:S∉fp)(v:I∈fp)
  (m:s.heap.get? S=some {cls:=.type "list",data:=.seq #[]})
  (hR:∀a c d,Moved (S::wr) G s a->a.heap.get? S=some {cls:=.type "list",dict:=none,data:=.seq c d,slots:=#[]}->ItemsOf P c n->R (.ok (.ret .none)) a)(hn:n<=A4) :
  wpAny (model prog w) A.in1 (AH.«list.__init__» ⟨[.ref S,.ref I],[]⟩)
   (λt a=>match t with | .done f=>R (.ok f) a | .again d=>d.quiet=true/\codeAny (model prog w) A d R a) (λe a=>R (.error e) a) s:=by
 show wpAny _ A.in1 (AH.List.listItems (.ref S) >>= λr=>AH.List.listUpdate (.ref S) (λ_=>#[]) >>= λ_=>letGo r.toList.reverse >>= λ_=>AH.List.listExtendWith (.ref S) (.ref I) .none) _ _ s
 refine Ab ?_
 unfold AH.List.listItems
 refine Ab (Ci m Z (Ao ?_))
 refine Ab (wpAny_updateSeq m Z ?_)
 have q:=Bg (CI (λ_=>(#[]:Array Value))) m rfl
 have k:∀b o,b≠S->s.heap.get? b=some o->(s.heap.update S (CI (λ_=>(#[]:Array Value)))).get? b=some o:=λb o g e=>(Bv _ _ (Ba g)).trans e
 refine Ab (wpAny_letGo ?_)
 refine qt9 W x S .none _ (W.frame 0 s _ s.toks u (A0 _) λb g o e=>k b o (λh=>j (h ▸ g)) e) j v q (λa c d y p l=>?_) hn
 exact hR a c d (Moved.trans W.gtrans ((Moved.refl W.grefl).then_heap (A0 _) λb o g e=>k b o (λh=>g (h ▸ Am)) e) y) p l
theorem list_ok {Q:Value->Af->Prop}(W:WalksS prog w A.in1.in1 I fp wr G n P St)(t:∀i s,St i s->s.TypeIs (.ref I) "list_reverseiterator")(l:St 0 s)(j:∀b∈fp,b<s.heap.objs.size)(r:I∈fp)
  (q:∀c a f,Moved (s.heap.objs.size::wr) G {s with heap:=s.heap.push {cls:=.type "list",data:=.seq #[]} } c ->
   c.heap.get? s.heap.objs.size=some {cls:=.type "list",dict:=none,data:=.seq a f,slots:=#[]}->ItemsOf P a n->Q (.ref s.heap.objs.size) c) (hn:n<=A4) :
  wpAny (model prog w) A (call (.type "list") [.ref I]) Q E s:=by
 have k:s.heap.objs.size∉fp:=λg=>BJ _ (j _ g);refine callType_codes (Q₁:=λobj m=>obj=.ref s.heap.objs.size/\m={s with heap:=s.heap.push {cls:=.type "list",data:=.seq #[]} }) F.called_list (F.typeCall_list_1 _) F.entry_list_init (code_list_new _ ⟨Z,Z⟩) λobj m u=>?_;obtain⟨rfl,rfl⟩:=u;have p:(s.heap.push {cls:=.type "list",data:=.seq #[]}).get? s.heap.objs.size=some {cls:=.type "list",data:=.seq #[]}:=Aw _ rfl;exact⟨⟨_,p,Z⟩,F.args_list_init_2 _ _,qzb W t _ (W.frame 0 s _ s.toks l (A0 _) λb _ o e=>Aj _ e) k r p (λc a f g h d=>⟨Z,q c a f g h d⟩) hn⟩
end
end Rev
namespace Add
open PySem PySem.Spec PyProof.Rows L2
theorem qmz:bootBuiltins "reversed"=some (.type "reversed"):=En
theorem qua {xs:List V}{us:List Value}{x:V}{u:Value}(h:Vals xs us)(r:RelV x u):Vals (xs++[x]) (us++[u]):=by
 induction h with
 |nil=>exact .cons r .nil
 |cons r' _ ih=>exact .cons r' ih
theorem qwp {xs:List V}{us:List Value}(h:Vals xs us):Vals xs.reverse us.reverse:=by
 induction h with
 |nil=>exact .nil
 |cons r _ ih=>rw[List.reverse_cons,List.reverse_cons];exact qua ih r
theorem qub {its:List Value}{a:Array Value}(h:ItemsOf (λi v=>its.toArray[its.toArray.size-1-i]?=some v) a its.toArray.size):a=its.reverse.toArray:=by
 obtain⟨d,f⟩:=h;have e:a.toList=its.reverse:=by
  refine Bz λi=>?_;have hs:a.size=its.length:=by rw[d];simp
  by_cases c:i<its.length
  .have g:i<a.size:=by lia
   have b:a[i]?=some a[i]:=BG g;have:=f i _ b;rw[C0,b,<- this,Eg c];simp
  .rw[Bh (by rw[A7];lia),Bh (by rw[Dh];lia)]
 rw[<- e]
section
variable {X:Cx}
def tLR (K:Ae)(t:TA):TE:=λσ H Q=>t σ H λvs H1=>∃l ys,vs=[.ref l]/\SqL K H1 l ys/\∀q,H1 q=none->Q (.ref q) (upd H1 q (.lst ys.reverse))
theorem qlu {e:Expr}{t:TA}{p D pos c:Pos}(J:X.calm=true)(G:Gl X "list")(y:X.mg "list"=none)(x:Gl X "reversed")(B:X.mg "reversed"=none)(F:bootBuiltins "list"=some (.type "list"))(P:PA X [e] t)
  (L:starEach [e] X.env=(false,eval e X.env)::starEach [] X.env:=by rfl):PE X (.Call (.Name "list" p) [.Call (.Name "reversed" D) [e] [] c] [] pos) (tLR X.K t):=by
 intro r s σ H Q I h;refine B9 (qez I G y F ?_);refine Br ?_ rfl rfl;show wpAny _ _ (spliced ((false,eval (.Call (.Name "reversed" D) [e] [] c) X.env)::[])) _ _ s;refine Dq ?_;refine B9 (qez I x B qmz ?_);refine Br (thn (P c r s σ H _ I h) λus a ⟨vs,M,v,N,Y⟩=>?_) L rfl;obtain⟨l,ys,rfl,O,q⟩:=Y;obtain⟨u,rfl,R⟩:=qf5 N;cases R;obtain⟨its,r',pl,hz⟩:=v.list O;refine call_reversed_list pl.isList (D7 ?_);have m:=pl.isList;have k:l<a.heap.objs.size:=by obtain⟨o,V,_⟩:=m;exact A1 V
 have U:X.A.handled=none:=I.ok.hd J;have W:=(Walks.listRev (prog:=X.prog) (w:=X.w) (A:=X.A.in1.in1) U a.heap.objs.size l (AG k) its.toArray).toS;refine Rev.list_ok W (λi s st=>st.2.1.typeIs) ⟨B7 _,?_,m.at λo e=>Aj _ e⟩ (λb f=>?_) (by simp) (λd acc' T g j n=>?_) ?_
 .refine⟨_,Aw _ Z,Z,?_⟩;rw[show ((its.toArray.size:Nat):Int)-1-((0:Nat):Int)=(its.toArray.size:Int)-1 by lia];rfl
 .show b<(a.heap.push _).objs.size;rw[Bx];rcases An.mp f with z|z
  .rw[z];exact Cc _
  .rw[Ai.mp z];exact Cu k
 .have sz:(a.heap.push (revObj l ((its.toArray.size:Int)-1))).objs.size=a.heap.objs.size+1:=Bx _ _;have S:∀b o,a.heap.get? b=some o->d.heap.get? b=some o:=λb o e=>by
   have f:=A1 e;refine g.heap b o (λz=>?_) (Aj _ (Aj _ e));rcases An.mp z with z|z
   .rw[z]at f;exact absurd f (by show ¬((a.heap.push (revObj l ((its.toArray.size:Int)-1))).objs.size<a.heap.objs.size);rw[sz];exact Nat.not_lt_of_le (Cp _))
   .rw[Ai.mp z]at f;exact BJ _ f
  have es:d={a with heap:=d.heap,toks:=d.toks}:=by
   have g1:=g.gens;have g2:=g.drawn;have g3:=g.os;cases d;cases a
   simp_all
  have le:a.heap.objs.size<=(a.heap.push (revObj l ((its.toArray.size:Int)-1))).objs.size:=by rw[sz];exact Cp _
  rw[qub n]at j;have C:ObjOk X.prog X.w (upd M (a.heap.push (revObj l ((its.toArray.size:Int)-1))).objs.size (.lst ys.reverse)) d.heap (a.heap.push (revObj l ((its.toArray.size:Int)-1))).objs.size (.lst ys.reverse) :=
   ⟨by rw[Dh];exact hz,its.reverse,T,qwp r',j⟩
  have E:=v.laid (t':=d.toks) S le C;rw[<- es]at E;exact⟨.ref _,_,E,Z,q _ (v.hok.fresh le)⟩
 .have:=r'.length;simp only[Ax];lia
end
end Add
namespace Lay
end Lay
namespace Add
open PySem PySem.Spec PyProof.Rows L2
end Add
namespace Add
open PySem PySem.Spec PyProof.Rows L2
section
variable {X:Cx}{CX:CXT}{k:Nat}{f C:Addr}{fd:AA}{ps ks:List Str}{sp:Sp}{E:XK}{x:Str}{p pos:Pos}{e:Expr}{es:List Expr}{kws:List Keyword}{t tk:TA}{g:List Value->List Value->List Value}{gV:List V->List V->List V}
end
noncomputable def g21 {α:Type}(n:α):List α->List α->List α
 | [a,b],[c]=>[a,b,n,c]
 |_,_=>[]
section
variable {X:Cx}
theorem qwq (n:Nat):(B4 n).all (λ_=>true)=true:=by simp
end
section
variable {X:Cx}
noncomputable def ipL:TIp:=λx y H Q=>∃l b xs zs,x=.ref l/\y=.ref b/\H l=some (.lst xs)/\H b=some (.lst zs)/\xs.length+zs.length<=A4/\Q (.ref l) (upd H l (.lst (xs++zs)))
theorem qkx:fillsInplaceSlot (.type "list") "add" (Operator.Add == .Add)=pure false:=by unfold fillsInplaceSlot;show (typeLookup (.type "list") (dunderI "add") >>= λa=>pure (a.isSome && !isSeqSlot a))=pure false;rw[F.slot_list_iadd.lookup];rfl
theorem qm0:seqSlot? (.type "list") (dunderI "add")=pure (some (.builtin "list.__iadd__")):=PySem.seqSlot_of F.slot_list_iadd.lookup En
theorem qio:PIp X .Add ipL:=by
 intro pins s σ H x y v u Q I k p h;obtain⟨l,b,xs,zs,rfl,rfl,f,i,hz,q⟩:=h;cases k;cases p;obtain⟨z,its,n,r,hl,e⟩:=I.lstM f;obtain⟨z2,a,j,o,hl2,g⟩:=I.lstM i;have hsz:its.toArray.size+a.toArray.size<=A4:=by rw[Ax,Ax];lia
 have c:¬(!its.toArray.isEmpty && AH.List.listTooLong (its.toArray.size+a.toArray.size))=true:=by rw[qpj hsz,Dm];exact AF
 unfold inplaceOp;refine BL ?_;have d:s.TypeIs (.ref l) "list" := ⟨_,e,Z⟩;have m:s.TypeIs (.ref b) "list" := ⟨_,g,Z⟩;refine Ab (wpAny_typeOf d (Ab (wpAny_of_eq qkx ?_)));show wpAny _ _ (if false=true then _ else _) _ _ s;rw[if_neg AF];refine Ab (wpAny_binaryOp1_none (nm := "add") d m noFill_list_add ?_);refine Ab (wpAny_of_eq qm0 ?_);refine Ab (wpAny_rule ?_);refine Ei F.slot_list_iadd d F.entry_list_iadd (F.args_list_iadd_2 _ _)
  (AutoSeq1.list___iadd___list_list_0 l its.toArray n b a.toArray j c (by rw[Ax];lia) (by lia)) ⟨e,g,?_⟩
 refine⟨.ref l,_,I.lset (its':=its++a) f e (by simp) (r.append o) ?_,Z,q⟩;rw[Ag];lia
theorem qnr {α β:Type}{F:α->β->Prop}:∀{l:List α}{m:List β},l.length=m.length->(∀(j:Nat)(x:α)(u:β),l[j]?=some x->m[j]?=some u->F x u)->DO F l m
 | [],[],_,_=>.nil
 |x::l,u::m,h,f=>.cons (f 0 x u Z Z) (qnr (Du h) λj y v a b=>f (j+1) y v a b)
theorem is_kV {P:AK}{w:World}{k:Key}{u:Value}(h:(qbv P w).is k u=true):RelV (kV k) u:=by
 cases k with|inl i=>exact Value.isInt_shape h|inr x=>exact DI h
theorem qri (A:X.calm=true):qer X (.type "list") (λxs H Q=>∃(d:Addr)(kvs:List (Key×V)),xs=[.ref d]/\H d=some (.dK kvs)/\∀l,H l=none->Q (.ref l) (upd H l (.lst (kvs.map λa=>kV a.1)))):=by
 intro pins s σ H xs us Q I r h;obtain⟨d,kvs,rfl,hd,q⟩:=h;obtain⟨u,rfl,o⟩:=qf5 r;cases o;obtain⟨z,lo,vs,a,B⟩:=qpn I.hok hd;obtain⟨ep,m⟩:=B.dictAt;refine PySem.W.kdl_call (PySem.W.kdl_dict (knd:=qbv X.prog X.w) (kvs:=vs) (ep:=ep) lo) (I.ok.hd A) m (by rw[<- a.length];exact z) λh' tk b c t e n=>?_;have D:Vals (kvs.map λa=>kV a.1) b.toList:=by
  have hl:(kvs.map λa=>kV a.1).length=b.toList.length:=(Ac _).trans (a.length.trans (n.1.symm.trans A7.symm));refine qnr hl λj x u f v=>?_;obtain⟨k,y,hk,C⟩:=n.2 j u (by rw[<- C0];exact v);rw[Ak]at f;have g:=congrArg (·[j]?) a.keys;simp only[Ak,hk,CP]at g;cases i:kvs[j]? with|none=>rw[i]at f;cases f|some p =>rw[i]at f g;cases f;cases A9 g;exact is_kV C
 exact⟨.ref s.heap.objs.size,_,I.laid (t':=tk) t (A0 _) (show ObjOk X.prog X.w _ h' _ (.lst (kvs.map λa=>kV a.1)) from ⟨by rw[Ac];exact z,b.toList,c,D,by simpa using e⟩),Z,q _ (I.hok.fresh (A0 _))⟩
end
def KeepN (H H':Hp):Prop:=∀b o,(∀l,o ≠ .lst l)->H b=some o->H' b=some o
theorem KeepN.of {H H':Hp}(s:Same H H'):KeepN H H':=λb o _ e=>s b o e
section
variable {X:Cx}{CX:CXT}{ι:Type}{k:ι->Nat}{f C:ι->Addr}{fd:ι->AA}{ps:ι->List Str}{sp:ι->Sp}{dvs:List V}{ds:List Value}{E:XK}{m:Str}{pos apos:Pos}{e o:Expr}{es:List Expr}{ta:TE}{t:TA}
end
section
variable {X:Cx}
end
section
variable {K:Ae}{C:Addr}
end
section
variable {X:Cx}{tg:Expr}
end
section
variable {X:Cx}
theorem qi9:∀{ss:List Str}{its:List Value},Vals (ss.map V.str) its->StrsAre its ss
 | [],_,.nil=>.nil
 |y::ss,_,.cons a r=>by obtain⟨t,rfl⟩:=a;exact .cons y t (qi9 r)
theorem qp3:∀{ss:List Str}{its:List Value},StrsAre its ss->Vals (ss.map V.str) its
 | [],_,.nil=>.nil
 |_::_,_,.cons y t h=>.cons ⟨t,Z⟩ (qp3 h)
theorem qsz:OpR X (compareOp .IsNot) (λx y H Q=>∃b c:Bool,x=.bl b/\y=.bl c/\Q (.bl (b != c)) H):=by intro pins s σ H x y v u Q I a d h;obtain⟨b,c,rfl,rfl,q⟩:=h;cases a;cases d;exact PyProof.Rows.isnot_bool ⟨.bl (b != c),H,I,Z,q⟩
end
section
variable {X:Cx}
noncomputable def rIndexS:V->List V->Hp->VK->Prop:=λx vs H Q=>∃(l:Addr)(ss:List Str)(k:Str)(j:Nat),x=.ref l/\vs=[.str k]/\H l=some (.lst (ss.map V.str))/\ss[j]?=some k/\(∀m,m<j->ss[m]? ≠ some k)/\Q (.int (j:Int)) H
theorem are_at {its:List Value}{ss:List Str}(r:StrsAre its ss):∀{m:Nat}{z:Str},ss[m]?=some z->∃t,its[m]?=some (.str z t):=by
 induction r with
 |nil=>intro m z h;cases h
 |cons y t _ ih =>
  intro m z h;cases m with|zero=>cases h;exact⟨_,Z⟩|succ m=>exact ih h
theorem are_len {its:List Value}{ss:List Str}(r:StrsAre its ss):its.length=ss.length:=by
 induction r with
 |nil=>rfl
 |cons _ _ _ ih=>rw[Au,Au,ih]
theorem quc:MtR X "list.index" rIndexS:=by
 intro pins s σ H x vs v us Q I w C h;obtain⟨l,ss,k,j,rfl,rfl,p,i,g,q⟩:=h;cases w;obtain⟨u,rfl,A⟩:=C.one;obtain⟨t,rfl⟩:=A;obtain⟨z,its,n,r,hl,e⟩:=I.lstM p;have b:=qi9 r;have la:=are_len b;obtain⟨hjl,_⟩:=Ah.mp i;rw[Ac,Bl]at z;have at':∀{m:Nat}(c:m<its.toArray.size){y:Str},ss[m]?=some y->isStrOf k its.toArray[m]=(y == k):=λ{m} c {y} h=>by
  obtain⟨t',f⟩:=are_at b h;have:its.toArray[m]=.str y t':=by
   have o:its[m]?=some its[m]:=by simp
   rw[o]at f;simpa using A9 f
  rw[this];rfl
 refine Ei F.slot_list_index ⟨_,e,Z⟩ F.entry_list_index (F.args_list_index_2 _ _)
  (SeqAt.list_indexAt l its.toArray n _ _ (.str k t) (isStrOf k) j (by rw[Ax];lia) (by lia) ?_ ?_) ⟨e,λy a=>(eq_isStrOf k t b y (by simpa using a)).at _ _,?_⟩
 .rw[at' _ i];exact beq_self_eq_true k
 .intro m c d;obtain⟨y,a⟩:∃y,ss[m]?=some y:=⟨_,Al (by lia)⟩;rw[at' c a];cases B:y == k with|false=>rfl|true=>rw[eq_of_beq B]at a;exact absurd a (g m d)
 .exact⟨.int (j:Int),H,I.tok _,⟨_,Z⟩,q⟩
end
section
end
section
variable {prog:AK}{w:World}{A:AX}{E:Value->Af->Prop}{s:Af}
theorem qrj {it t:Addr}{i:Nat}{items:Array Value}{x:Value}{Q:Value->Af->Prop}(b:s.heap.IsTupleIter it t i)(e:s.heap.IsTuple t items)(f:items[i]?=some x)
  (g:∀h',h'.IsTupleIter it t (i+1)->Bf it s.heap h'->Q x {s with heap:=h'}):wpAny (model prog w) A (AH.SmallTypes.nextOf (.ref it)) Q E s:=by
 obtain⟨o,a,h,hd⟩:=id b;obtain⟨_,c,_,_,d⟩:=e;unfold AH.SmallTypes.nextOf;refine Ab (BD (name:=Aa "__next__") b.typeIs CK (BP CK b.typeIs F.entry_tuple_iterator_next ?_ (F.args_tuple_iterator_next_1 _)));show wpAny _ _ (field (.ref it) 0 >>= _) _ _ s;refine Ab (BS a hd (x:=.ref t) Z ?_);show wpAny _ _ (if (Ap t == BE)=true then _ else _) _ _ s;rw[if_neg (show ¬((Ap t == BE)=true) from AF)];show wpAny _ _ (field (.ref it) 1 >>= _) _ _ s;refine Ab (BS a hd (x:=.int i 0) Z ?_);show wpAny _ _ (seqItems? (.ref t) >>= _) _ _ s;refine Ab (Ci c d ?_);simp only[Cv,f];exact Ab (Cb a hd (by simp) (Ao ⟨x,Z,Ao (g _ ⟨_,Bg _ a (Cz (BX hd _)),(Obj.cls_mapFields ..).trans h,by rw[BX hd];simp[rawInt]⟩ (Bf.update ..))⟩))
theorem qm1 {it t:Addr}{i:Nat}{items:Array Value}{Q:Value->Af->Prop}(h:A.handled=none)(c:s.heap.IsTupleIter it t i)(g:s.heap.IsTuple t items)(j:items[i]?=none)
  (k:∀h' e,DS it s.heap h'->(∃o,h'.get? e=some o/\o.cls=.type "StopIteration")->E (.ref e) {s with heap:=h'}):wpAny (model prog w) A (AH.SmallTypes.nextOf (.ref it)) Q E s:=by
 obtain⟨o,b,hc,hd⟩:=id c;obtain⟨_,d,_,_,f⟩:=g;unfold AH.SmallTypes.nextOf;refine Ab (BD (name:=Aa "__next__") c.typeIs CK (BP CK c.typeIs F.entry_tuple_iterator_next ?_ (F.args_tuple_iterator_next_1 _)));show wpAny _ _ (field (.ref it) 0 >>= _) _ _ s;refine Ab (BS b hd (x:=.ref t) Z ?_);show wpAny _ _ (if (Ap t == BE)=true then _ else _) _ _ s;rw[if_neg (show ¬((Ap t == BE)=true) from AF)];show wpAny _ _ (field (.ref it) 1 >>= _) _ _ s;refine Ab (BS b hd (x:=.int i 0) Z ?_);show wpAny _ _ (seqItems? (.ref t) >>= _) _ _ s;refine Ab (Ci d f ?_);simp only[Cv,j];refine Ab (wpAny_rule (Ab (Cb b hd (by simp) ?_)));show wpAny _ _ (newExc (.type "StopIteration") [] >>= _) _ _ _;refine Ab ?_;simp only[newExc,newTuple];refine Ab (Cm (Ab (m:=firstArgMember _ _) (wpAny_of_eq (a:=BE) (by first|rfl | (simp only[firstArgMember];rfl)) (Cm ?_ (by size_fits)))) (by size_fits));exact wpAny_raiseNew_none h (k _ _ (((Bf.update ..).extBut.push _).push _) ⟨_,Aw _ Z,Z⟩)
theorem qud (j:A.handled=none)(it t:Addr)(e:t≠it)(items:Array Value):Draws prog w A it [it,t] items.size (λi v=>items[i]?=some v) (λi h=>h.IsTupleIter it t i/\h.IsTuple t items) where
 live:=λ_ _ st=>let ⟨o,a,_⟩:=st.1;⟨o,a⟩
 frame:=λ_ _ _ ⟨⟨o,a,r⟩,⟨q,l,g⟩⟩ hk=>⟨⟨o,hk it (by simp) o a,r⟩,⟨q,hk t (by simp) q l,g⟩⟩
 item:=λi s Q E c st d=>qrj st.1 st.2 (x:=items[i]) (by simp[c]) λh' f b=>d _ h' s.toks (by simp[c]) ⟨f,st.2.extBut b.extBut e⟩ b
 done:=λs Q E st k=>qm1 j st.1 st.2 (by simp) k
end
structure Zap (z TI TO i1 i2:Addr)(f1 f2:List Addr):Prop where
 tz:TI≠z
 oz:TO≠z
 to:TI≠TO
 m1:i1∈f1
 m2:i2∈f2
 z1:z∉f1
 z2:z∉f2
 o1:TO∉f1
 o2:TO∉f2
 t1:TI∉f1
 t2:TI∉f2
 x1:i1∉f2
 x2:i2∉f1
def qns (z TI TO i1 i2:Addr)(S1 S2:Nat->Heap->Prop)(f0:Value)(k:Nat)(h:Heap):Prop:=IsZip h z TI TO f0/\IsPair h TI (.ref i1) (.ref i2)/\(∃a b,IsPair h TO a b)/\S1 k h/\S2 k h
section
variable {prog:AK}{w:World}{A:AX}{E:Value->Af->Prop}{s:Af}{z TI TO i1 i2:Addr}{f1 f2:List Addr}{n n2 k:Nat}{P1 P2:Nat->Value->Prop}{S1 S2:Nat->Heap->Prop}
theorem qwr {Q:Value->Af->Prop}(C:Draws prog w A i1 f1 n P1 S1)(F:Draws prog w A i2 f2 n2 P2 S2)(f:Zap z TI TO i1 i2 f1 f2)(st:qns z TI TO i1 i2 S1 S2 .none k s.heap)(hk:k<n)(T:k<n2)
  (hQ:∀h' tk x y,P1 k x->P2 k y->qns z TI TO i1 i2 S1 S2 (rawInt s.heap.objs.size) (k+1) h'->IsPair h' s.heap.objs.size x y->(∀c o,c≠z->c≠TO->c≠i1->c≠i2->s.heap.get? c=some o->h'.get? c=some o)->Q (.ref s.heap.objs.size) {s with heap:=h',toks:=tk}) :
  wpAny (model prog w) A (AH.«zip.__next__» ⟨[.ref z],[]⟩) (λW s'=>∃v,W=.done (.ret v)/\Q v s') E s:=by
 obtain⟨hz,B,⟨a,b,V⟩,h1,h2⟩:=st;have h:∀b∈f1,b≠z/\b≠TO/\b≠i2:=λb d=>⟨λe=>f.z1 (e ▸ d),λe=>f.o1 (e ▸ d),λe=>f.x2 (e ▸ d)⟩;have m2:∀b∈f2,b≠z/\b≠TO/\b≠i1:=λb d=>⟨λe=>f.z2 (e ▸ d),λe=>f.o2 (e ▸ d),λe=>f.x1 (e ▸ d)⟩;have P:z≠i1:=λe=>(h i1 f.m1).1 e.symm;have N:z≠i2:=λe=>(m2 i2 f.m2).1 e.symm;have K:TO≠i1:=λe=>(h i1 f.m1).2.1 e.symm;have ad:TO≠i2:=λe=>(m2 i2 f.m2).2.1 e.symm;have aa:TI≠i1:=λe=>f.t1 (e ▸ f.m1);have ac:TI≠i2:=λe=>f.t2 (e ▸ f.m2);show wpAny _ _ (field (.ref z) 2 >>= _) _ _ _;refine Ab (BS hz Z (x:=.bool false) Z ?_);show wpAny _ _ (field (.ref z) 3 >>= _) _ _ _;refine Ab (BS hz Z (x:=.ref TI) Z (Ab (Ci B Z ?_)));show wpAny _ _ (AH.SmallTypes.ownedTupleIsFree (.ref z) >>= _) _ _ _;refine Ab ?_;unfold AH.SmallTypes.ownedTupleIsFree;refine Ab (BS hz Z (x:=.none) Z (Ao ?_));simp only[if_true];refine Ab (wpAny_rule (Ab (BS hz Z (x:=.ref TO) Z (Ab (Dv hz (by simp) λh3 ae q=>Ab ?_)))));have z3:IsZip h3 z TI TO .ellipsis:=ae;simp only[List.zipIdx_cons,List.zipIdx_nil,List.forIn_cons,List.forIn_nil];refine Ab (Ab (wpAny_onRaise (Ab (C.item k _ _ _ hk (C.frame _ _ _ h1 λb d o e=>q.extBut b o (h b d).1 e) λx h4 tk px s4 m=>Ao ?_))));have H:IsPair h4 TO a b:=m.extBut _ _ K (q.extBut _ _ f.oz V);refine Ab (Ci H Z (Ab (wpAny_updateSeq_pair H λh5 R p=>Ab (wpAny_letGo (Ao ?_)))));have o5:IsPair h5 TO x b:=R;refine Ab (Ab (wpAny_onRaise (Ab (F.item k _ _ _ T (F.frame _ _ _ h2 λb d o e=>p.extBut b o (m2 b d).2.1 (m.extBut b o (m2 b d).2.2 (q.extBut b o (m2 b d).1 e))) λy h6 tk2 py s6 l=>Ao ?_))));have o6:IsPair h6 TO x b:=l.extBut _ _ ad o5;refine Ab (Ci o6 Z (Ab (wpAny_updateSeq_pair o6 λg I j=>Ab (wpAny_letGo (Ao (Ao ?_))))));have M:IsPair g TO x y:=I;have sz:g.objs.size=s.heap.objs.size:=by rw[j.1,l.1,p.1,m.1,q.1]
 have U:∀c o,c≠z->c≠TO->c≠i1->c≠i2->s.heap.get? c=some o->g.get? c=some o:=λc o i u G D e=>j.extBut _ _ u (l.extBut _ _ D (p.extBut _ _ u (m.extBut _ _ G (q.extBut _ _ i e))));have z7:IsZip g z TI TO .ellipsis:=j.extBut _ _ f.oz.symm (l.extBut _ _ N (p.extBut _ _ f.oz.symm (m.extBut _ _ P z3)));refine Ab (Ci M Z (Ab (wpAny_newTuple (Ab ?_))));unfold AH.SmallTypes.ownedTupleHandOut;refine Ab (Dv (Aj _ z7) (by simp) λh8 L S=>?_);have z8:IsZip h8 z TI TO (rawInt g.objs.size):=L;refine Dv z8 (by simp) λt J O=>Ao ⟨_,Z,?_⟩;have z9:IsZip t z TI TO (rawInt g.objs.size):=J;have r:∀c o,c≠z->g.get? c=some o->t.get? c=some o:=λc o i e=>O.extBut _ _ i (S.extBut _ _ i (Aj _ e));have X:z<g.objs.size:=A1 z7;have Y:IsPair t g.objs.size x y:=O.extBut _ _ (Cs X) (S.extBut _ _ (Cs X) (Aw _ Z));show Q (.ref g.objs.size) _;rw[sz]at z9 Y |-;refine hQ t _ x y px py ⟨z9,r _ _ f.tz (U _ _ f.tz f.to aa ac B),⟨x,y,r _ _ f.oz M⟩,?_,?_⟩ Y λc o i u G D e=>r c o i (U c o i u G D e)
 .exact C.frame _ _ _ s4 λb d o e=>r b o (h b d).1 (j.extBut _ _ (h b d).2.1 (l.extBut _ _ (h b d).2.2 (p.extBut _ _ (h b d).2.1 e)))
 .exact F.frame _ _ _ s6 λb d o e=>r b o (m2 b d).1 (j.extBut _ _ (m2 b d).2.1 e)
theorem zip_end {Q:Fin->Af->Prop}(h:Draws prog w A i1 f1 n P1 S1)(J:i1∈f1)(C:z∉f1)(st:qns z TI TO i1 i2 S1 S2 .none n s.heap)
  (I:∀h' e,(∀c o,c≠z->c≠TO->c≠i1->c≠i2->s.heap.get? c=some o->h'.get? c=some o)->(∃o,h'.get? e=some o/\o.cls=.type "StopIteration")->E (.ref e) {s with heap:=h'}) :
  wpAny (model prog w) A (AH.«zip.__next__» ⟨[.ref z],[]⟩) Q E s:=by
 obtain⟨hz,r,⟨a,b,hTO⟩,B,h2⟩:=st;have k:∀b∈f1,b≠z:=λb g e=>C (e ▸ g);show wpAny _ _ (field (.ref z) 2 >>= _) _ _ _;refine Ab (BS hz Z (x:=.bool false) Z ?_);show wpAny _ _ (field (.ref z) 3 >>= _) _ _ _;refine Ab (BS hz Z (x:=.ref TI) Z (Ab (Ci r Z ?_)));show wpAny _ _ (AH.SmallTypes.ownedTupleIsFree (.ref z) >>= _) _ _ _;refine Ab ?_;unfold AH.SmallTypes.ownedTupleIsFree;refine Ab (BS hz Z (x:=.none) Z (Ao ?_));simp only[if_true];refine Ab (wpAny_rule (Ab (BS hz Z (x:=.ref TO) Z (Ab (Dv hz (by simp) λF t m=>Ab ?_)))));have y:IsZip F z TI TO .ellipsis:=t;simp only[List.zipIdx_cons,List.zipIdx_nil,List.forIn_cons,List.forIn_nil];refine Ab (Ab (wpAny_onRaise (Ab (h.done _ _ _ (h.frame _ _ _ B λb g o e=>m.extBut b o (k b g) e) λH e i v=>?_))));obtain⟨K,d,f⟩:=v;have p:IsZip H z TI TO .ellipsis:=i _ _ (λe=>k i1 J e.symm) y;have D:e≠z:=λq=>by subst q;rw[p]at d;cases d;simp at f
 exact Dv p (by simp) λu _ j=>I u e (λc o l _ G _ q=>j.extBut _ _ l (i _ _ G (m.extBut _ _ l q))) ⟨K,j.extBut _ _ D d,f⟩
theorem qws {Q:Option Value->Af->Prop}(h:Draws prog w A.in1 i1 f1 n P1 S1)(l:Draws prog w A.in1 i2 f2 n2 P2 S2)(j:Zap z TI TO i1 i2 f1 f2)(st:qns z TI TO i1 i2 S1 S2 .none k s.heap)(hk:k<n)(b:k<n2)
  (f:∀h' tk x y,P1 k x->P2 k y->qns z TI TO i1 i2 S1 S2 (rawInt s.heap.objs.size) (k+1) h'->IsPair h' s.heap.objs.size x y->(∀c o,c≠z->c≠TO->c≠i1->c≠i2->s.heap.get? c=some o->h'.get? c=some o)->Q (some (.ref s.heap.objs.size)) {s with heap:=h',toks:=tk}) :
  wpAny (model prog w) A (pyNext (.ref z)) Q E s:=by
 have a:s.TypeIs (.ref z) "zip" := ⟨_,st.1,Z⟩;unfold pyNext;exact Ab (CB (BD (name:=Aa "__next__") a F.slot_zip_next (BP F.slot_zip_next a F.entry_zip_next (qwr h l j st hk b λh' tk x y m d e g i=>Ao (f h' tk x y m d e g i)) (F.args_zip_next_1 _))))
theorem qp4 {Q:Option Value->Af->Prop}(i:Draws prog w A.in1 i1 f1 n P1 S1)(h:i1∈f1)(d:z∉f1)(st:qns z TI TO i1 i2 S1 S2 .none n s.heap)
  (f:∀h',(∀c o,c≠z->c≠TO->c≠i1->c≠i2->s.heap.get? c=some o->h'.get? c=some o)->Q none {s with heap:=h'}):wpAny (model prog w) A (pyNext (.ref z)) Q E s:=by
 have a:s.TypeIs (.ref z) "zip" := ⟨_,st.1,Z⟩;unfold pyNext;refine Ab (CB (BD (name:=Aa "__next__") a F.slot_zip_next (BP F.slot_zip_next a F.entry_zip_next (zip_end i h d st λh' e l g=>?_) (F.args_zip_next_1 _))));obtain⟨o,j,k⟩:=g;exact Ab (wpAny_isInstance (T := "StopIteration") (b:=true) ⟨o,j,k⟩ isSubtype_stop (Ao (f _ l)))
end
theorem qs0 {X:Cx}{d:List (Addr×Obj)}{σ:L2.St}{H:Hp}{s:Af}{h':Heap}{t':Nat}{ch:List Addr}(I:Inv X d σ H s)(k:∀b o,b∉ch->s.heap.get? b=some o->h'.get? b=some o)(f:∀b∈ch,qe2 X d H b):Inv X d σ H {s with heap:=h',toks:=t'}:=by
 refine I.step (g':=s.gens) (d':=s.drawn) (ch:=ch) (λb e=>⟨(f b e).2.2.2.1,(f b e).2.1,(f b e).2.2.2.2.1,(f b e).2.2.2.2.2⟩) (λb o _ _ a q _=>k b o a q) (λb o _ _ a q _=>⟨o.slots,k b o a q⟩) (λ_ _ _ _ n=>n)
  (λb o a q=>⟨o,k b o a q⟩) (λ_ _ q=>q) (λ_ _ _ q=>q) (λb ps q=>⟨#[],by rw[q];simp⟩) (λm h=>?_) (λb u q=>?_) I.bare
 .obtain⟨o,es,ep,g,r⟩:=h;exact⟨o,es,ep,k _ o (λz=>(f _ z).2.1 Z) g,r⟩
 .refine(I.hok b u q).stay (λc v a z=>k c v (λm=>?_) z) (λ_ z=>z) λ_ _ z=>z;rcases a with rfl|a
  .rw[(f _ m).1]at q;cases q
  .rw[(f c m).1]at a;cases a
theorem fp_neT {X:Cx}{c:List (Addr×Obj)}{σ:L2.St}{H:Hp}{s:Af}{a b:Addr}{xs:List V}(I:Inv X c σ H s)(f:qe2 X c H b)(h:SqT X.K H a xs):a≠b:=λe=>by
 subst e;rcases h with h|⟨o,its,n,hk,_⟩
 .have:=f.1;rcases h with h|⟨u,h⟩ <;>(rw[this]at h;cases h)
 .have d:=I.ok.mod.kin a o hk;rcases f.2.2.2.1 with z|z
  .exact I.ok.noex a o d z
  .exact absurd (AB (A1 d) (A3 I.ok.bsz z)) (BJ _)
noncomputable def Itz (K:Ae)(a b:Addr):It :=
 ⟨λi H=>∃xs ys,SqL K H a xs/\SqT K H b ys/\xs.length=ys.length/\i<xs.length,
  λi H x H'=>∀xs ys,SqL K H a xs->SqT K H b ys->∃y1 y2 t,xs[i]?=some y1/\ys[i]?=some y2/\H t=none/\x=.ref t/\H'=upd H t (.tup [y1,y2]),
  λi H=>∃xs,SqL K H a xs/\xs.length=i⟩
theorem fp_upd' {X:Cx}{a:List (Addr×Obj)}{H:Hp}{b t:Addr}{o:HO}(f:qe2 X a H b)(c:b≠t):qe2 X a (L2.upd H t o) b:=⟨by rw[qp c];exact f.1,f.2⟩
theorem qwt {P:AK}{w:World}{K:Ae}{es:List Expr}{kk pos}(l t z TI TO d f:Addr)(nd:[z,TI,TO,d,f].Nodup) :
  Turn P w K (.Tuple es kk pos) (Itz K l t) [z,TI,TO,d,f] z (λi h=>IsZip h z TI TO .none/\IsPair h TI (.ref d) (.ref f)/\(∃a b,IsPair h TO a b)/\h.IsListIter d l i/\h.IsTupleIter f t i) where
 mem:=by simp
 obj:=λi h st b m=>by
  obtain⟨r,C,⟨_,_,B⟩,⟨o4,h4,_,d4⟩,⟨N,h5,_,d5⟩⟩:=st;simp only[An,Aq,or_false]at m;rcases m with rfl|rfl|rfl|rfl|rfl
  .exact⟨_,r,λv z=>by cases z⟩
  .exact⟨_,C,λv z=>by cases z⟩
  .exact⟨_,B,λv z=>by cases z⟩
  .exact⟨o4,h4,λv z=>by rw[d4]at z;cases z⟩
  .exact⟨N,h5,λv z=>by rw[d5]at z;cases z⟩
 keep:=λi h h' st k=>by obtain⟨r,C,⟨a,b,B⟩,⟨o4,h4,r4⟩,⟨N,h5,r5⟩⟩:=st;exact⟨k z (by simp) _ r,k TI (by simp) _ C,⟨a,b,k TO (by simp) _ B⟩,⟨o4,k d (by simp) _ h4,r4⟩,⟨N,k f (by simp) _ h5,r5⟩⟩
 item:=by
  intro X hP hw hK hc i ad s σ H E I M st hg;subst hP hw hK;obtain⟨hz,F,G,r,C⟩:=st;obtain⟨xs,ys,T,ht,hl,hi⟩:=hg;obtain⟨its,O,p,_⟩:=I.list T;obtain⟨Y,V,p2,_⟩:=I.tuple ht;have l1:=O.length;have l2:=V.length;have R:X.A.in1.handled=none:=I.ok.hd hc;have S:l≠d:=λe=>by obtain⟨o,g,c,_⟩:=r;obtain⟨o',g',j,_⟩:=p.isList;rw[e,g]at g';cases g';rw[c]at j;simp at j
  have W:l∉[z,TI,TO,d,f]:=λe=>by
   obtain⟨o',g',j,_⟩:=p.isList;simp only[An,Aq,or_false]at e;rcases e with e|e|e|e|e
   .rw[e,hz]at g';cases g';simp at j
   .rw[e,F]at g';cases g';simp at j
   .obtain⟨_,_,B⟩:=G;rw[e,B]at g';cases g';simp at j
   .exact S e
   .obtain⟨o,g,c,_⟩:=C;rw[e,g]at g';cases g';rw[c]at j;simp at j
  have ac:t∉[z,TI,TO,d,f]:=λe=>fp_neT I (M t e) ht rfl;simp only[AM,An,Aq,or_false,not_or]at nd W ac;obtain⟨⟨a1,a2,a3,a4⟩,⟨a5,a6,a7⟩,⟨a8,a9⟩,aa,_⟩:=nd;obtain⟨c1,c2,c3,c4,c5⟩:=W;obtain⟨d1,d2,d3,d4,d5⟩:=ac;have ap:Zap z TI TO d f [d,l] [f,t]:=by constructor <;>simp only[An,Aq,or_false,not_or,ne_eq] <;>first|exact .inl rfl|exact .inl trivial | (refine⟨?_,?_⟩ <;>(intro e;first|exact a1 e|exact a2 e|exact a3 e|exact a4 e|exact a5 e|exact a6 e|exact a7 e|exact a8 e|exact a9 e|exact aa e|exact aa e.symm|exact c1 e.symm|exact c2 e.symm|exact c3 e.symm|exact c5 e.symm|exact d1 e.symm|exact d2 e.symm|exact d3 e.symm|exact d4 e.symm)) | (intro e;first|exact a1 e.symm|exact a2 e.symm|exact a5 e)
  refine qws (Draws.list R d l S its.toArray) (qud R f t d5 Y.toArray) ap ⟨hz,F,G,⟨r,p.isList⟩,⟨C,p2⟩⟩ (k:=i) (by simp;lia) (by simp;lia) λh' tk u v J L U hp kp=>⟨_,Z,?_⟩;refine wpAny_letOwnedTupleGo_zip U.1 λB ah D=>?_
  replace D:Bf z h' B:=D
  obtain⟨x,hx⟩:∃x,xs[i]?=some x:=⟨_,Al hi⟩;obtain⟨y,hy⟩:∃y,ys[i]?=some y:=⟨_,Al (by lia)⟩;obtain⟨u',hu,ru⟩:=O.get hx;obtain⟨v',hv,ag⟩:=V.get hy;obtain rfl:u=u':=by have J:its.toArray[i]?=some u:=J;simp only[CM]at J;rw[hu]at J;exact(A9 J).symm
  obtain rfl:v=v':=by have L:Y.toArray[i]?=some v:=L;simp only[CM]at L;rw[hv]at L;exact(A9 L).symm
  have lt:∀b∈[z,TI,TO,d,f],b<s.heap.objs.size:=λb m=>by
   obtain⟨_,_,B⟩:=G;obtain⟨_,g1,_⟩:=r;obtain⟨_,g2,_⟩:=C;simp only[An,Aq,or_false]at m;rcases m with rfl|rfl|rfl|rfl|rfl
   .exact A1 hz
   .exact A1 F
   .exact A1 B
   .exact A1 g1
   .exact A1 g2
  have zl:z<s.heap.objs.size:=A1 hz;have ak:IsPair B s.heap.objs.size u v:=(D.2 _ (Cs zl)).trans hp;have af:H s.heap.objs.size=none:=I.hok.fresh (A0 _);have I1:=I.laid (a:=s.heap.objs.size) (o:=.tup [x,y]) (h':=s.heap.push {cls:=.type "tuple",data:=.seq #[u,v]}) (t':=s.toks) (λb o q=>Aj _ q) (A0 _) ⟨show 2<=A4 by rw[Bl];decide,[u,v],.cons ru (.cons ag .nil),⟨_,Aw _ Z,Z,_,Z⟩⟩;have I2:=qs0 (ch:=[z,TI,TO,d,f]) (h':=B) (t':=tk) I1 (λb o n q=>by
   simp only[An,Aq,or_false,not_or]at n;by_cases e:b=s.heap.objs.size
   .subst e;rw[Aw _ Z]at q;cases q;exact ak
   .rw[Heap.get?_push_ne _ _ _ e]at q;exact(D.2 b n.1).trans (kp b o n.1 n.2.2.1 n.2.2.2.1 n.2.2.2.2 q)) (λb m=>fp_upd' (M b m) (AG (lt b m)))
  obtain⟨_,s2,⟨a',b',s3⟩,⟨s4,_⟩,⟨s5,_⟩⟩:=U;refine⟨.ref s.heap.objs.size,_,I2,Z,λxs' ys' ae ai=>?_,⟨ah,(D.2 _ (Ba a1)).trans s2,⟨a',b',(D.2 _ (Ba a2)).trans s3⟩,s4.at λo q=>(D.2 _ (Ba a3)).trans q,?_⟩,λb m=>?_⟩
  .rw[I.list_inj ae T,I.tuple_inj ai ht];exact⟨x,y,_,hx,hy,af,Z,Z⟩
  .obtain⟨N,g5,r5⟩:=s5;exact⟨N,(D.2 _ (Ba a4)).trans g5,r5⟩
  .rw[qp (AG (lt b m))];exact(M b m).1
 done:=by
  intro X hP hw hK hc i ad s σ H E I M st hg;subst hP hw hK;obtain⟨hz,F,G,r,C⟩:=st;obtain⟨xs,T,hi⟩:=hg;obtain⟨its,O,p,_⟩:=I.list T;have l1:=O.length;have R:X.A.in1.handled=none:=I.ok.hd hc;have S:l≠d:=λe=>by obtain⟨o,g,c,_⟩:=r;obtain⟨o',g',j,_⟩:=p.isList;rw[e,g]at g';cases g';rw[c]at j;simp at j
  have ei:i=its.toArray.size:=by simp;lia
  subst ei;have nz:z∉[d,l]:=λe=>by
   rcases An.mp e with e|e
   .obtain⟨o,g,c,_⟩:=r;rw[<- e,hz]at g;cases g;simp at c
   .obtain⟨o',g',j,_⟩:=p.isList;rw[<- Ai.mp e,hz]at g';cases g';simp at j
  refine qp4 (S2:=λk h=>h.IsTupleIter f t k) (Draws.list R d l S its.toArray) (by simp) nz ⟨hz,F,G,⟨r,p.isList⟩,C⟩ λh' kp=>⟨Z,qs0 (ch:=[z,TI,TO,d,f]) (t':=s.toks) I (λb o n q=>?_) M⟩;simp only[An,Aq,or_false,not_or]at n;exact kp b o n.1 n.2.2.1 n.2.2.2.1 n.2.2.2.2 q
 self:=λA i s Q E st h=>wpAny_pyIter_zip st.1 h
section
noncomputable abbrev zl1 (h:Heap)(l:Addr):Heap:=h.push {cls:=.type "list_iterator",data:=.fields #[.ref l,.int 0 0]}
noncomputable abbrev zl2 (h:Heap)(l t:Addr):Heap:=(zl1 h l).push {cls:=.type "tuple_iterator",data:=.fields #[.ref t,.int 0 0]}
noncomputable abbrev zl3 (h:Heap)(l t:Addr):Heap:=(zl2 h l t).push {cls:=.type "tuple",data:=.seq #[.ref h.objs.size,.ref (zl1 h l).objs.size]}
noncomputable abbrev zl4 (h:Heap)(l t:Addr):Heap:=(zl3 h l t).push {cls:=.type "tuple",data:=.seq #[.none,.none]}
noncomputable abbrev zl5 (h:Heap)(l t:Addr):Heap:=(zl4 h l t).push {cls:=.type "zip",data:=.fields #[.none,.bool false,.bool false,.ref (zl2 h l t).objs.size,.ref (zl3 h l t).objs.size]}
theorem qwu (l t:Addr)(xs ys:Array Value):Meets (AH.«zip.__new__» ⟨[.type "zip",.ref l,.ref t],[]⟩) (λ_ R s=>s.heap.IsList l xs/\s.heap.IsTuple t ys/\R (.ok (.ret (.ref (zl4 s.heap l t).objs.size))) {s with heap:=zl5 s.heap l t}) :=
 .of_wp λprog w A R s h=>by
  obtain⟨e,g,d,tk,c⟩:=s;obtain⟨i,f,h⟩:=h;have hsub:=sub_zip;have b:Heap.IsList (Af.heap ⟨e,g,d,tk,c⟩) l xs:=i;have a:Heap.IsTuple (Af.heap ⟨zl1 e l,g,d,tk,c⟩) t ys:=Heap.IsTuple.push f _
  wp_walk using D6 b,wpAny_pyIter_tuple a
  exact⟨_,Z,h⟩
theorem que {prog:AK}{w:World}{A:AX}{E:Value->Af->Prop}{s:Af}{l t:Addr}{xs ys:Array Value}{Q:Value->Af->Prop}(p:s.heap.IsList l xs)(n:s.heap.IsTuple t ys)
  (h:∀h',IsZip h' (s.heap.objs.size+4) (s.heap.objs.size+2) (s.heap.objs.size+3) .none->IsPair h' (s.heap.objs.size+2) (.ref s.heap.objs.size) (.ref (s.heap.objs.size+1))->IsPair h' (s.heap.objs.size+3) .none .none ->
   h'.IsListIter s.heap.objs.size l 0->h'.IsTupleIter (s.heap.objs.size+1) t 0->(∀c o,s.heap.get? c=some o->h'.get? c=some o)->Q (.ref (s.heap.objs.size+4)) {s with heap:=h'}):wpAny (model prog w) A (call (.type "zip") [.ref l,.ref t]) Q E s:=by
 refine callType_new F.called_zip Ez (F.typeCall_zip_2 _ _) (F.newCall_zip_2 _ _) (λobj=>F.args_object_init_3 obj _ _) F.entry_zip_new (qwu l t xs ys) ⟨p,n,?_⟩
 have b:(zl1 s.heap l).objs.size=s.heap.objs.size+1:=Bx ..
 have f:(zl2 s.heap l t).objs.size=s.heap.objs.size+2:=by rw[Bx,b]
 have d:(zl3 s.heap l t).objs.size=s.heap.objs.size+3:=by rw[Bx,f]
 have j:(zl4 s.heap l t).objs.size=s.heap.objs.size+4:=by rw[Bx,d]
 have a:∀{h:Heap}{c:Addr}{o o':Obj},h.get? c=some o->(h.push o').get? c=some o:=λe=>Aj _ e
 have g:(zl5 s.heap l t).get? (zl4 s.heap l t).objs.size=some _:=Aw _ rfl
 have m:(zl5 s.heap l t).get? (zl3 s.heap l t).objs.size=some _:=a (Aw _ Z)
 have k:(zl5 s.heap l t).get? (zl2 s.heap l t).objs.size=some _:=a (a (Aw _ Z))
 have i:(zl5 s.heap l t).get? (zl1 s.heap l).objs.size=some _:=a (a (a (Aw _ Z)))
 have q:(zl5 s.heap l t).get? s.heap.objs.size=some _:=a (a (a (a (Aw _ Z))))
 rw[f,d,j]at g
 rw[b,f]at k
 rw[d]at m
 rw[b]at i
 show _/\_
 rw[j]
 exact⟨⟨_,g,Z⟩,h _ g k m ⟨_,q,Z,Z⟩ ⟨_,i,Z,Z⟩ λc o e=>a (a (a (a (a e))))⟩
end
def iZip (K:Ae)(ta:TA):TI:=λσ H R=>ta σ H λvs H1=>∃a b xs ys,vs=[.ref a,.ref b]/\H1 a=some (.lst xs)/\SqT K H1 b ys/\R (Itz K a b) H1
theorem boot_zip':bootBuiltins "zip"=some (.type "zip"):=En
theorem pi_zip {X:Cx}{es:List Expr}{E:_}{i:Pos}{a b:Expr}{o:TA}{p pos:Pos}(L:Gl X "zip")(G:X.mg "zip"=none)(A:PA X [a,b] o)(x:starEach [a,b] X.env=(false,eval a X.env)::starEach [b] X.env:=by rfl)(g:(backTo pos (starEach [b] X.env)).any (·.1)=false:=by rfl):PI X (.Tuple es E i) (.Call (.Name "zip" p) [a,b] [] pos) (iZip X.K o):=by
 intro d s σ H R I h;refine Call_ (qez I L G boot_zip' (Br (thn (A pos d s σ H _ I h) λus c ⟨vs,j,f,y,M⟩=>?_) x g));obtain⟨l,t,xs,ys,e,hl,C,q⟩:=M;subst e;obtain⟨u,v,rfl,D,O⟩:=Vals.two y;cases qon D;cases qon O;obtain⟨z,its,n,rv,hz,e⟩:=f.lstM hl;obtain⟨jts,_,F,_⟩:=f.tuple C;refine que ⟨_,e,Z,n,Z⟩ F λh' m r J w N keep=>wpAny_pyIter_zip m ?_;have B:Inv X d σ j {c with heap:=h'}:=f.kept (t':=c.toks) keep;refine⟨c.heap.objs.size+4,[c.heap.objs.size+4,c.heap.objs.size+2,c.heap.objs.size+3,c.heap.objs.size,c.heap.objs.size+1],_,_,j,Z,B,qwt l t _ _ _ _ _ (by simp),⟨m,r,⟨_,_,J⟩,w,N⟩,λb g=>?_,q⟩;have k:c.heap.objs.size<=b:=by simp only[An,Aq,or_false]at g;rcases g with rfl|rfl|rfl|rfl|rfl <;>first|exact Nat.le_add_right _ _|exact A0 _
 exact f.fpOk k (f.hok.fresh k)
section
variable {X:Cx}
theorem vals_kv {kvs:List (Key×V)}{vs:List (Key×Value)}(h:KV kvs vs):Vals (kvs.map (·.2)) (vs.map (·.2)):=by
 induction h with
 |nil=>exact .nil
 |cons r _ ih=>exact .cons r.2 ih
def tLV (te:TE):TE:=λσ H Q=>te σ H λx H1=>∃(d:Addr)(kvs:List (Key×V)),x=.ref d/\H1 d=some (.dK kvs)/\∀q,H1 q=none->Q (.ref q) (upd H1 q (.lst (kvs.map (·.2))))
theorem qp5 {e:Expr}{u:TE}{p f i pos:Pos}(J:X.calm=true)(G:Gl X "list")(B:X.mg "list"=none)(D:bootBuiltins "list"=some (.type "list"))(L:PE X e u)
  (r:attributeBase e "values" X.env (eval e X.env)=eval e X.env:=by rfl)(hline:(f.endLine == i.line)=true:=by rfl):PE X (.Call (.Name "list" p) [.Call (.Attribute e "values" f) [] [] i] [] pos) (tLV u):=by
 intro m s σ H Q I h;refine B9 (qez I G B D ?_);refine Br ?_ rfl rfl;show wpAny _ _ (spliced ((false,eval (.Call (.Attribute e "values" f) [] [] i) X.env)::[])) _ _ s;refine Dq ?_;refine wpAny_Call_method0_late r hline (thn (L m s σ H _ I h) λv n ⟨x,M,K,N,R⟩=>?_);obtain⟨d,kvs,rfl,hd,q⟩:=R;cases N;obtain⟨z,lo,vs,y,l⟩:=qpn K.hok hd;refine⟨"dict","dict.values",PySem.F.plainAttrs_dict,Dd,PySem.F.type_dict_values,l.typeIs,?_,DY Z (PySem.evalArgs_none ?_)⟩
 .exact l.mapOf.noDict
 refine call_meetsIn Dd l.typeIs PySem.F.entry_dict_values (PySem.F.args_dict_values_1 _) (meets_dict_values (qbv X.prog X.w) d lo) ⟨⟨vs,l⟩,?_⟩;refine D7 ?_;obtain⟨ep,C⟩:=l.dictAt;have A:Inv X m σ M {n with heap:=n.heap.push {cls:=.type "dict_values",data:=.fields #[.ref d]} }:=K.kept (t':=n.toks) λb o q=>Aj _ q;refine PySem.W.kdl_call (PySem.W.kdl_values (knd:=qbv X.prog X.w) (kvs:=vs) (ep:=ep)) (I.ok.hd J) ⟨⟨_,Aw _ Z,Z,Z⟩,C.push _⟩ (by rw[<- y.length];exact z) λh' tk a c O e t=>?_;have P:a.toList=vs.map (·.2):=Bz λj=>by
  rw[Ak];by_cases T:j<vs.length
  .have E:j<a.size:=by rw[t.1];exact T
   have g:a[j]?=some a[j]:=BG E;obtain⟨k,hk⟩:=t.2 j _ g;rw[C0,g,hk];rfl
  .rw[Bh (by rw[A7,t.1];lia),Bh (by lia)];rfl
 have S:Vals (kvs.map (·.2)) a.toList:=by rw[P];exact vals_kv y
 exact⟨.ref (n.heap.push {cls:=.type "dict_values",data:=.fields #[.ref d]}).objs.size,_,A.laid (t':=tk) O (A0 _) (show ObjOk X.prog X.w _ h' _ (.lst (kvs.map (·.2))) from ⟨by rw[Ac];exact z,a.toList,c,S,by simpa using e⟩),Z,q _ (A.hok.fresh (A0 _))⟩
noncomputable def rCountS:V->List V->Hp->VK->Prop:=λx vs H Q=>∃(l:Addr)(ss:List Str)(k:Str),x=.ref l/\vs=[.str k]/\H l=some (.lst (ss.map V.str))/\Q (.int (ss.count k:Nat)) H
theorem qp6 (k:Str):∀ys:List Str,countIn (.str k) (ys.map PyData.str)=((ys.count k:Nat):Int)
 | []=>rfl
 |y::ys=>by
  have a:=qp6 k ys;show (if same (.str y) (.str k) then 1 else 0)+countIn (.str k) (ys.map PyData.str)=_;rw[a,List.count_cons];have e:same (.str y) (.str k)=(y == k):=rfl;rw[e];cases y == k
  .simp
  .simp;lia
theorem quf:MtR X "list.count" rCountS:=by intro pins s σ H x vs v us Q I b d h;obtain⟨l,ss,k,rfl,rfl,a,q⟩:=h;cases b;obtain⟨u,rfl,c⟩:=d.one;obtain⟨t,rfl⟩:=c;obtain⟨z,its,n,r,hl,e⟩:=I.lstM a;refine count_list_strs (vs:=its) ⟨_,e,Z,n,Z⟩ (qi9 r) ?_;exact⟨.int (ss.count k:Nat),H,I.tok _,⟨_,by rw[qp6]⟩,q⟩
end
theorem qlv {M:Model}{A:AX}{E:Value->Af->Prop}{s:Af}{β:Type}{f:Value->β->Sem (ForInStep β)}{b:β}:∀{a:List Value},(∀c∈a,∀Q:ForInStep β->Af->Prop,Q (.yield b) s->wpAny M A (f c b) Q E s)->∀{Q:β->Af->Prop},Q b s->wpAny M A (forIn a b f) Q E s
 | [],_,_,h=>by rw[List.forIn_nil];exact Ao h
 |c::a,hf,Q,h=>by rw[List.forIn_cons];exact Ab (hf c Am _ (qlv (λd hd=>hf d (Ar _ hd)) h))
theorem exm_no {M:Model}{K:Ae}{cls:Value}{j e:Addr}{h:Heap}{n:List Value}(X:K.In h)(i:BR M h (typeOf (.ref e)) cls)(p:h.get? j=some {cls:=.type "tuple",data:=.seq n.toArray})(hx:∀c∈n,Ad K cls c=some false) :
  BR M h (excMatches (.ref e) (.ref j)) false:=by
 intro A Q E s r q;obtain⟨u,g,d,tk,os⟩:=s;have k:∀b o,h.get? b=some o->u.get? b=some o:=r;have a:BR M h (isInstance (.ref j) (.type "tuple")) true:=((BR.ld p).andThen .now).andThen (BR.of_pure isSubtype_tuple_tuple);have i:=i.keeps k;have a:=a.keeps k;have f:=k _ _ p;unfold excMatches;refine Ab (a.at ?_);dsimp only;rw[if_pos Z];first
  |refine Ab (Ci f rfl ?_)
  |refine Ab (Ab (Ci f rfl (Ao ?_)))
 dsimp only[Option.getD_some,Option.getD];refine Ab (Ao (Ab (qlv (λc m Q l=>?_) ?_)))
 .obtain⟨t,_⟩:=PySem.W.exm_cls (M:=M) X (hx c (by simpa using m));refine Ab ((t.keeps k).at ?_);simp only[Bool.not_true,Dt,if_false];exact Ao l
 .refine Ab (i.at (Ab (qlv (λc m Q l=>?_) ?_)))
  .obtain⟨_,v⟩:=PySem.W.exm_cls (M:=M) X (hx c (by simpa using m));refine Ab ((v.keeps k).at ?_);simp only[Dt,if_false];exact Ao l
  .exact Ao q
def PCs (X:Cx)(es:List Expr)(us:List Value):Prop:=∀(e:Value)(E:Value->Af->Prop)(pos:Pos)(pins:List (Addr×Obj))(s:Af)(σ:L2.St)(H:Hp)(Q:List Value->Af->Prop),Inv X pins σ H s->Q us s ->
 wpAny (model X.prog X.w) (X.A.mark (some e)) (spliced (backTo pos (starEach es X.env))) Q E s
section
variable {X:Cx}{t:Expr}{es:List Expr}{c:Value}{us:List Value}{qbm:List ExceptHandler}{tr:TH}{body:List Stmt}{pos pos':Pos}
theorem pcs_nil:PCs X [] []:=λ_ _ _ _ _ _ _ _ _ h=>D7 h
theorem qet (f:PC X t c)(d:PCs X es us)(b:starEach (t::es) X.env=(false,eval t X.env)::starEach es X.env:=by rfl):PCs X (t::es) (c::us):=by intro e E pos a s σ H Q I h;rw[b];show wpAny _ _ (spliced ((false,eval t X.env)::backTo pos (starEach es X.env))) _ _ s;exact Dq (f e E a s σ H _ I (d e E pos a s σ H _ I h))
def hNo (K:Ae)(cs:List Value)(qbm:TH):TH:=λD σ x C od H=>(cs.length<=A4/\∀c∈cs,Ad K (.ref C) c=some false)/\qbm D σ x C od H
theorem ph_no {x1}(j:PCs X es us)(m:PH X qbm tr):PH X (.ExceptHandler (some (.Tuple es x1 pos')) none body pos::qbm) (hNo X.K us tr):=by
 intro a s σ H D x C od I p has h;obtain⟨⟨hz,r⟩,h⟩:=h;refine wpAny_handleBy_cons (codeAny_handlers_test (wpAny_Tuple_spliced (j (.ref x) _ pos' a s σ H _ I ⟨hz,?_⟩))) (by intro q;cases q);have d:Inv X a σ H {s with heap:=s.heap.push {cls:=.type "tuple",data:=.seq us.toArray} }:=I.kept (t':=s.toks) λb o q=>Aj _ q;have c:qrf X a H (s.heap.push {cls:=.type "tuple",data:=.seq us.toArray}) x C od:=by obtain⟨e,vs,sl,T,k,ts,i,g,l,t,f,n⟩:=p;exact⟨e,vs,sl,T,k,ts,Aj _ i,g,Aj _ l,t,f,n⟩
 refine(exm_no d.kIn (qrh c) (Aw _ Z) r).here ?_;exact m a _ σ H D x C od d c has h
end
theorem qwv {K:Ae}{js:List (Option Nat)}{g:TG}{u:TE}{σ:L2.St}{H:Hp}{Q:VK}{a b:Addr}{xs ys:List V}(f:List V)(h:L2.St->Prop)(M:SqL K H a xs)(r:SqT K H b ys)(le:xs.length=ys.length)(lz:f.length=xs.length)(hz:xs.length<=A4)(L:h (qil js σ))
  (step:∀(i:Nat)(x y z:V)(t:Addr)(σ':L2.St)(H':Hp)(R:L2.St->VK),xs[i]?=some x->ys[i]?=some y->f[i]?=some z->Same H H'->H' t=some (.tup [x,y])->h σ'->(∀σ3 d,h σ3->Same H' d->R σ3 z d)->g (.ref t) σ' H' λσ3 j=>u σ3 j (R σ3))
  (N:∀(x:V)(σ':L2.St)(H':Hp)(R A:L2.St->Hp->Prop),(∀σ3 j,R σ3 j->A σ3 j)->g x σ' H' R->g x σ' H' A)
  (B:∀p H',H p=none->Same H H'->H' p=some (.lst f)->Q (.ref p) H'):qoh js g qvv u σ Q (Itz K a b) H:=by
 intro p s;refine⟨λi m σ' H'=>m=xs.length-i/\i<=xs.length/\h σ'/\Same H H'/\H' p=some (.lst (f.take i)),⟨xs.length,by simp,B7 _,L,qao (Same.refl H) s,by rw[qi];rfl⟩,?_⟩;rintro i m σ' H' ⟨rfl,hi,O,k,q⟩;have o:=k.seq M;have C:=qt5 k r;by_cases n:i<xs.length
 .obtain⟨z,ez⟩:∃z,f[i]?=some z:=⟨_,Al (by lia)⟩;refine .inr ⟨⟨xs,ys,o,C,le,n⟩,λσ2 l=>h σ2/\Same H l/\l p=some (.lst (f.take (i+1))),λσ2 l ⟨a,b,c⟩=>⟨xs.length-(i+1),by lia,Z,n,a,b,c⟩,λx l r=>?_⟩;obtain⟨w,E,t,I,G,J,rfl,rfl⟩:=r xs ys o C;have st:Same H' (upd H' t (.tup [w,E])):=qao (Same.refl H') J;refine N _ _ _ _ _ (λσ3 j z=>?_) (step i w E z t σ' _ (λσ3 v d=>∃ys,d p=some (.lst ys)/\ys.length<A4/\(h σ3/\Same H (upd d p (.lst (ys++[v])))/\upd d p (.lst (ys++[v])) p=some (.lst (f.take (i+1))))) I G ez (k.trans st) qi O λσ3 d F D=>?_)
  .exact z
  .refine⟨_,D _ _ (st _ _ q),?_,F,qao (k.trans (st.trans D)) s,?_⟩
   .rw[AZ];lia
   .rw[qi,CV,ez];rfl
 .have e:i=xs.length:=by lia
  subst e;refine .inl ⟨⟨xs,o,Z⟩,?_⟩;rw[B5 (by lia)]at q;exact B p _ s k q
section
variable {X:Cx}
def tBS (t:TE):TT:=λσ H Q=>t σ H λx H1=>∃y:Str,x=.str y/\y.length<=A4/\Q (decide (y.length≠0)) H1
theorem pt_valS {e:Expr}{t:TE}(h:PE X e t)(b:∀whole,isTrue e X.env whole=(do let v <- whole;standAt e.pos;holding [v] (truthy v)):=by intro _;rfl):PT X e (tBS t):=by
 intro a s σ H Q I f;refine isTrue_plain (thn (h a s σ H _ I f) λv s1 ⟨x,c,i,d,g⟩=>?_) (b _);obtain⟨y,rfl,hy,q⟩:=g;obtain⟨t',rfl⟩:=d;have hs:A4=16777216:=Bl;refine PySem.P.truthy_str (by lia) ?_;have e:((y.length:Int) != 0)=decide (y.length≠0):=by rw[C6,bne_iff_ne,decide_eq_true_eq];lia
 rw[e];exact⟨c,i.tok _,q⟩
theorem qug {X:Cx}:qer X (.builtin "len") (λxs H Q=>∃(d:Addr)(kvs:List (Key×V)),xs=[.ref d]/\H d=some (.dK kvs)/\Q (.int kvs.length) H):=by intro pins s σ H xs us Q I r h;obtain⟨d,kvs,rfl,hd,q⟩:=h;obtain⟨u,rfl,b⟩:=qf5 r;cases b;obtain⟨z,lo,vs,a,c⟩:=qpn I.hok hd;have hs:A4=16777216:=Bl;refine PySem.call_len_dict lo c (by rw[<- a.length];lia) ?_;exact⟨.int kvs.length,H,I.tok _,⟨_,by rw[a.length]⟩,q⟩
end
def leS (a b:Str):Prop:=a.cps.toList<=b.cps.toList
theorem qnt:∀{l:List Str}{x:Str},risingS x l=true->(x::l).Pairwise leS
 | [],x,_=>List.pairwise_cons.mpr ⟨λ_ h=>absurd h Aq,.nil⟩
 |y::r,x,h=>by
  have h:(!ltCps y.cps.toList x.cps.toList && risingS y r)=true:=h;rw[AD]at h;have a:=qnt h.2;have b:leS x y:=by
   have e:ltCps y.cps.toList x.cps.toList=false:=by cases q:ltCps y.cps.toList x.cps.toList with|false=>rfl|true=>rw[q]at h;cases h.1
   rw[ltCps_eq]at e;exact List.not_lt.mp (of_decide_eq_false e)
  refine List.pairwise_cons.mpr ⟨λz hz=>?_,a⟩;rcases An.mp hz with rfl|hz
  .exact b
  .exact List.le_trans b ((List.pairwise_cons.mp a).1 z hz)
theorem quh {l:List Str}(h:sortedS l=true):l.Pairwise leS:=by
 cases l with|nil=>exact .nil|cons x r=>exact qnt h
theorem qww {l m:List Str}(c:l.Pairwise leS)(d:m.Pairwise leS)(p:l.Perm m):l=m:=Do.eq_of_pairwise (le:=leS) (λa b _ _ x y=>by have e:=List.le_antisymm x y;cases a;cases b;simp only at e;exact congrArg Str.mk (Array.toList_inj.mp e)) c d p
section
variable {X:Cx}
end
section
variable {prog:AK}{w:World}{A:AX}{E:Value->Af->Prop}{s:Af}
end
section
variable {P:AK}{w:World}{K:Ae}{mg:Str->Option Value}{base:Heap}
end
section
variable {X:Cx}
def rNeNil (K:Ae):R2:=λx y H Q=>∃a b xs,x=.ref a/\y=.ref b/\SqL K H a xs/\SqL K H b []/\Q (.bl (!xs.isEmpty)) H
theorem qwx (hu:X.A.units+64<cLine):OpR X (compareOp .NotEq) (rNeNil X.K):=by
 intro pins s σ H x y v u Q I o r h;obtain⟨a,b,xs,rfl,rfl,l,m,q⟩:=h;cases o;cases r;obtain⟨its,k,g,_⟩:=I.list l;obtain⟨c,p,i,_⟩:=I.list m;have d:=k.length;have f:=p.length;have f:0=c.length:=f;cases xs with|nil =>have d:0=its.length:=d;refine SeqAt.RcNeAt.lists (e:=λ_=>true) g.isList i.isList (by rw[Ax,Ax];lia) (by lia) (λj n _=>absurd n (by rw[Ax];lia)) _ _ _ _ ?_;rw[qwq];exact⟨.bl false,H,I,Z,q⟩|cons z zs =>rw[Au]at d;refine SeqAt.RcNeAt.lists_lengths g.isList i.isList (bne_iff_ne.mpr (by rw[Ax,Ax];lia)) (by lia) _ _ _ _ ?_;exact⟨.bl true,H,I,Z,q⟩
end
section
variable {X:Cx}
theorem ext_tup (l b:Addr)(a bs:Array Value)(n m:Nat)(j:Option Addr)(ss:Array (Option Value))(h0:¬(!a.isEmpty && AH.List.listTooLong (a.size+bs.size))=true)(i:a.size<=A4)(e:a.size+bs.size<=A4+1) :
  Meets (AH.«list.extend» ⟨[.ref l,.ref b],[]⟩) (λ_ R s=>s.heap.get? l=some ⟨.type "list",none,.seq a n,#[]⟩/\s.heap.get? b=some ⟨.type "tuple",j,.seq bs m,ss⟩/\R (.ok (.ret .none)) {s with heap:=s.heap.update l (CI λx=>x++bs),toks:=s.toks}):=by
 refine .of_wp λprog w A R s h=>?_;obtain⟨hp,g,d,tk,os⟩:=s;obtain⟨hl,f,h⟩:=h;have k1:=AutoSeq1.idx_int;have k2:=AutoSeq1.sub_tuple_tuple;have k3:=AutoSeq1.sub_list_list;have k4:=AutoSeq1.sub_tuple_list;have k5:=AutoSeq1.sub_list_tuple;have c:(a++bs).size<=A4+1:=A3 (BW Array.size_append) e
 wp_walk using (wpAny_updateSeq hl Z (hz:=i) (_hz':=c)),wpAny_loadPart' hl,wpAny_loadPart' f
 exact⟨_,Z,h⟩
noncomputable def qwy (K:Ae):V->List V->Hp->VK->Prop:=λx vs H Q=>∃l b xs zs,x=.ref l/\vs=[.ref b]/\H l=some (.lst xs)/\SqT K H b zs/\xs.length+zs.length<=A4/\Q .non (upd H l (.lst (xs++zs)))
theorem qrk:MtM X "list.extend" (qwy X.K):=by
 intro pins s σ H x vs v us Q I m t h;obtain⟨l,b,xs,zs,rfl,rfl,d,i,hz,q⟩:=h;cases m;obtain⟨u,rfl,p⟩:=t.one;cases p;obtain⟨z,its,n,r,hl,e⟩:=I.lstM d;obtain⟨a,f,g,hz2⟩:=I.tuple i;have hl2:=f.length;obtain⟨⟨cl,o,da,ss⟩,k,rfl,j,rfl⟩:=g;have hsz:its.toArray.size+a.toArray.size<=A4:=by rw[Ax,Ax];lia
 have c:¬(!its.toArray.isEmpty && AH.List.listTooLong (its.toArray.size+a.toArray.size))=true:=by rw[qpj hsz,Dm];exact AF
 refine Ei F.slot_list_extend ⟨_,e,Z⟩ F.entry_list_extend (F.args_list_extend_2 _ _)
  (ext_tup l b its.toArray a.toArray n j o ss c (by rw[Ax];lia) (by lia)) ⟨e,k,?_⟩
 refine⟨.non,_,I.lset (its':=its++a) d e (by simp) (r.append f) ?_,Z,q⟩;rw[Ag];lia
noncomputable def strN:Option Str->V
 |none=>.non
 |some y=>.str y
theorem qui:qer X (.type "str") (λxs H Q=>∃o:Option Str,xs=[strN o]/\Q (.str (o.getD "None")) H):=by
 intro pins s σ H xs us Q I r h;obtain⟨o,rfl,q⟩:=h;cases o with
 |none =>obtain⟨u,rfl,e⟩:=qf5 r;cases e;exact PySem.P.str_of_none ⟨.str _,H,I.tok _,⟨_,Z⟩,q⟩
 |some y =>obtain⟨u,rfl,t,rfl⟩:=qf5 r;exact PySem.P.str_of_str ⟨.str _,H,I,⟨_,Z⟩,q⟩
end
section
variable {X:Cx}
end
end Add
namespace Sts
open PySem PyProof.Rows
section
variable {prog:AK}{w:World}{A:AX}{E:Value->Af->Prop}{s:Af}
def SetP (prog:AK)(w:World)(h:Heap)(a:Addr)(S:Str->Bool)(n:Nat):Prop :=
 ∃o es ep t,h.get? a=some o/\o.ExactSet/\o.data=.set es ep t/\ElemsOf (strKind prog w) es.toList/\(∀k,S k=true ↔ ∃e∈es.toList,(strKind prog w).is k e.2=true)
  /\ es.size<scanBound/\t.fits es.size=true/\es.size=n/\(es.size=0\/t.plain=false)
theorem qp7 {t:Ce}{es:Array (Int×Value)}{k:Nat}(h:t.plain=false):(relayAll t es k).2.1.plain=false:=by
 unfold relayAll;split
 .rename_i t' order q;dsimp only;split
  .unfold Ce.relaid Ce.laid at q;simp only[Option.bind_eq_bind,Option.bind_eq_some_iff,Option.pure_def,Option.some.injEq,Prod.mk.injEq]at q;obtain⟨live,_,a,_⟩:=q;rw[<- a];exact h
  .rfl
 .rfl
theorem qwz {h:Heap}{a:Addr}{o:Obj}{es es':Array (Int×Value)}{ep:Nat}{t t':Ce}(b:h.get? a=some o)(hd:o.data=.set es ep t):(h.update a (Obj.putSet es' t')).get? a=some {o with data:=.set es' (ep+1) t'}:=by have:=Bg (Obj.putSet es' t') b (by rw[putSet_of es' t' hd];rfl);rw[putSet_of es' t' hd]at this;exact this
theorem qw0 (k:Str)(tok:Tok):(strKind prog w).is k (.str k tok)=true:=by show DJ k (.str k tok)=true;simp[DJ]
theorem putStrS {a:Addr}{S:Str->Bool}{n:Nat}{k:Str}{tok:Tok}{Q:Bool->Af->Prop}(hS:SetP prog w s.heap a S n)(room:n+1<scanBound)
  (v:∀h',Bf a s.heap h'->SetP prog w h' a (λz=>S z || decide (z=k)) (if S k then n else n+1)->Q (!S k) {s with heap:=h'}) :
  wpAny (model prog w) A (setAddHashed a (.str k tok) ((strKind prog w).hash k)) Q E s:=by
 obtain⟨o,es,ep,t,G,N,hd,y,m,Y,V,hn,ac⟩:=hS;have hk:=qw0 (prog:=prog) (w:=w) k tok;unfold setAddHashed setAddHashedIn;refine BL (Ab (Cw G hd V ?_));dsimp only;rw[byScan_of (x:=DQ k tok) Z Y y,if_pos Z];unfold setAddByScan;refine Ab (Ab (wpAny_rule (Ab (wpAny_setScan_of (knd:=strKind prog w) hk G hd V y ?_))));cases hr:es.toList.findIdx? (λe=>(strKind prog w).is k e.2) with
 |some j =>obtain⟨hj,W,_⟩:=List.findIdx?_eq_some_iff_getElem.mp hr;have J:S k=true:=(m k).mpr ⟨_,By hj,W⟩;rw[J]at v;refine Ao (Ao (v s.heap (Bf.refl a s.heap) ⟨o,es,ep,t,G,N,hd,y,λz=>?_,Y,V,hn,ac⟩));rw[<- m z,Bool.or_eq_true,decide_eq_true_eq];exact⟨λq=>q.elim id λe=>by rw[e];exact J,.inl⟩
 |none =>
  have J:S k=false:=by
   cases c:S k with
   |false=>rfl
   |true =>obtain⟨e,D,hp⟩:=(m k).mp c;rw[List.findIdx?_eq_none_iff.mp hr e D]at hp;cases hp
  rw[J]at v;dsimp only;have B:=layNew_perm t es ((strKind prog w).hash k) (.str k tok);have K:=layNew_fits t es ((strKind prog w).hash k) (.str k tok);generalize layNew t es ((strKind prog w).hash k) (.str k tok)=L at B K |-;obtain⟨d,t1,wd,gv⟩:=L;dsimp only at B K |-;rw[Array.toList_push]at B;have ad:=(y.push hk (x:=.str k tok) Z).perm B;have P:=mem_push_iff hk m B;have aa:d.size=n+1:=by rw[<- A7,B.length_eq,Ag,A7,hn];rfl
  have b1:d.size<scanBound:=by lia
  have U:∀(b:Bool){l:Af}{u:Unit->Af->Prop},u () l->wpAny (model prog w) A (match b with|true=>rule "set.scan.the-table-gave-way" |false=>pure ()) u E l:=λb l u C=>by
   cases b
   .exact Ao C
   .exact wpAny_rule C
  have I:∀(h':Heap)(i:Array (Int×Value))(H:Nat)(h:Ce),Bf a s.heap h'->h'.get? a=some {o with data:=.set i H h}->i.toList.Perm d.toList->h.fits i.size=true->h.plain=false->Q true {s with heap:=h'}:=λh' i H h sb g p f pl=>by
   have sz:i.size=d.size:=by rw[<- A7,p.length_eq,A7]
   exact v h' sb ⟨_,i,H,h,g,N,Z,ad.perm p,λz=>(P z).trans ⟨λ⟨e,D,q⟩=>⟨e,p.mem_iff.mpr D,q⟩,λ⟨e,D,q⟩=>⟨e,p.mem_iff.mp D,q⟩⟩,by lia,f,by rw[sz,aa];rfl,.inr pl⟩
  have F:∀(g:Bool->Sem Unit)(h:Ce),(∀(b:Bool)(l:Af)(u:Unit->Af->Prop),u () l->wpAny (model prog w) A (g b) u E l)->h.plain=false->h.fits d.size=true ->
    wpAny (model prog w) A (do
     storeSet a d h
     if (!wd && h.tooFull)=true then do
       g (relayAll h d (Ce.grown d.size)).2.2
       storeSet a (relayAll h d (Ce.grown d.size)).1 (relayAll h d (Ce.grown d.size)).2.1
       pure (some true)
      else pure (some true)) (λr l=>wpAny (model prog w) A (match r with|some added=>pure added|none=>setAddHashedIn a (.str k tok) ((strKind prog w).hash k) 99999) Q E l) E s:=λg h hg O f2=>by
   refine Ab (wpAny_storeSet_of G hd ?_ (fits_of_scanBound b1))
   have R:=qwz (es':=d) (t':=h) G hd
   have M:=Bf.update s.heap a (Obj.putSet d h)
   split
   .have T:=relayAll_perm h d (Ce.grown d.size);have rf:=relayAll_fits h d (Ce.grown d.size);have X:=qp7 (es:=d) (k:=Ce.grown d.size) O;generalize relayAll h d (Ce.grown d.size)=Rl at T rf X |-;obtain⟨i,t3,gv2⟩:=Rl;have z2:i.size<scanBound:=by
     have:i.size=d.size:=by rw[<- A7,T.length_eq,A7]
     lia
    refine Ab (hg _ _ _ ?_);refine Ab (wpAny_storeSet_of R Z ?_ (fits_of_scanBound z2));exact Ao (Ao (I _ i _ t3 (M.trans (Bf.update _ a _)) (qwz (o:={o with data:=.set d (ep+1) h}) R Z) T rf X))
   .exact Ao (Ao (I _ d _ h M R (Do.refl _) f2 O))
  refine Ab (U _ ?_);split
  .refine Ab ?_;rw[hashByValue_scannable 8 (x:=DQ k tok) Z];refine Ao (F _ _ (λb l u C=>U b C) Z (Ce.fits_plain_off K))
  .rename_i np;exact Ab (Ao (F _ t1 (λb l u C=>U b C) (by cases c:t1.plain;rfl;exact absurd c np) K))
theorem SetP.congr {h:Heap}{a:Addr}{S b:Str->Bool}{n c:Nat}(f:SetP prog w h a S n)(e:∀k,S k=b k)(d:n=c):SetP prog w h a b c:=by rw[<- d,<- (funext e:S=b)];exact f
theorem SetP.keep {h h':Heap}{a:Addr}{S:Str->Bool}{n:Nat}(c:SetP prog w h a S n)(k:∀o,h.get? a=some o->h'.get? a=some o):SetP prog w h' a S n:=by obtain⟨o,es,ep,t,b,qbm⟩:=c;exact⟨o,es,ep,t,k o b,qbm⟩
noncomputable def qm2 (acc:List Str)(x:Str):List Str:=if x∈acc then acc else acc++[x]
noncomputable def onceL (l:List Str):List Str:=l.foldl qm2 []
theorem qp8 (a:List Str)(x z:Str):z∈qm2 a x↔z∈a\/z=x:=by
 unfold qm2;by_cases c:x∈a
 .rw[if_pos c];exact⟨.inl,λq=>q.elim id λe=>by rw[e];exact c⟩
 .rw[if_neg c,Az,Ai]
theorem qw1 (a:List Str)(x:Str):(qm2 a x).length=if x∈a then a.length else a.length+1:=by
 unfold qm2;by_cases c:x∈a
 .rw[if_pos c,if_pos c]
 .rw[if_neg c,if_neg c,Ag];rfl
theorem once_nd {d:List Str}(h:d.Nodup)(x:Str):(qm2 d x).Nodup:=by
 unfold qm2;by_cases c:x∈d
 .rw[if_pos c];exact h
 .rw[if_neg c];exact AO.mpr ⟨h,by simp,λa f b g e=>c (by rw[<- Ai.mp g,<- e];exact f)⟩
theorem qlw (l:List Str)(x:Str):onceL (l++[x])=qm2 (onceL l) x:=by unfold onceL;rw[D8];rfl
theorem onceL_mem (l:List Str)(z:Str):z∈onceL l↔z∈l:=by
 have h:∀(l a:List Str),z∈l.foldl qm2 a↔z∈a\/z∈l:=λl=>by
  induction l with
  |nil=>intro a;simp
  |cons x l ih =>intro a;rw[List.foldl_cons,ih,qp8,An,or_assoc]
 rw[onceL,h];simp
theorem qp9 (l:List Str):(onceL l).Nodup:=by
 have h:∀(l a:List Str),a.Nodup->(l.foldl qm2 a).Nodup:=λl=>by
  induction l with
  |nil=>intro a h;exact h
  |cons x l ih=>intro a h;exact ih _ (once_nd h x)
 exact h l [] Dp
theorem onceL_le (l:List Str):(onceL l).length<=l.length:=(qp9 l).length_le_of_subset λz hz=>(onceL_mem l z).mp hz
end
section
variable {prog:AK}{w:World}{A:AX}{R:Result->Af->Prop}{I:Addr}{fp wr:List Addr}{G:Array GenState->Array GenState->Prop}{n:Nat}{P:Nat->Value->Prop}{St:Nat->Af->Prop}
theorem fill (W:WalksS prog w A.in1 I fp wr G n P St)(T:Addr)(D:T∉fp)(ss:List Str)(M:ss.length=n)(p:∀i v,P i v->∃k t,ss[i]?=some k/\v=.str k t)(h:n+1<scanBound) :
  ∀(m i:Nat)(s:Af),n-i=m->i<=n->St i s->SetP prog w s.heap T (λz=>decide (z∈onceL (ss.take i))) (onceL (ss.take i)).length ->
   (∀a,Moved (T::wr) G s a->SetP prog w a.heap T (λz=>decide (z∈onceL ss)) (onceL ss).length->R (.ok (.ret .none)) a) ->
   codeAny (model prog w) A (.builtin "set.update.loop" ⟨[.ref T,.ref I],[]⟩) R s:=by
 have H:T∉wr:=λq=>D (W.sub _ q)
 have sub:∀b∈wr,b∈T::wr:=λb q=>Ar _ q
 intro m
 induction m with
 |zero =>
  intro i s O N g j f;have e:i=n:=by lia
  subst e;rw[<- M,B8]at j;refine DN F.entry_set_update_loop ?_;rw[AX.under_plainId DT _];show wpAny _ A.in1 (pyNext (.ref I) >>= _) _ _ s;refine Ab (W.done s _ _ g λa d=>?_);exact Ao (f a (d.mono sub) (j.keep λo r=>d.heap T o H r))
 |succ m ih =>
  intro i s O N g j f;have lt:i<n:=by lia
  refine DN F.entry_set_update_loop ?_;rw[AX.under_plainId DT _];show wpAny _ A.in1 (pyNext (.ref I) >>= _) _ _ s;refine Ab (W.item i s _ _ lt g λv a J l d=>?_);obtain⟨k,t,hk,rfl⟩:=p i v J;have tk:ss.take (i+1)=ss.take i++[k]:=by rw[CV,hk];rfl
  have u:=j.keep (h':=a.heap) λo r=>d.heap T o H r;have K:=onceL_le (ss.take i);rw[AZ]at K;show wpAny _ A.in1 (holding [DQ k t] (setAdd T (.str k t)) >>= _) _ _ a;refine Ab (BL ?_);unfold setAdd;refine BL (Ab ((strKind prog w).pyHash (k:=k) (qw0 k t) ?_));refine putStrS (s:={a with toks:=a.toks+1}) u (by lia) λh' B y=>?_;have E:SetP prog w h' T (λz=>decide (z∈onceL (ss.take (i+1)))) (onceL (ss.take (i+1))).length:=y.congr (λz=>by
   rw[tk,qlw,<- Bool.decide_or];exact decide_eq_decide.mpr (qp8 _ _ _).symm) (by
   rw[tk,qlw,qw1];by_cases c:k∈onceL (ss.take i)
   .rw[if_pos c,if_pos (decide_eq_true c)]
   .rw[if_neg c,if_neg (by simp[c])])
  refine Ao ⟨plainId_quiet DT _,ih (i+1) _ (by lia) lt (W.frame _ a _ _ l (Cp _) λb h o e=>?_) E λL x C=>?_⟩
  .rw[B.2 b (λq:b=T=>D (by rw[<- q];exact h))];exact e
  .refine f L (Moved.trans W.gtrans ((d.mono sub).then_heap (Cp _) λb o h e=>?_) x) C;rw[B.2 b (λq:b=T=>h (by rw[q];exact Am))];exact e
end
end Sts
namespace Sts
open PySem PyProof.Rows
set_option maxRecDepth 100000
section
variable {prog:AK}{w:World}{A:AX}{E:Value->Af->Prop}{s:Af}
noncomputable abbrev qhh (led:Bool):Obj:={cls:=.type "set",dict:=none,data:=.set #[] 0 (.fresh 0 0 led)}
set_option maxHeartbeats 3200000 in
theorem quj {a:Value}{Q:Value->Af->Prop}
  (nx:∀led:Bool,wpAny (model prog w) A.in1.in1 (AH.«set.__init__» ⟨[.ref s.heap.objs.size,a],[]⟩)
    (λj g=>match j with | .done f=>wants (λr b=>r=.none/\Q (.ref s.heap.objs.size) b) E (.ok f) g | .again c'=>c'.quiet=true/\codeAny (model prog w) A.in1 c' (wants (λr b=>r=.none/\Q (.ref s.heap.objs.size) b) E) g)
    (λe g=>wants (λr b=>r=.none/\Q (.ref s.heap.objs.size) b) E (.error e) g) {s with heap:=s.heap.push (qhh led)}) :
  wpAny (model prog w) A (call (.type "set") [a]) Q E s:=by
 obtain⟨c,tl,hmro⟩:=Dw.mro;have k1:=Dw.made;have k2:=Dw.sub;have k3:=Dw.notType;have k4:=Dw.canCreate;have k5:=F.typeCall_set_1 a;refine Db (codeAny_of_tree ?_);show wpAny _ _ (callAny (.type "set") _) _ _ _;refine Ao ⟨Code.quiet_builtin _ En,DN F.entry_type_call ?_⟩;rw[AX.under_plain (weight_type_call_type "set" [a] []) Z]
 repeat (any_goals (first|assumption|wp_step))
 refine CA (code_set_new_1 a (E:=E) (Q₁:=λobj k=>∃led:Bool,obj=.ref s.heap.objs.size/\k={s with heap:=s.heap.push (qhh led)}) λled=>⟨led,Z,Z⟩) λr k h=>?_;rcases r with e|n
 .exact h
 rcases n with _|_|_|obj;all_goals (try exact h.elim)
 obtain⟨led,rfl,rfl⟩:=h;have m:Af.TypeIs {s with heap:=s.heap.push (qhh led)} (.ref s.heap.objs.size) "set" := ⟨_,Aw _ Z,Z⟩;have k6:=Dw.init.lookup;have k7:=Dw.init.bind (.ref s.heap.objs.size)
 repeat (any_goals (first|assumption|wp_step))
 refine CA (D9 Dw.init.plain F.entry_set_init (check_set_init_1 m (nx led))) λl b d=>?_;rcases l with e|i
 .exact d
 rcases i with _|_|_|r;all_goals (try exact d.elim)
 obtain⟨rfl,hq⟩:=d
 repeat (any_goals (first|assumption|wp_step))
end
end Sts
namespace Sts
open PySem PyProof.Rows
set_option maxRecDepth 100000
section
variable {prog:AK}{w:World}{A:AX}{E:Value->Af->Prop}{s:Af}
theorem mt_setP {h:Heap}{a:Addr}{led:Bool}(g:h.get? a=some (qhh led)):SetP prog w h a (λ_=>false) 0 :=
 ⟨_,#[],0,_,g,⟨Z,Z,Z⟩,Z,(λ_ q=>nomatch q),λk=>⟨(λq=>nomatch q),λ⟨_,q,_⟩=>nomatch q⟩,Ez,Z,Z,.inl Z⟩
set_option maxHeartbeats 3200000 in
theorem call_set_str {l:Addr}{items:Array Value}{ss:List Str}{Q:Value->Af->Prop}(G:A.handled=none)(hl:s.heap.IsList l items)(I:∀(i:Nat) (v:Value),items[i]?=some v->∃k t,ss[i]?=some k/\v=.str k t)(H:ss.length=items.size)(u:items.size+1<scanBound)
  (p:∀(h':Heap)(tk:Nat),SetP prog w h' s.heap.objs.size (λz=>decide (z∈onceL ss)) (onceL ss).length->(∀b o,s.heap.get? b=some o->h'.get? b=some o)->s.toks<=tk->Q (.ref s.heap.objs.size) {s with heap:=h',toks:=tk}) :
  wpAny (model prog w) A (call (.type "set") [.ref l]) Q E s:=by
 refine quj λled=>?_;obtain⟨⟨oc,od,odt,osl⟩,c,g,J,f⟩:=hl;simp only at g f;subst g;subst f;have K:(s.heap.push (qhh led)).get? s.heap.objs.size=some (qhh led):=Aw _ rfl;have j:=Aj (qhh led) c;have d:(s.heap.push (qhh led)).IsList l items:=⟨_,j,Z,J,Z⟩;have f1:=F.sub_list_set;have f2:=F.sub_list_frozenset;have f3:(BV "list" == BV "dict")=false:=by decide
 have r:=A1 c;unfold AH.«set.__init__» noKeywords AH.Frozenset.updateFrom;generalize L:pyIter=PI
 wp_walk
 subst L;refine D6 d (Ab (wpAny_runValue ?_));have sz:(s.heap.push (qhh led)).objs.size=s.heap.objs.size+1:=Bx _ _;have D:l≠(s.heap.push (qhh led)).objs.size:=by rw[sz];exact AG (Cu r)
 have y:s.heap.objs.size∉[(s.heap.push (qhh led)).objs.size,l]:=by rw[sz];simp only[An,Aq,or_false,not_or];exact⟨AG (Cc _),Cs r⟩
 refine fill ((Walks.list (A:=A.in1.in1.in1) (by simp[G]) _ l D items).toS) s.heap.objs.size y ss H I u items.size 0 _ (by lia) (B7 _) ⟨⟨_,Aw _ Z,Z,Z⟩,d.push _⟩ ?_ λB a m=>?_
 .exact(mt_setP (led:=led) (Aj _ K)).congr (λ_=>rfl) rfl
 .obtain⟨h',g',d',n,q⟩:=B;have C:g'=s.gens:=a.gens;have x:d'=s.drawn:=a.drawn;have M:q=s.os:=a.os;subst C;subst x;subst M;show wpAny _ _ _ _ _ _;refine Ao (Ao ⟨Z,p h' n m (λb o e=>?_) a.toks⟩);have h:=A1 e;refine a.heap b o ?_ (Aj _ (Aj _ e));simp only[An,Aq,or_false,not_or];exact⟨AG h,by rw[sz];exact AG (Cu h)⟩
end
end Sts
namespace Sts
open PySem PyProof.Rows
set_option maxRecDepth 100000
theorem qs1:Slot "set" "__iter__" "set.__iter__" := F.slot_set_iter
theorem qdl:Slot "set_iterator" "__next__" "set_iterator.__next__" :=
 .of (owner := "set_iterator") (n := "__next__") (by rw[DM,CL];kernel_rfl) En En En
  (by first|exact .inl En|exact .inr En) (by rw[isSubtype_type];kernel_rfl)
theorem qs2:Slot "set_iterator" "__iter__" "set_iterator.__iter__" :=
 .of (owner := "set_iterator") (n := "__iter__") (by rw[DM,CL];kernel_rfl) En En En
  (by first|exact .inl En|exact .inr En) (by rw[isSubtype_type];kernel_rfl)
theorem en_iter:entryFor table "set.__iter__"=some AH.«frozenset.__iter__» := entryFor_alias (id' := "frozenset.__iter__") (by kernel_rfl) rfl En (by kernel_rfl)
theorem qja:entryFor table "set_iterator.__next__"=some AH.«set_iterator.__next__» := entryFor_of_tree (by kernel_rfl)
theorem en_self:entryFor table "set_iterator.__iter__"=some AH.«dict_keyiterator.__iter__» := entryFor_alias (id' := "dict_keyiterator.__iter__") (by kernel_rfl) rfl En (by kernel_rfl)
theorem ar_iter (a:Value):argsOk "set.__iter__" ⟨[a],[]⟩:=F.args_set_iter_1 a
theorem qjb (a:Value):argsOk "set_iterator.__next__" ⟨[a],[]⟩:=by unfold argsOk;kernel_rfl
theorem ar_self (a:Value):argsOk "set_iterator.__iter__" ⟨[a],[]⟩:=by unfold argsOk;kernel_rfl
theorem no_text:typeLookup (.type "set") "__len__"=pure (some (.builtin "set.__len__")):=by rw[DM,CL];kernel_rfl
theorem qs3:∀{l:List Nat}{i:Nat}(a:i<l.length),(l[i]::l.eraseIdx i).Perm l
 |x::l,0,_=>Do.refl _
 |x::l,i+1,a=>(Do.swap x (l[i]'(Dx a)) (l.eraseIdx i)).trans ((List.perm_cons x).mpr (qs3 (Dx a)))
section
variable {M:Model}{A:AX}{E:Value->Af->Prop}{s:Af}
theorem quk {b:Source}{n:Nat}{Q:Nat->Af->Prop}(a:n≠0)(h:∀i d,i<n->Q i {s with drawn:=d}):wpAny M A (choose b n) Q E s:=λΓ p hΓ=>by unfold choose;rw[Sem.wp_choose];exact⟨a,h _ _ (Nat.mod_lt _ (Nat.pos_of_ne_zero a))⟩
theorem qs4:∀(n:Nat){xs:List Nat}{s:Af}{Q:List Nat->Af->Prop},xs.length=n->(∀ys d,ys.Perm xs->Q ys {s with drawn:=d})->wpAny M A (drawOrder n xs) Q E s
 |0,xs,s,Q,hl,h=>by unfold drawOrder;have e:xs=[]:=DU.mp hl;subst e;exact Ao (h [] s.drawn (Do.refl _))
 |n+1,[],s,Q,hl,h=>by cases hl
 |n+1,x::xs,s,Q,hl,h=>by unfold drawOrder;refine Ab (quk (by simp) λi d a=>?_);have b:(x::xs)[i]?=some (x::xs)[i]:=Al a;rw[b];refine Ab (qs4 n (by rw[List.length_eraseIdx_of_lt a,hl];rfl) λys c p=>Ao ?_);exact h _ c (((List.perm_cons _).mpr p).trans (qs3 a))
end
end Sts
namespace Sts
open PySem PyProof.Rows
set_option maxRecDepth 100000
section
variable {prog:AK}{w:World}{A:AX}{E:Value->Af->Prop}{s:Af}
def IsIt (h:Heap)(it:Addr)(first:Value)(S:Addr)(i n ep:Nat):Prop:=∃o,h.get? it=some o/\o.cls=.type "set_iterator" /\ o.data=.fields #[first,.int i 0,.ref S,.int n 0,.int ep 0]
def qoo (h:Heap)(S:Addr)(es:Array (Int×Value))(ep:Nat)(t:Ce):Prop:=∃o,h.get? S=some o/\o.cls=.type "set" /\ o.data=.set es ep t
theorem IsIt.ty {it S:Addr}{first:Value}{i n ep:Nat}(h:IsIt s.heap it first S i n ep):s.TypeIs (.ref it) "set_iterator" := by obtain⟨o,a,b,_⟩:=h;exact⟨o,a,b⟩
theorem IsIt.set {h:Heap}{it S:Addr}{first:Value}{i n ep:Nat}(H:IsIt h it first S i n ep){k:Nat}{x:Value}{a:Array Value}(e:(#[first,.int i 0,.ref S,.int n 0,.int ep 0]:Array Value).setIfInBounds k x=a):∃o,(h.update it (CC (·.setIfInBounds k x))).get? it=some o/\o.cls=.type "set_iterator" /\ o.data=.fields a:=by obtain⟨o,b,c,hd⟩:=H;exact⟨_,Bg _ b (Cz (BX hd _)),(Obj.cls_mapFields ..).trans c,by rw[BX hd,e]⟩
theorem itemT {it S:Addr}{i ep:Nat}{es:Array (Int×Value)}{t:Ce}{e:Int×Value}{Q:Option Value->Af->Prop}(b:IsIt s.heap it (.int 0 0) S i es.size ep)(B:qoo s.heap S es ep t)(h:t.fits es.size=true)(l:w.params.followText "set-order"=true)
  (z:(pickOrder (w.params.setOrder S ep) es)[i]?=some e)(u:∀h',IsIt h' it (.int 0 0) S (i+1) es.size ep->Bf it s.heap h'->Q (some e.2) {s with heap:=h'}) :
  wpAny (model prog w) A (pyNext (.ref it)) Q E s:=by
 obtain⟨o,m,hc,hd⟩:=id b;obtain⟨oS,c,_,d⟩:=B;unfold pyNext;refine Ab (CB (BD (name:=Aa "__next__") b.ty qdl
  (BP qdl b.ty qja ?_ (qjb _))))
 show wpAny _ _ (fieldsOf (.ref it) >>= _) _ _ s;refine Ab (Eb m hd ?_);show wpAny _ _ (setEntries S >>= _) _ _ s;refine Ab (C9 c d h ?_);rw[if_neg (by simp)];show wpAny _ _ (setNext S 0 (i:Int).toNat (ep:Int).toNat >>= _) _ _ s;refine Ab ?_;unfold setNext;refine Ab (Cw c d h ?_);unfold setsByText;refine Ab (Ab (C2 (Ao ?_)));dsimp only;rw[if_pos (show (model prog w).w.params.followText "set-order"=true from l),if_neg (by simp)];refine Ab ?_;unfold setWalk;refine Ab (Cw c d h ?_);unfold setsByText;refine Ab (Ab (C2 (Ao ?_)));dsimp only;rw[if_pos (show (model prog w).w.params.followText "set-order"=true from l)];refine Ab (C2 (Ao (Ao ?_)));have q:(pickOrder ((model prog w).w.params.setOrder S ep) es)[(i:Int).toNat]?=some e:=z;rw[q];dsimp only[Option.map];obtain⟨v,g,r,f⟩:=b.set (k:=0) (x:=rawInt ((0:Nat):Int)) (a:=#[.int 0 0,.int i 0,.ref S,.int es.size 0,.int ep 0]) rfl;obtain⟨y,p,j,n⟩:=(show IsIt _ it (.int 0 0) S i es.size ep from ⟨v,g,r,f⟩).set (k:=1) (x:=rawInt ((i:Int)+1)) (a:=#[.int 0 0,.int ((i+1:Nat):Int) 0,.ref S,.int es.size 0,.int ep 0]) rfl;refine Ab (Cb m hd (Nat.zero_lt_succ _) ?_);refine Ab (Cb g f (show 1<5 by decide) (Ao ⟨_,Z,Ao (u _ ⟨y,p,j,n⟩ ((Bf.update ..).trans (Bf.update ..)))⟩))
theorem itemD {it S c:Addr}{i ep y:Nat}{es:Array (Int×Value)}{t:Ce}{n:Obj}{ys:List Nat}{j:Nat}{e:Int×Value}{Q:Option Value->Af->Prop}(b:IsIt s.heap it (.ref c) S i es.size ep)(D:qoo s.heap S es ep t)(u:t.fits es.size=true)
  (l:s.heap.get? c=some n)(h:n.data=.seq (ys.map λ(k:Nat)=>rawInt k).toArray y)(F:ys[i]?=some j)(B:es[j]?=some e)(v:∀h',IsIt h' it (.ref c) S (i+1) es.size ep->Bf it s.heap h'->Q (some e.2) {s with heap:=h'}) :
  wpAny (model prog w) A (pyNext (.ref it)) Q E s:=by
 obtain⟨o,m,hc,hd⟩:=id b;obtain⟨oS,d,_,f⟩:=D;unfold pyNext;refine Ab (CB (BD (name:=Aa "__next__") b.ty qdl
  (BP qdl b.ty qja ?_ (qjb _))))
 show wpAny _ _ (fieldsOf (.ref it) >>= _) _ _ s;refine Ab (Eb m hd ?_);show wpAny _ _ (setEntries S >>= _) _ _ s;refine Ab (C9 d f u ?_);rw[if_neg (by simp)];show wpAny _ _ (seqItems? (.ref c) >>= _) _ _ s;refine Ab (Ci l h ?_);dsimp only;have C:(ys.map λ(k:Nat)=>rawInt k).toArray[(i:Int).toNat]?=some (rawInt (j:Int)):=by rw[Cv,CM,Ak,F];rfl
 rw[C];dsimp only[rawInt];refine Ab ?_;unfold setNextDrawn;refine Ab (Cw d f u ?_);dsimp only;rw[if_neg (by simp)];have r:es[(j:Int).toNat]?=some (e.1,e.2):=B;rw[r];refine Ao ?_;obtain⟨z,q,g,p⟩:=b.set (k:=1) (x:=rawInt ((i:Int)+1)) (a:=#[.ref c,.int ((i+1:Nat):Int) 0,.ref S,.int es.size 0,.int ep 0]) rfl;refine Ab (Cb m hd (show 1<5 by decide) (Ao ⟨_,Z,Ao (v _ ⟨z,q,g,p⟩ (Bf.update ..))⟩))
theorem qop {Q:Option Value->Af->Prop}{s0:Af}{it:Addr}(f:A.handled=none)(h:DS it s0.heap s.heap)(g:∀h',DS it s0.heap h'->Q none {s with heap:=h'}) :
  wpAny (model prog w) A.in1 (do let e <- newExc (.type "StopIteration") [];raiseNew e:Sem Fin) (λd c=>∃v,d=Fin.done (Flow.ret v)/\wpAny (model prog w) A (pure (some v)) Q E c)
   (λe c=>wpAny (model prog w) A (do let b <- isInstance e (BV "StopIteration");if b=true then pure none else throw e) Q E c) s:=by
 refine Ab ?_
 simp only[newExc,newTuple]
 refine Ab (Cm ?_ (by size_fits))
 refine Ab (m:=firstArgMember _ _) (wpAny_of_eq (a:=BE) (by first|rfl | (simp only[firstArgMember];rfl)) ?_)
 refine Cm ?_ (by size_fits)
 simp only[raiseNew]
 refine Ab (wpAny_handled ?_)
 rw[show A.in1.handled=none from f]
 refine Ab (Ao (wpAny_throw ?_))
 refine Ab (wpAny_isInstance (T := "StopIteration") (b:=true) ⟨_,Aw _ Z,Z⟩ isSubtype_stop ?_)
 exact Ao (g _ ((h.push _).push _))
theorem doneT {it S:Addr}{i ep:Nat}{es:Array (Int×Value)}{t:Ce}{Q:Option Value->Af->Prop}(j:A.handled=none)(b:IsIt s.heap it (.int 0 0) S i es.size ep)(l:qoo s.heap S es ep t)(d:t.fits es.size=true)(e:w.params.followText "set-order"=true)
  (k:(pickOrder (w.params.setOrder S ep) es)[i]?=none)(h:∀h',DS it s.heap h'->Q none {s with heap:=h'}) :
  wpAny (model prog w) A (pyNext (.ref it)) Q E s:=by
 obtain⟨o,f,hc,hd⟩:=id b;obtain⟨oS,a,_,c⟩:=l;unfold pyNext;refine Ab (CB (BD (name:=Aa "__next__") b.ty qdl
  (BP qdl b.ty qja ?_ (qjb _))))
 show wpAny _ _ (fieldsOf (.ref it) >>= _) _ _ s;refine Ab (Eb f hd ?_);show wpAny _ _ (setEntries S >>= _) _ _ s;refine Ab (C9 a c d ?_);rw[if_neg (by simp)];show wpAny _ _ (setNext S 0 (i:Int).toNat (ep:Int).toNat >>= _) _ _ s;refine Ab ?_;unfold setNext;refine Ab (Cw a c d ?_);unfold setsByText;refine Ab (Ab (C2 (Ao ?_)));dsimp only;rw[if_pos (show (model prog w).w.params.followText "set-order"=true from e),if_neg (by simp)];refine Ab ?_;unfold setWalk;refine Ab (Cw a c d ?_);unfold setsByText;refine Ab (Ab (C2 (Ao ?_)));dsimp only;rw[if_pos (show (model prog w).w.params.followText "set-order"=true from e)];refine Ab (C2 (Ao (Ao ?_)));have g:(pickOrder ((model prog w).w.params.setOrder S ep) es)[(i:Int).toNat]?=none:=k;rw[g];dsimp only[Option.map];refine Ab (Cb f hd (show 2<5 by decide) ?_);exact qop (s0:=s) j (Bf.update ..).extBut h
theorem doneE {it S:Addr}{i ep:Nat}{es:Array (Int×Value)}{t:Ce}{Q:Option Value->Af->Prop}(j:A.handled=none)(b:IsIt s.heap it (.int 0 0) S i es.size ep)(l:qoo s.heap S es ep t)(f:t.fits es.size=true)(k:w.params.followText "set-order"=false)
  (h:es=#[])(g:∀h',DS it s.heap h'->Q none {s with heap:=h'}) :
  wpAny (model prog w) A (pyNext (.ref it)) Q E s:=by
 subst h;obtain⟨o,e,hc,hd⟩:=id b;obtain⟨oS,c,_,d⟩:=l;unfold pyNext;refine Ab (CB (BD (name:=Aa "__next__") b.ty qdl
  (BP qdl b.ty qja ?_ (qjb _))))
 show wpAny _ _ (fieldsOf (.ref it) >>= _) _ _ s;refine Ab (Eb e hd ?_);show wpAny _ _ (setEntries S >>= _) _ _ s;refine Ab (C9 c d f ?_);rw[if_neg (by simp)];show wpAny _ _ (setNext S 0 (i:Int).toNat (ep:Int).toNat >>= _) _ _ s;refine Ab ?_;unfold setNext;refine Ab (Cw c d f ?_);unfold setsByText;refine Ab (Ab (C2 (Ao ?_)));dsimp only;rw[if_neg (show ¬(model prog w).w.params.followText "set-order"=true by rw[show (model prog w).w.params.followText "set-order"=false from k];decide)];rw[if_neg (λz=>by have:((!t.plain && decide ((#[]:Array (Int×Value)).size > 1))=true):=z;simp at this)];refine Ab (m:=(_:Sem Unit)) (wpAny_of_eq (a:=()) (by show (if (!t.led && !true)=true then _ else pure ())=_;simp) ?_);refine Ao ?_;refine Ab (Cb e hd (show 2<5 by decide) ?_);exact qop (s0:=s) j (Bf.update ..).extBut g
theorem doneD {it S c:Addr}{i ep p:Nat}{es:Array (Int×Value)}{t:Ce}{l:Obj}{ys:List Nat}{Q:Option Value->Af->Prop}(q:A.handled=none)(b:IsIt s.heap it (.ref c) S i es.size ep)(u:qoo s.heap S es ep t)(v:t.fits es.size=true)
  (h:s.heap.get? c=some l)(e:l.data=.seq (ys.map λ(k:Nat)=>rawInt k).toArray p)(y:ys[i]?=none)(n:∀h',DS it s.heap h'->Q none {s with heap:=h'}) :
  wpAny (model prog w) A (pyNext (.ref it)) Q E s:=by
 obtain⟨o,j,hc,hd⟩:=id b;obtain⟨oS,f,_,m⟩:=u;unfold pyNext;refine Ab (CB (BD (name:=Aa "__next__") b.ty qdl
  (BP qdl b.ty qja ?_ (qjb _))))
 show wpAny _ _ (fieldsOf (.ref it) >>= _) _ _ s;refine Ab (Eb j hd ?_);show wpAny _ _ (setEntries S >>= _) _ _ s;refine Ab (C9 f m v ?_);rw[if_neg (by simp)];show wpAny _ _ (seqItems? (.ref c) >>= _) _ _ s;refine Ab (Ci h e ?_);dsimp only;have r:(ys.map λ(k:Nat)=>rawInt k).toArray[(i:Int).toNat]?=none:=by rw[Cv,CM,Ak,y];rfl
 rw[r];dsimp only;obtain⟨o1,g,hc1,d⟩:=b.set (k:=0) (x:=rawInt 0) (a:=#[.int 0 0,.int i 0,.ref S,.int es.size 0,.int ep 0]) rfl;refine Ab (Cb j hd (Nat.zero_lt_succ _) ?_);refine Ab (Cb g d (show 2<5 by decide) ?_);exact qop (s0:=s) q ((Bf.update ..).trans (Bf.update ..)).extBut n
end
end Sts
namespace Sts
open PySem PyProof.Rows
set_option maxRecDepth 100000
theorem qqa {α:Type}:∀{l:List α}{i:Nat}(a:i<l.length),(l[i]::l.eraseIdx i).Perm l
 |x::l,0,_=>Do.refl _
 |x::l,i+1,a=>(Do.swap x (l[i]'(Dx a)) (l.eraseIdx i)).trans ((List.perm_cons x).mpr (qqa (Dx a)))
theorem qs5 {α:Type}(f:Nat->Nat):∀(fuel k:Nat)(left:List α)(out:Array α),left.length=fuel->(pickOrder.go f fuel k left out).toList.Perm (out.toList++left)
 |0,k,left,out,hl=>by rw[DU.mp hl,Bm];unfold pickOrder.go;exact Do.refl _
 |fuel+1,k,left,out,hl=>by unfold pickOrder.go;have a:f k % left.length<left.length:=Nat.mod_lt _ (by lia);rw[Al a];dsimp only;refine(qs5 f fuel (k+1) _ _ (by rw[List.length_eraseIdx_of_lt a,hl];rfl)).trans ?_;rw[Array.toList_push,AE];exact Do.append_left _ (qqa a)
theorem qul {α:Type}(f:Nat->Nat)(xs:Array α):(pickOrder f xs).toList.Perm xs.toList:=by unfold pickOrder;exact qs5 f xs.size 0 xs.toList #[] (by rw[A7])
noncomputable def atE (es:Array (Int×Value))(j:Nat):Value:=(es[j]?.map (·.2)).getD .none
theorem at_perm {es:Array (Int×Value)}{ys:List Nat}(p:ys.Perm (B4 es.size)):(ys.map (atE es)).Perm (es.toList.map (·.2)):=by
 refine(p.map _).trans (Do.of_eq ?_);refine Bz λi=>?_;have a:es.toList[i]?=es[i]?:=C0;rw[Ak,Ak,a];by_cases c:i<es.size
 .rw[List.getElem?_range c,BG c];show some (atE es i)=_;unfold atE;rw[BG c];rfl
 .rw[Bh (by rw[C4];lia),Ec (by lia)];rfl
section
variable {prog:AK}{w:World}{A:AX}{E:Value->Af->Prop}{s:Af}
inductive Md (w:World) (S:Addr) (es:Array (Int×Value)) (ep:Nat):Value->List Addr->List Nat->List Value->Prop where
 |text (h:w.params.followText "set-order"=true):Md w S es ep (.int 0 0) [] [] ((pickOrder (w.params.setOrder S ep) es).toList.map (·.2))
 |drawn (tp:Addr) (ys:List Nat) (p:ys.Perm (B4 es.size)):Md w S es ep (.ref tp) [tp] ys (ys.map (atE es))
 |none (h:w.params.followText "set-order"=false) (h0:es=#[]):Md w S es ep (.int 0 0) [] [] []
theorem Md.perm {S:Addr}{es:Array (Int×Value)}{ep:Nat}{first:Value}{xs:List Addr}{ys:List Nat}{vs:List Value}(m:Md w S es ep first xs ys vs):vs.Perm (es.toList.map (·.2)):=by
 cases m with|text h=>exact(qul _ _).map _|drawn tp ys p=>exact at_perm p|none h h0=>rw[h0];exact Do.refl _
theorem Md.len {S:Addr}{es:Array (Int×Value)}{ep:Nat}{first:Value}{xs:List Addr}{ys:List Nat}{vs:List Value}(m:Md w S es ep first xs ys vs):vs.length=es.size:=by rw[m.perm.length_eq,Ac,A7]
def TpAt (h:Heap)(xs:List Addr)(ys:List Nat):Prop:=∀tp∈xs,∃ot n',h.get? tp=some ot/\ot.data=.seq (ys.map λ(k:Nat)=>rawInt k).toArray n'
def StI (I S:Addr)(es:Array (Int×Value))(ep:Nat)(t:Ce)(first:Value)(xs:List Addr)(ys:List Nat)(i:Nat)(s:Af):Prop:=IsIt s.heap I first S i es.size ep/\qoo s.heap S es ep t/\TpAt s.heap xs ys
theorem StI.fr {I S:Addr}{es:Array (Int×Value)}{ep:Nat}{t:Ce}{first:Value}{xs:List Addr}{ys:List Nat}{i:Nat}(st:StI I S es ep t first xs ys i s){a:Af}(k:∀b∈I::S::xs,∀o,s.heap.get? b=some o->a.heap.get? b=some o):StI I S es ep t first xs ys i a:=by obtain⟨⟨o,h,f⟩,⟨d,l,g⟩,n⟩:=st;refine⟨⟨o,k I Am o h,f⟩,⟨d,k S (Ar _ Am) d l,g⟩,λx e=>?_⟩;obtain⟨c,j,p,m⟩:=n x e;exact⟨c,j,k x (Ar _ (Ar _ e)) c p,m⟩
theorem walks (y:A.handled=none){I S:Addr}{es:Array (Int×Value)}{ep:Nat}{t:Ce}{first:Value}{xs:List Addr}{ys:List Nat}{vs:List Value}(q:t.fits es.size=true)(m:Md w S es ep first xs ys vs)(nS:S≠I)(L:I∉xs) :
  WalksS prog w A I (I::S::xs) [I] (λa b=>b=a) vs.length (λi v=>vs[i]?=some v) (StI I S es ep t first xs ys) where
 sub:=λb c=>by rw[Ai.mp c];exact Am
 grefl:=λ_=>rfl
 gtrans:=λ_ _ _ J G=>G.trans J
 frame:=λi s h' tk st _ k=>st.fr k
 item:=λi s Q E f st g=>by
  have d:∀(v:Value) h',vs[i]?=some v->IsIt h' I first S (i+1) es.size ep->Bf I s.heap h'->Q (some v) {s with heap:=h'}:=λv h' N it j=>by
   have k:∀b o,b≠I->s.heap.get? b=some o->h'.get? b=some o:=λb o c e=>by rw[j.2 b c];exact e
   refine g v _ N ⟨it,?_,λx C=>?_⟩ ⟨λb o c e=>k b o (λz=>c (Ai.mpr z)) e,Z,Z,Z,A0 _⟩
   .obtain⟨B,K,H⟩:=st.2.1;exact⟨B,k S B nS K,H⟩
   .obtain⟨r,u,n,l⟩:=st.2.2 x C;exact⟨r,u,k x r (λz=>L (by rw[<- z];exact C)) n,l⟩
  cases m with
  |text h =>rw[Ac,A7]at f;have D:=BG f;exact itemT st.1 st.2.1 q h D λh' it j=>d _ h' (by rw[Ak,C0,D];rfl) it j
  |drawn tp ys p =>rw[Ac]at f;have F:ys[i]?=some ys[i]:=Al f;have hl:ys[i]<es.size:=Dj.mp (p.mem_iff.mp (By f));obtain⟨r,u,n,l⟩:=st.2.2 tp Am;exact itemD st.1 st.2.1 q n l F (BG hl) λh' it j=>d _ h' (by rw[Ak,F];show some (atE es ys[i])=_;unfold atE;rw[BG hl];rfl) it j
  |none h h0=>exact absurd f (CQ _)
 done:=λs Q E st g=>by
  have d:∀h',DS I s.heap h'->Q none {s with heap:=h'}:=λh' M=>g _ ⟨λb o c e=>M b o (λz=>c (Ai.mpr z)) e,Z,Z,Z,A0 _⟩;cases m with
  |text h=>exact doneT y st.1 st.2.1 q h (Ec (by rw[Ac,A7];exact A0 _)) d
  |drawn tp ys p =>obtain⟨r,u,n,l⟩:=st.2.2 tp Am;exact doneD y st.1 st.2.1 q n l (Bh (by rw[Ac];exact A0 _)) d
  |none h h0=>exact doneE y st.1 st.2.1 q h h0 d
 self:=λi s Q E st g=>by refine wpAny_pyIter_slot st.1.ty qs2 (BP qs2 st.1.ty en_self ?_ (ar_self _));show wpAny _ _ (ret (.ref I)) _ _ s;exact Ao ⟨_,Z, "set_iterator",_,st.1.ty,qdl.lookup,g⟩
end
end Sts
namespace Sts
open PySem PyProof.Rows
set_option maxRecDepth 100000
section
variable {prog:AK}{w:World}{A:AX}{E:Value->Af->Prop}{s:Af}
structure Went (s s':Af):Prop where
 keep:∀b o,s.heap.get? b=some o->s'.heap.get? b=some o
 gens:s'.gens=s.gens
 os:s'.os=s.os
 toks:s.toks<=s'.toks
theorem qw2 {S:Addr}{es:Array (Int×Value)}{ep:Nat}{t:Ce}{Q:Value->Af->Prop}(C:qoo s.heap S es ep t)(m:t.fits es.size=true)(D:es.size=0\/t.plain=false)(h1:es.size≠1)(hz:es.size<=A4)
  (u:∀j I first xs ys vs,Md w S es ep first xs ys vs->StI I S es ep t first xs ys 0 j->(∀b∈I::S::xs,b<j.heap.objs.size)->(∀b∈I::xs,s.heap.objs.size<=b)->I∉xs->Went s j->Q (.ref I) j) :
  wpAny (model prog w) A (pyIter (.ref S)) Q E s:=by
 obtain⟨n,a,l,f⟩:=id C;have ty:s.TypeIs (.ref S) "set" := ⟨n,a,l⟩;have y:=A1 a;refine wpAny_pyIter_slot ty qs1 (BP qs1 ty en_iter ?_ (ar_iter _));show wpAny _ _ (AH.Frozenset.sizeOf S >>= _) _ _ s;refine Ab ?_;unfold AH.Frozenset.sizeOf;refine Ab (C9 a f m (Ao ?_));refine Ab ?_;unfold setDrawn;refine Ab (Cw a f m ?_);unfold setsByText;refine Ab (Ab (C2 (Ao (Ao ?_))));dsimp only;have plain:∀(g:Md w S es ep (.int 0 0) [] [] (match w.params.followText "set-order" with|true=>(pickOrder (w.params.setOrder S ep) es).toList.map (·.2)|false=>[])),wpAny (model prog w) A.in1 (do ret (<- newFields "set_iterator" [rawInt 0,rawInt 0,.ref S,rawInt es.size,rawInt (<- setEpoch S)])) (λx j=>∃v,x=Fin.done (Flow.ret v)/\∃T' r,j.TypeIs v T'/\typeLookup (.type T') "__next__"=pure (some r)/\Q v j) E s:=λg=>by
  refine Ab (wpAny_setEpoch_of a f m ?_);refine Ab (Cm (Ao ⟨_,Z, "set_iterator",_,⟨_,Aw _ Z,Z⟩,qdl.lookup,?_⟩) (by size_fits));refine u _ _ _ _ _ _ g ⟨⟨_,Aw _ Z,Z,Z⟩,⟨n,Aj _ a,l,f⟩,(λ_ q=>nomatch q)⟩ (λb h=>?_) (λb h=>?_) (λq=>nomatch q) ⟨λb o e=>Aj _ e,Z,Z,A0 _⟩
  .show b<(s.heap.push _).objs.size;rw[Bx];rcases An.mp h with z|z
   .rw[z];exact Cc _
   .rw[Ai.mp z];exact Cu y
  .rw[Ai.mp h];exact A0 _
 cases k:w.params.followText "set-order" with
 |true =>rw[k]at plain;rw[if_neg (by show ¬((!(w.params.followText "set-order") && _)=true);rw[k];simp)];exact Ab (Ao (plain (.text k)))
 |false =>
  rw[k]at plain;by_cases c:es.size=0
  .rw[if_neg (by
    show ¬((!(w.params.followText "set-order") && (!t.plain && decide (es.size > 1)))=true)
    rw[c];simp)]
   exact Ab (Ao (plain (.none k (Array.eq_empty_of_size_eq_zero c))))
  .have B:t.plain=false:=D.resolve_left c;rw[if_pos (by show (!(w.params.followText "set-order") && (!t.plain && decide (es.size > 1)))=true;rw[k,B];simp;lia)];refine Ab (qs4 es.size (C4) λys d p=>?_);refine Ab (wpAny_newTuple (items:=ys.map λ(i:Nat)=>rawInt i) ?_ (by rw[Ac,p.length_eq,C4];exact hz));refine Ab (wpAny_setEpoch_of (Aj _ a) f m ?_);refine Ab (Cm (Ao ⟨_,Z, "set_iterator",_,⟨_,Aw _ Z,Z⟩,qdl.lookup,?_⟩) (by size_fits));refine u _ _ _ _ _ _ (.drawn _ ys p) ⟨⟨_,Aw _ Z,Z,Z⟩,⟨n,Aj _ (Aj _ a),l,f⟩,λtp q=>?_⟩ (λb h=>?_) (λb h=>?_) (λq=>?_) ⟨λb o e=>Aj _ (Aj _ e),Z,Z,A0 _⟩
   .rw[Ai.mp q];exact⟨_,0,Aj _ (Aw _ Z),Z⟩
   .show b<((s.heap.push _).push _).objs.size;rw[Bx,Bx];rcases An.mp h with z|z
    .rw[z];show (s.heap.push _).objs.size<_;rw[Bx];exact Cc _
    rcases An.mp z with z|z
    .rw[z];exact Cu (Cu y)
    .rw[Ai.mp z];exact Cu (Cc _)
   .rcases An.mp h with z|z
    .rw[z];show _<=(s.heap.push _).objs.size;rw[Bx];exact Cp _
    .rw[Ai.mp z];exact A0 _
   .have q:=Ai.mp q;have:(s.heap.push _).objs.size=s.heap.objs.size:=q;rw[Bx]at this;exact absurd this (Nat.succ_ne_self _)
end
end Sts
namespace Sts
open PySem PyProof.Rows
set_option maxRecDepth 100000
section
variable {prog:AK}{w:World}{A:AX}{E:Value->Af->Prop}{s:Af}
theorem qw3 {x:Value}{Q:Bool->Af->Prop}(c:s.TypeIs x "set")(h:Q false s):wpAny (model prog w) A (AH.List.listLengthHint x) Q E s:=by
 unfold AH.List.listLengthHint;refine Ab (wpAny_specialOf c no_text ?_);generalize a:("set.__len__" : String)=id0
 wp_delta
 rw[show splitId id0=some ("set","__len__") from by subst a;decide +kernel];subst a;refine Ab (wpAny_isInstance (b:=true) c (by rw[isSubtype_type];kernel_rfl) ?_);refine Ab (wpAny_typeOf c ?_);exact Ao h
noncomputable abbrev qlx:Obj:={cls:=.type "list",data:=.seq ([]:List Value).toArray}
theorem items_eq {vs:List Value}{a:Array Value}(h:ItemsOf (λi v=>vs[i]?=some v) a vs.length):a.toList=vs:=by
 obtain⟨h1,d⟩:=h;refine Bz λi=>?_;rw[C0];by_cases c:i<vs.length
 .have b:a[i]?=some a[i]:=BG (by lia);rw[b];exact(d i _ b).symm
 .rw[Ec (by lia),Bh (by lia)]
theorem qqb {S:Addr}{es:Array (Int×Value)}{ep:Nat}{t:Ce}{Q:List Value->Af->Prop}(V:A.handled=none)(Y:qoo s.heap S es ep t)(N:t.fits es.size=true)(U:es.size=0\/t.plain=false)(R:es.size≠1)(hz:es.size<=A4)
  (O:∀f vs,vs.Perm (es.toList.map (·.2))->Went s f->s.heap.objs.size<=f.heap.objs.size->Q vs f):wpAny (model prog w) A (collect (.ref S)) Q E s:=by
 obtain⟨M,g,k,J⟩:=id Y;have j:=A1 g;have v:qoo (s.heap.push qlx) S es ep t:=⟨M,Aj _ g,k,J⟩;have x:(s.heap.push qlx).get? s.heap.objs.size=some qlx:=Aw _ rfl;unfold collect;refine Ab (wpAny_runValue (DN F.entry_proto_collect ?_));rw[AX.under_plainId F.plain_proto_collect _];show wpAny _ A.in1 (newList [] >>= λl=>again (.builtin "list.__iadd__" ⟨[l,.ref S],[]⟩)) _ _ s;refine Ab (Cm (Ao ⟨plainId_quiet F.plain_list_iadd _,DN F.entry_list_iadd ?_⟩));rw[AX.under_plainId F.plain_list_iadd _];show wpAny _ A.in1 (AH.List.listExtendWith (.ref s.heap.objs.size) (.ref S) (.ref s.heap.objs.size)) _ _ {s with heap:=s.heap.push qlx};unfold AH.List.listExtendWith;refine Ab (wpAny_typeOf (T := "set") ⟨M,Aj _ g,k⟩ ?_);rw[if_neg (by
  have e:AH.List.listSameRef (.ref s.heap.objs.size) (.ref S)=false:=by simp[AH.List.listSameRef];exact Cs j
  rw[e];decide)]
 refine Ab (qw2 v N U R hz λf I first xs ys vs md st lt X nx h=>?_);have G:(s.heap.push qlx).objs.size=s.heap.objs.size+1:=Bx _ _;have d:∀b∈I::xs,s.heap.objs.size+1<=b:=λb a=>by rw[<- G];exact X b a
 have L:s.heap.objs.size∉I::S::xs:=λq=>by
  rcases An.mp q with z|q
  .have:=d I Am;rw[<- z]at this;exact BJ _ this
  rcases An.mp q with z|q
  .rw[<- z]at j;exact BJ _ j
  .exact BJ _ (d _ (Ar _ q))
 have nS:S≠I:=λz=>by have:=d I Am;rw[<- z]at this;exact BJ _ (AB j (Nat.le_of_succ_le this))
 obtain⟨K,n,r,_⟩:=st.2.1;refine Ab (BL (qw3 ⟨K,n,r⟩ ?_));show wpAny _ A.in1 (rule "list.extend.makes-room" >>= λ_=>AH.List.listTouch (.ref s.heap.objs.size) >>= λ_ =>
  again (.builtin "list.extend.loop" ⟨[.ref s.heap.objs.size,.ref I,.ref s.heap.objs.size],[]⟩)) _ _ _
 have y:=h.keep _ _ x;refine Ab (wpAny_rule (Ab ?_));show wpAny _ A.in1 (updateSeq s.heap.objs.size (·.push .none) >>= λ_=>updateSeq s.heap.objs.size (·.pop)) _ _ _;refine Ab (wpAny_updateSeq y Z ?_);have B:=Bg (CI (·.push BE)) y rfl;refine wpAny_updateSeq B rfl ?_;have P:=Bg (CI (·.pop)) B rfl;have m:∀b o,b≠s.heap.objs.size->f.heap.get? b=some o->((f.heap.update s.heap.objs.size (CI (·.push BE))).update s.heap.objs.size (CI (·.pop))).get? b=some o :=
  λb o a e=>(Bv _ _ (Ba a)).trans ((Bv _ _ (Ba a)).trans e)
 have W:=walks (prog:=prog) (A:=A.in1) (by simpa using V) N md nS nx;refine Ao ⟨plainId_quiet F.plain_extend_loop _,codeAny_extend_loopS W (by rw[md.len];exact hz) _ L _ _ 0 _ _ _ Z (B7 _) (st.fr λb a o e=>m b o (λz=>L (by rw[<- z];exact a)) e) P (ItemsOf.nil _) λu C c i H p=>?_⟩;show wpAny _ A (load s.heap.objs.size >>= _) _ _ u;refine Ab (wpAny_load H (Ao ?_));show Q C.toList u;rw[items_eq p];refine O u vs md.perm ⟨λb o e=>?_,i.gens.trans h.gens,i.os.trans h.os,A3 h.toks i.toks⟩ (DD (A1 H));have a:=A1 e;have D:b≠s.heap.objs.size:=AG a;refine i.heap b o (λz=>?_) (m b o D (h.keep b o (Aj _ e)));rcases An.mp z with z|z
 .exact D z
 .have:=d I Am;rw[<- Ai.mp z]at this;exact BJ _ (AB a (Nat.le_of_succ_le this))
end
end Sts
namespace Sts
open PySem PyProof.Rows
set_option maxRecDepth 100000
theorem perm_of {D a:List Str}(f:D.Nodup)(sub:∀z∈D,z∈a)(l:a.length<=D.length):a.Perm D:=by
 induction D generalizing a with
 |nil=>rw[DU.mp (Nat.le_zero.mp l)]
 |cons d D ih =>
  obtain⟨c,b⟩:=AM.mp f;have hd:=sub d Am;refine(List.perm_cons_erase hd).trans ((List.perm_cons d).mpr (ih b (λz hz=>?_) ?_))
  .exact(List.mem_erase_of_ne (λe=>c (by rw[<- e];exact hz))).mpr (sub z (Ar _ hz))
  .rw[List.length_erase_of_mem hd];have:(d::D).length=D.length+1:=rfl;lia
theorem qqc:∀{vs:List Value},(∀v∈vs,∃k t,v=.str k t)->∃a,StrsAre vs a/\∀k t,DQ k t∈vs->k∈a
 | [],_=>⟨[],.nil,λ_ _ h=>nomatch h⟩
 |v::vs,h=>by
  obtain⟨k,t,rfl⟩:=h v Am;obtain⟨a,c,d⟩:=qqc λv f=>h v (Ar _ f);refine⟨k::a,.cons k t c,λe t' b=>?_⟩;rcases An.mp b with z|z
  .cases z;exact Am
  .exact Ar _ (d e t' z)
section
variable {prog:AK}{w:World}{A:AX}{E:Value->Af->Prop}{s:Af}
set_option maxHeartbeats 1000000 in
theorem sorted_setP {S:Addr}{ss:List Str}{Q:Value->Af->Prop}(K:A.handled=none)(T:SetP prog w s.heap S (λz=>decide (z∈onceL ss)) (onceL ss).length)(n1:(onceL ss).length≠1)(h64:(onceL ss).length<64)
  (B:∀s' q out a e,Went s s'->s.heap.objs.size<=q->s'.heap.get? q=some (seqObj "list" out e)->StrsAre out.toList a->a.Perm (onceL ss)->sortedS a=true->Q (.ref q) s') :
  wpAny (model prog w) A (call (.builtin "sorted") [.ref S]) Q E s:=by
 obtain⟨o,es,ep,t,M,y,hd,r,i,G,V,N,p⟩:=T;refine Calls.call_function_entry kind_sorted plain_sorted entry_sorted (args_sorted1 _) ?_;unfold AH.«sorted»;refine Ab (m:=checkCount "sorted" 1 1 _) (Ao ?_);refine Ab (qqb (by simpa using K) ⟨o,M,y.1,hd⟩ V p (by lia) (fits_of_scanBound G) λc vs l h L=>?_);have P:vs.length=(onceL ss).length:=by rw[l.length_eq,Ac,A7,N]
 obtain⟨F,g,I⟩:=qqc (vs:=vs) λv R=>by obtain⟨e,d,rfl⟩:=AS.mp (l.mem_iff.mp R);obtain⟨k,hk,_⟩:=(r e d).1;obtain⟨t,j⟩:=DI (show DJ k e.2=true from hk);exact⟨k,t,j⟩
 have J:F.Perm (onceL ss):=perm_of (qp9 ss) (λz hz=>by obtain⟨e,d,hk⟩:=(i z).mp (decide_eq_true hz);obtain⟨t,j⟩:=DI (show DJ z e.2=true from hk);exact I z t (l.mem_iff.mpr (AS.mpr ⟨e,d,j⟩))) (by rw[<- g.len_eq,P];exact A0 _);refine Ab (wpAny_newList ?_ (by rw[Bl];lia));have f:(c.heap.push (seqObj "list" vs.toArray 0)).get? c.heap.objs.size=some (seqObj "list" vs.toArray 0):=Aw _ rfl;show wpAny _ _ _ _ _ {c with heap:=c.heap.push (seqObj "list" vs.toArray 0)};refine Ab (BL (BP slot_list_sort ⟨_,f,Z⟩ entry_list_sort (list_sort_treeK (s:={c with heap:=c.heap.push (seqObj "list" vs.toArray 0)}) strKind_oneLt f g.keysOf (λv1 v2 qbm e=>keyKind_strs (by rw[<- e];exact g)) (by lia) λn U D=>⟨_,Z,?_⟩) (args_list_sort _)));obtain⟨a,H,C,O⟩:=sorted_out_str g U D;obtain⟨e,d⟩:=sortedHeap_at (out:=(arrOf n).map (·.2)) f;refine Ao ⟨_,Z,B _ _ _ a e ⟨λb u q=>?_,h.gens,h.os,h.toks⟩ L d H (C.trans J) O⟩;have x:=h.keep b u q;have lt:=A1 x;show (sortedHeap _ _ _ _).get? b=some u;rw[sortedHeap_old (AG lt) (by show b<(c.heap.push _).objs.size;rw[Bx];exact Cu lt)];exact Aj _ x
end
end Sts
namespace Add
open PySem PySem.Spec PyProof.Rows L2
theorem qqd:bootBuiltins "sorted"=some (.builtin "sorted"):=En
theorem qw4:bootBuiltins "set"=some (.type "set"):=En
section
variable {X:Cx}
def tSS (K:Ae)(t:TA):TE:=λσ H Q=>t σ H λvs H1=>∃(l:Addr)(ss:List Str),vs=[.ref l]/\SqL K H1 l (ss.map V.str)/\ss.length<=4000/\(Sts.onceL ss).length≠1/\(Sts.onceL ss).length<64/\∀(q:Addr)(ss':List Str),H1 q=none->ss'.Perm (Sts.onceL ss)->ss'.Pairwise leS->Q (.ref q) (upd H1 q (.lst (ss'.map V.str)))
theorem qjc {e:Expr}{t:TA}{p J pos d:Pos}(G:X.calm=true)(M:Gl X "sorted")(C:X.mg "sorted"=none)(z:Gl X "set")(D:X.mg "set"=none)(U:PA X [e] t)
  (S:starEach [e] X.env=(false,eval e X.env)::starEach [] X.env:=by rfl):PE X (.Call (.Name "sorted" p) [.Call (.Name "set" J) [e] [] d] [] pos) (tSS X.K t):=by
 intro g s σ H Q I h;refine B9 (qez I M C qqd ?_);refine Dk ?_ rfl rfl;show wpAny _ _ (spliced ((false,eval (.Call (.Name "set" J) [e] [] d) X.env)::[])) _ _ s;refine Dq ?_;refine B9 (qez I z D qw4 ?_);refine Br (thn (U d g s σ H _ I h) λus W ⟨vs,y,x,T,q1⟩=>?_) S rfl;obtain⟨l,ss,rfl,hq,l4,n1,L,q⟩:=q1;obtain⟨u,rfl,rx⟩:=qf5 T;cases rx;obtain⟨its,r',pl,hz⟩:=x.list hq;have B:=qi9 r';have O:=B.len_eq;have E:X.A.handled=none:=I.ok.hd G;refine Sts.call_set_str (ss:=ss) E pl.isList (λi v N=>?_) (by rw[Ax];exact O.symm) (by rw[Ax,O];unfold scanBound;lia) λh' tk P kp tl=>D7 ?_
 .obtain⟨k,t,e1,e2⟩:=B.item i v (by rw[CM]at N;exact N);exact⟨k,t,e2,e1⟩
 refine Sts.sorted_setP E P n1 L λn j out f c r ge hg so sp R=>?_;have m:W.heap.objs.size<=j:=by obtain⟨o,es,ep,t,ho,_⟩:=P;exact A3 (DD (A1 ho)) ge
 have F:ObjOk X.prog X.w (upd y j (.lst (f.map V.str))) n.heap j (.lst (f.map V.str)):=by have hl:=sp.length_eq;exact⟨by rw[Ac,hl];exact DD (qtw (by lia)),out.toList,c,qp3 so,hg⟩
 have a:=x.laid (t':=n.toks) (λb o e=>r.keep b o (kp b o e)) m F;have Y:Inv X g σ (upd y j (.lst (f.map V.str))) n:=⟨a.ok,by rw[r.os];exact a.os,by rw[r.gens];exact a.bare,a.base,a.loc,a.cell,a.free,a.freeC,a.pin,a.hok,a.len⟩;exact⟨.ref _,_,Y,Z,q _ f (x.hok.fresh m) sp (quh R)⟩
end
end Add
namespace Add
open PySem PySem.Spec PyProof.Rows L2
section
variable {X:Cx}{pins:List (Addr×Obj)}{σ:L2.St}{H:Hp}{s:Af}
theorem inv_frz {d:Addr}{o:Obj}{kvs:List (Key×V)}(I:Inv X pins σ H s)(hd:H d=some (.dK kvs))(i:s.heap.get? d=some o):Inv X pins σ (upd H d (.frz o (.dK kvs))) s:=by
 have a:∀b u,H b=some u->(∀k,u ≠ .dK k)->b≠d:=λb u e n z=>by rw[z,hd]at e;exact n kvs (A9 e).symm
 have f:∀b,H b=none->b≠d:=λb e z=>by rw[z,hd]at e;cases e
 refine⟨I.ok,I.os,I.bare,⟨I.base.keep,I.base.slot,λb u e n j=>?_,I.base.there,λb xs e=>?_,λb u v e=>?_,λb ps e=>?_⟩,I.loc,I.cell,?_,λx c e=>?_,λp r=>?_,λb u e=>?_,I.len⟩
 .have:=I.base.free b u e n j;rw[qp (f b this)];exact this
 .have:=I.base.tups b xs e;rw[qp (a b _ this λk z=>nomatch z)];exact this
 .have:=I.base.frzs b u v e;rw[qp (a b _ this λk z=>nomatch z)];exact this
 .obtain⟨m,this⟩:=I.base.tbls b ps e;exact⟨m,by rw[qp (a b _ this λk z=>nomatch z)];exact this⟩
 .rw[qp (f _ I.free)];exact I.free
 .rw[qp (f _ (I.freeC x c e))];exact I.freeC x c e
 .obtain⟨l,g,h⟩:=I.pin p r;exact⟨l,by rw[qp (f _ g)];exact g,h⟩
 .have st:∀{b u},ObjOk X.prog X.w H s.heap b u->ObjOk X.prog X.w (upd H d (.frz o (.dK kvs))) s.heap b u:=λ{b u} q=>q.stay (λ_ _ _ e=>e) (λc e=>by rw[qp (a c _ e λk z=>nomatch z)];exact e) λc xs e=>by rw[qp (a c _ e λk z=>nomatch z)];exact e
  by_cases z:b=d
  .rw[z]at e |-;rw[qi]at e;cases e;exact⟨i,st (I.hok d _ hd)⟩
  .rw[qp z]at e;exact st (I.hok b u e)
theorem qw5 {d:Addr}{o:Obj}{kvs:List (Key×V)}(I:Inv X pins σ H s)(hd:H d=some (.frz o (.dK kvs)))(i:∀u v,X.H₀ d≠some (.frz u v)):Inv X pins σ (upd H d (.dK kvs)) s:=by
 have a:∀b u,H b=some u->(∀k v,u ≠ .frz k v)->b≠d:=λb u e n z=>by rw[z,hd]at e;exact n _ _ (A9 e).symm
 have f:∀b,H b=none->b≠d:=λb e z=>by rw[z,hd]at e;cases e
 refine⟨I.ok,I.os,I.bare,⟨I.base.keep,I.base.slot,λb u e n j=>?_,I.base.there,λb xs e=>?_,λb u v e=>?_,λb ps e=>?_⟩,I.loc,I.cell,?_,λx c e=>?_,λp r=>?_,λb u e=>?_,I.len⟩
 .have:=I.base.free b u e n j;rw[qp (f b this)];exact this
 .have:=I.base.tups b xs e;rw[qp (a b _ this λk v z=>nomatch z)];exact this
 .have:=I.base.frzs b u v e;rw[qp (λz=>i u v (by rw[<- z];exact e))];exact this
 .obtain⟨m,this⟩:=I.base.tbls b ps e;exact⟨m,by rw[qp (a b _ this λk v z=>nomatch z)];exact this⟩
 .rw[qp (f _ I.free)];exact I.free
 .rw[qp (f _ (I.freeC x c e))];exact I.freeC x c e
 .obtain⟨l,g,h⟩:=I.pin p r;exact⟨l,by rw[qp (f _ g)];exact g,h⟩
 .have st:∀{b u},ObjOk X.prog X.w H s.heap b u->ObjOk X.prog X.w (upd H d (.dK kvs)) s.heap b u:=λ{b u} q=>q.stay (λ_ _ _ e=>e) (λc e=>by rw[qp (a c _ e λk v z=>nomatch z)];exact e) λc xs e=>by rw[qp (a c _ e λk v z=>nomatch z)];exact e
  by_cases z:b=d
  .rw[z]at e |-;rw[qi]at e;cases e;exact st (I.hok d _ hd).2
  .rw[qp z]at e;exact st (I.hok b u e)
def tForV (te:TE)(g:TG)(tb:TS):TS:=λD σ H=>te σ H λx H1=>∃(d:Addr)(kvs:List (Key×V)),x=.ref d/\H1 d=some (.dK kvs)/\∀o:Obj,∃Pv:Nat->L2.St->Hp->Prop,Pv 0 σ (upd H1 d (.frz o (.dK kvs)))/\(∀i σ H,Pv i σ H->H d=some (.frz o (.dK kvs))) /\
 (∀(i:Nat)(kv:Key×V)(σ:L2.St)(H:Hp),kvs[i]?=some kv->Pv i σ H->g kv.2 σ H λσ2 H2=>tb {nx:=Pv (i+1),rt:=λ_ _=>False,ct:=Pv (i+1)} σ2 H2)/\∀σ H,Pv kvs.length σ H->D.nx σ (upd H d (.dK kvs))
theorem kv_at {kvs:List (Key×V)}{vs:List (Key×Value)}(h:KV kvs vs){i:Nat}{a:Key×V}(e:kvs[i]?=some a):∃k u,vs[i]?=some (k,u)/\RelV a.2 u:=by
 induction h generalizing i with
 |nil=>cases e
 |cons r _ ih =>
  cases i with|zero=>cases e;exact⟨_,_,Z,r.2⟩|succ i=>exact ih e
theorem qrl {tg e:Expr}{M:List Stmt}{te:TE}{g:TG}{tb:TS}{pos C B:Pos}(O:B3 (model X.prog X.w) X.A X.env X.xe)(ae:X.calm=true)(he:PE X e te)(hg:PG X tg g)(l:PSs X M tb)
  (S:attributeBase e "values" X.env (eval e X.env)=eval e X.env:=by rfl)(hline:(C.endLine == B.line)=true:=by rfl)
  (hs:∀x,foldedSetIterable (.Call (.Attribute e "values" C) [] [] B) X.env x=pure x:=by intro _;rfl):PS X (.For tg (.Call (.Attribute e "values" C) [] [] B) M [] pos) (tForV te g tb):=by
 intro j s σ H D I h;refine wpAny_For ?_ hs;refine wpAny_Call_method0_late S hline (thn (he j s σ H _ I h) λv t ⟨x,P,I1,r1,q1⟩=>?_);obtain⟨d,kvs,rfl,hd,q⟩:=q1;cases r1;obtain⟨z,lo,vs,kv,N⟩:=qpn I1.hok hd;refine⟨"dict","dict.values",PySem.F.plainAttrs_dict,Dd,PySem.F.type_dict_values,N.typeIs,N.mapOf.noDict,DY Z (PySem.evalArgs_none ?_)⟩;refine call_meetsIn Dd N.typeIs PySem.F.entry_dict_values (PySem.F.args_dict_values_1 _) (meets_dict_values (qbv X.prog X.w) d lo) ⟨⟨vs,N⟩,?_⟩;obtain⟨ep,V⟩:=N.dictAt;obtain⟨o,es,ho,hx,ag,r1,r2,r3⟩:=id V;have Q:Inv X j σ P {t with heap:=t.heap.push {cls:=.type "dict_values",data:=.fields #[.ref d]} }:=I1.kept (t':=t.toks) λb o q=>Aj _ q;refine wpAny_pyIter_values (knd:=qbv X.prog X.w) (kvs:=vs) (ep:=ep) ⟨_,Aw _ Z,Z,Z⟩ (V.push _) ?_;obtain⟨Pv,p0,pd,step,ad⟩:=q o;have lk:kvs.length=vs.length:=kv.length;have h0:∀u v,X.H₀ d≠some (.frz u v):=λu v e=>by have:=I1.base.frzs d u v e;rw[hd]at this;cases this
 have hh:X.A.handled=none:=I.ok.hd ae;generalize K:(t.heap.push {cls:=.type "dict_values",data:=.fields #[.ref d]}).objs.size=it;have I3:Inv X j σ P {t with heap:=(t.heap.push {cls:=.type "dict_values",data:=.fields #[.ref d]}).push {cls:=.type "dict_valueiterator",data:=.fields #[.ref d,.int 0 0,.int vs.length 0,.int ep 0]} }:=Q.kept (t':=t.toks) λb o q=>Aj _ q;have I4:=inv_frz I3 hd (Aj _ (Aj _ ho));have T:upd P d (.frz o (.dK kvs)) it=none:=by
  rw[qp (λe=>?_),<- K]
  .exact Q.hok.fresh (A0 _)
  .have:=Q.hok.fresh (a:=it) (BW K);rw[e,hd]at this;cases this
 have fp:∀{H':Hp},H' it=none->qe2 X j H' it:=λn=>⟨n,(Q.fpOk (H':=upd P d (.frz o (.dK kvs))) (BW K) T).2⟩;refine codeAny_forLoop_any (λn s'=>∃i σ' H',n=vs.length-i/\i<=vs.length/\Inv X j σ' H' s'/\s'.heap.IsValIter it d i vs.length ep/\H' it=none/\Pv i σ' H') ?_ vs.length ⟨0,σ,_,Z,B7 _,I4,⟨_,by rw[<- K];exact Aw _ Z,Z,Z⟩,T,p0⟩;rintro n E ⟨i,σ5,G,rfl,hi,I5,aa,n5,p5⟩;have W:=pd i σ5 G p5;have ah:E.heap.get? d=some o:=(show ObjOk X.prog X.w G E.heap d (.frz o (.dK kvs)) from I5.hok d _ W).1;have L:E.heap.DictAt (qbv X.prog X.w) d vs ep:=⟨o,es,ah,hx,ag,r1,r2,r3⟩;obtain⟨f0,f1,f2,f3,f4,f5⟩:=fp n5;by_cases c:i<vs.length
 .have hk:kvs[i]?=some (kvs[i]'(by lia)):=Al (by lia);obtain⟨k,u,e1,ru⟩:=kv_at kv hk;refine BZ O (wpAny_pyNext_values_item aa L e1 λh' Y sb=>?_);have I6:Inv X j σ5 G {E with heap:=h'}:=I5.turned (t':=E.toks) (λb o l e=>(sb.2 b l).trans e) f0 f1 f3 f4 f5;refine BZ O (letGo_valiter Y ?_);obtain⟨oi,ac,af,U⟩:=id Y;have ai:=I6.pinned (fp:=[it]) (λb l=>by rw[Ai.mp l];exact fp n5) (λb l=>by rw[Ai.mp l];exact⟨oi,ac,λv e=>by rw[U]at e;cases e⟩);refine BZ O (thn (hg _ _ σ5 G _ u _ ai ru (step i _ σ5 G hk p5)) λ_ s6 ⟨σ6,H6,y,q6⟩=>?_);refine BZ O (thn (l _ s6 σ6 H6 _ y q6) λf s7 R=>?_);have J:∀{σ7:L2.St}{r:Hp},Inv X (j++qjv [it] h') σ7 r s7->Pv (i+1) σ7 r->∃m,m<vs.length-i/\∃i σ' H',m=vs.length-i/\i<=vs.length/\Inv X j σ' H' s7/\s7.heap.IsValIter it d i vs.length ep/\H' it=none/\Pv i σ' H':=λ{σ7 r} I8 p=>by have pn:=I8.pin (it,oi) (AI _ (AI _ (qfd (Ai.mpr Z) ac)));exact⟨vs.length-(i+1),by lia,i+1,σ7,r,Z,by lia,I8.unpinned,⟨oi,pn.1,af,U⟩,pn.2.1,p⟩
  cases f with
  |next=>obtain⟨σ7,r,y,p⟩:=R;exact J y p
  |cont=>obtain⟨σ7,r,y,p⟩:=R;exact J y p
  |brk=>obtain⟨σ7,r,y,p⟩:=R;exact p.elim
  |ret v=>obtain⟨x7,σ7,r,y,r7,p⟩:=R;exact p.elim
 .have ei:i=vs.length:=by lia
  refine BZ O (wpAny_pyNext_values_end hh aa L (Bh (by lia)) λh' eb=>?_);have I6:Inv X j σ5 G {E with heap:=h'}:=I5.turned (t':=E.toks) (λb o l e=>eb b o l e) f0 f1 f3 f4 f5;exact D0 ⟨σ5,_,qw5 I6 W h0,ad σ5 G (by rw[lk,<- ei];exact p5)⟩
end
end Add
namespace K49
open PySem L2 Add
def nmc {α β:Type}{t:β}{f:α->β}{P:α->Prop}{v:α}(e:t=f v)(h:P v):∃v,t=f v/\P v:=⟨v,e,h⟩
def iic {α β γ δ:Type}{x:γ}{y:δ}{f:α->γ}{g:β->δ}{P:α->β->Prop}{i:α}{j:β}(e:x=f i)(a:y=g j)(h:P i j):∃i j,x=f i/\y=g j/\P i j:=⟨i,j,e,a,h⟩
def icc {α β γ δ:Type}{x:γ}{y:δ}{f:α->γ}{g:β->δ}{C P:α->β->Prop}{i:α}{j:β}(e:x=f i)(a:y=g j)(c:C i j)(h:P i j):∃i j,x=f i/\y=g j/\C i j/\P i j:=⟨i,j,e,a,c,h⟩
def lxc {K:Ae}{H:Hp}{p:Addr}{xs:List V}{i:Int}{v:V}{P:V->Prop}(s:SqL K H p xs)(e:atI xs i=some v)(h:P v):∃p' xs' i' v',V.ref p=.ref p'/\V.int i=.int i'/\SqL K H p' xs'/\atI xs' i'=some v'/\P v':=⟨p,xs,i,v,Z,Z,s,e,h⟩
def txc {K:Ae}{H:Hp}{p:Addr}{xs:List V}{i:Int}{v:V}{P:V->Prop}(s:SqT K H p xs)(e:atI xs i=some v)(h:P v):∃p' xs' i' v',V.ref p=.ref p'/\V.int i=.int i'/\SqT K H p' xs'/\atI xs' i'=some v'/\P v':=⟨p,xs,i,v,Z,Z,s,e,h⟩
def flc {H:Hp}{a C dx:Addr}{fs:List (Str×V)}{v:V}{A B:Addr->Prop}{L:List (Str×V)->V->Prop}{P:V->Prop}(h:H a=some (.ins C dx fs))(c:A C)(n:B C)(l:L fs v)(q:P v):∃a' C' dx' fs' v',V.ref a=.ref a'/\H a'=some (.ins C' dx' fs')/\A C'/\B C'/\L fs' v'/\P v':=⟨a,C,dx,fs,v,Z,h,c,n,l,q⟩
def lxo {K:Ae}{H:Hp}{p:Addr}{xs:List V}{i:Int}{v:V}{P:V->Prop}(s:H p=some (.lst xs))(e:atI xs i=some v)(h:P v):∃p' xs' i' v',V.ref p=.ref p'/\V.int i=.int i'/\SqL K H p' xs'/\atI xs' i'=some v'/\P v':=lxc (SqL.of s) e h
def txo {K:Ae}{H:Hp}{p:Addr}{xs:List V}{i:Int}{v:V}{P:V->Prop}(s:H p=some (.tup xs))(e:atI xs i=some v)(h:P v):∃p' xs' i' v',V.ref p=.ref p'/\V.int i=.int i'/\SqT K H p' xs'/\atI xs' i'=some v'/\P v':=txc (SqT.of s) e h
noncomputable def top (i:Nat):Stmt:=PySem.Challenge.pw_termcourt_k49_whole_books.main.body.getD i (.Pass ⟨0,0,0,0⟩)
noncomputable abbrev qj2:Stmt:=top 18
noncomputable abbrev qdm:Stmt:=top 17
noncomputable abbrev qoq:Stmt:=top 16
noncomputable abbrev qj3:Stmt:=qd0 (top 9) 0
noncomputable abbrev qly:Stmt:=top 21
noncomputable abbrev qf0:Stmt:=top 20
noncomputable abbrev qfj:Stmt:=top 27
noncomputable abbrev qk4:Stmt:=top 26
noncomputable abbrev qj4:Stmt:=qd0 (top 34) 0
noncomputable abbrev qlz:Stmt:=top 36
noncomputable abbrev ql0:Stmt:=top 38
noncomputable abbrev qor:Stmt:=top 37
noncomputable abbrev qb7:Stmt:=qd0 (top 23) 0
noncomputable abbrev qip:Stmt:=qd0 (top 10) 0
noncomputable abbrev qiq:Stmt:=qd0 (top 8) 0
noncomputable abbrev qj5:Stmt:=top 40
noncomputable abbrev qhi:Stmt:=qd0 (top 7) 0
noncomputable abbrev qeq:Stmt:=qd0 (top 23) 3
noncomputable abbrev ql1:Stmt:=top 43
noncomputable abbrev qjd:Stmt:=top 42
noncomputable abbrev qj6:Stmt:=top 41
noncomputable abbrev ql2:Stmt:=top 39
noncomputable abbrev qf1:Stmt:=top 45
noncomputable abbrev qgj:Stmt:=top 44
noncomputable abbrev qhj:Stmt:=qd0 (top 6) 0
noncomputable abbrev qj7:Stmt:=top 35
noncomputable abbrev qfk:Stmt:=qd0 (top 34) 1
noncomputable abbrev qf2:Stmt:=top 48
noncomputable abbrev qd5:Stmt:=top 47
noncomputable abbrev qhk:Stmt:=qd0 (top 34) 3
noncomputable abbrev qj8:Stmt:=top 46
noncomputable abbrev qir:Stmt:=top 50
noncomputable abbrev qj9:Stmt:=top 51
noncomputable abbrev qgk:Stmt:=top 52
noncomputable abbrev qe8:Stmt:=top 53
noncomputable abbrev ql3:Stmt:=top 54
noncomputable abbrev ql4:Stmt:=top 55
noncomputable abbrev qka:Stmt:=top 56
noncomputable abbrev ql5:Stmt:=top 57
noncomputable abbrev qfw:Stmt:=top 58
noncomputable abbrev qje:Stmt:=top 59
noncomputable abbrev qhl:Stmt:=top 60
noncomputable abbrev qk5:Stmt:=top 61
noncomputable abbrev qh7:Stmt:=top 62
noncomputable abbrev qrm:Stmt:=top 63
noncomputable abbrev ql6:Stmt:=top 64
noncomputable abbrev ql7:Stmt:=top 65
noncomputable abbrev ql8:Stmt:=top 66
noncomputable abbrev qos:Stmt:=top 67
noncomputable abbrev qkb:Stmt:=top 68
noncomputable abbrev qkc:Stmt:=top 69
noncomputable abbrev qis:Stmt:=top 70
noncomputable abbrev qgl:Stmt:=qd0 (top 34) 2
noncomputable abbrev qf3:Stmt:=qd0 (top 34) 4
noncomputable abbrev qgm:Stmt:=top 71
noncomputable abbrev qum:Stmt:=top 72
structure DefAt (K:Ae)(mg:Str->Option Value)(x:Str)(st:Stmt)(ps:List Str)(f:Addr)(fd:AA):Prop where
 fn:Fun K x x st f fd
 mgx:mg x=some (.ref f)
 bd:Binds K fd ps []
abbrev Pd (K:Ae)(x:Str)(st:Stmt)(f:Addr):Prop:=∃(oc:Value)(od:Option Addr)(kV doc pm:Value)(an:Option Addr)(cdv ct:Value)(osl:Array (Option Value)),AC K A8 x=some (some (.ref f))/\K.lookup f=some ⟨oc,od,.func (BB x x (qce st) (qbw st) (qab st) .none kV doc pm an cdv ct),osl⟩/\Co K cdv x=true/\Bq K (.ref f)=true
abbrev Pm (K:Ae)(C:Addr)(x q:Str)(st:Stmt)(f:Addr):Prop:=∃(oc:Value)(od:Option Addr)(kV doc pm:Value)(an:Option Addr)(cdv ct:Value)(osl:Array (Option Value)),AW K (.ref C) x=some (some (.ref f))/\Ct K (.ref f)=some (.type "function")/\K.lookup f=some ⟨oc,od,.func (BB x q (qce st) (qbw st) (qab st) .none kV doc pm an cdv ct),osl⟩/\Co K cdv q=true/\Bq K (.ref f)=true
def pd_of {K:Ae}{x:Str}{st:Stmt}{f:Addr}{i:Value}{od:Option Addr}{kV e g:Value}{h:Option Addr}{b ct:Value}{d:Array (Option Value)}(a:AC K A8 x=some (some (.ref f)))(l:K.lookup f=some ⟨i,od,.func (BB x x (qce st) (qbw st) (qab st) .none kV e g h b ct),d⟩)(c:Co K b x=true)(k:Bq K (.ref f)=true):Pd K x st f:=⟨i,od,kV,e,g,h,b,ct,d,a,l,c,k⟩
def pm_of {K:Ae}{C:Addr}{x q:Str}{st:Stmt}{f:Addr}{i:Value}{od:Option Addr}{kV e h:Value}{g:Option Addr}{b ct:Value}{d:Array (Option Value)}(a:AW K (.ref C) x=some (some (.ref f)))(t:Ct K (.ref f)=some (.type "function"))(l:K.lookup f=some ⟨i,od,.func (BB x q (qce st) (qbw st) (qab st) .none kV e h g b ct),d⟩)(c:Co K b q=true)(k:Bq K (.ref f)=true):Pm K C x q st f:=⟨i,od,kV,e,h,g,b,ct,d,a,t,l,c,k⟩
def qa8 {K:Ae}{h:Heap}{mg:Str->Option Value}{x:Str}{st:Stmt}{f:Addr}(X:K.In h)(G:h.Ns A8 mg)(p:Pd K x st f){ps:List Str}(b:∀(kV e i:Value) (g:Option Addr) (d ct:Value) (us:List Value),us.length=ps.length->bindArgs (BB x x (qce st) (qbw st) (qab st) .none kV e i g d ct) ⟨us,[]⟩=pure (ps.zip us)):∃fd,DefAt K mg x st ps f fd:=by obtain⟨oc,od,kV,e,i,g,d,ct,osl,a,l,c,k⟩:=p;have F:=qq7 (st:=st) l c k;exact⟨_,F,Bb X G a,F.binds b⟩
def qhm {K:Ae}{C:Addr}{x q:Str}{st:Stmt}{f:Addr}(p:Pm K C x q st f){ps:List Str}(b:∀(kV e h:Value) (g:Option Addr) (d ct:Value) (us:List Value),us.length=ps.length->bindArgs (BB x q (qce st) (qbw st) (qab st) .none kV e h g d ct) ⟨us,[]⟩=pure (ps.zip us)):∃fd,MethAt K x q st ps f fd:=by obtain⟨oc,od,kV,e,h,g,d,ct,osl,a,t,l,c,k⟩:=p;have F:=qq7 (st:=st) l c k;exact⟨_,F,F.binds b,t⟩
def qfl {p:List Value->Prop}(h:∀x0,p [x0]):∀us,us.length=1->p us:=λus hl=>by obtain⟨x,rfl⟩:=List.length_eq_one_iff.mp hl;exact h x
def argS {p:List Value->Prop}{n:Nat}(h:∀x t,t.length=n->p (x::t)):∀us,us.length=n+1->p us:=λus hl=>by obtain⟨x,t,rfl⟩:=List.exists_cons_of_length_eq_add_one hl;exact h x t (Du hl)
def qgn {p:List Value->Prop}(h:∀x0 x1,p [x0,x1]):∀us,us.length=2->p us:=argS λx=>qfl (h x)
def qky {p:List Value->Prop}(h:∀x0 x1 x2,p [x0,x1,x2]):∀us,us.length=3->p us:=argS λx=>qgn (h x)
def arg4 {p:List Value->Prop}(h:∀x0 x1 x2 x3,p [x0,x1,x2,x3]):∀us,us.length=4->p us:=argS λx=>qky (h x)
def arg5 {p:List Value->Prop}(h:∀x0 x1 x2 x3 x4,p [x0,x1,x2,x3,x4]):∀us,us.length=5->p us:=argS λx=>arg4 (h x)
set_option genInjectivity false
set_option genSizeOf false
set_option genSizeOfSpec false
structure Adr where
 lI:Addr
 mF:AA
 rC:Addr
 pL:AA
 lN:Addr
 rO:AA
 fT:Addr
 pY:AA
 nV:Addr
 rK:AA
 r6:Addr
 mR:AA
 lZ:Addr
 pA:AA
 fZ:Addr
 pH:AA
 fH:Addr
 nB:AA
 nA:Addr
 mS:AA
 mM:Addr
 nC:AA
 pO:Addr
 nM:AA
 fU:Addr
 fF:AA
 fG:Addr
 nN:AA
 fV:Addr
 rP:AA
 pM:Addr
 nQ:AA
 fP:Addr
 rM:AA
 fX:Addr
 hV:AA
 hZ:Addr
 lY:AA
 rD:Addr
 nU:AA
 mV:Addr
 rG:AA
 pU:Addr
 mB:AA
 mI:Addr
 rL:AA
 mZ:Addr
 lG:AA
 fC:Addr
 rJ:AA
 lT:Addr
 lW:AA
 fK:Addr
 pF:AA
 nF:Addr
 pB:AA
 pV:Addr
 pE:AA
 dZ:Addr
 lH:AA
 rA:Addr
 mJ:AA
 pS:Addr
 mW:AA
 m7:Addr
 nH:AA
 nG:Addr
 nR:AA
 r8:Addr
 rR:AA
 mT:Addr
 mH:AA
 m9:Addr
 mP:AA
 pP:Addr
 pI:AA
 hG:Addr
 mO:AA
 nZ:Addr
 pR:AA
 mC:Addr
 lP:AA
 nO:Addr
 lA:AA
 lQ:Addr
 pQ:AA
 pW:Addr
 mG:AA
 rF:Addr
 rN:AA
 lJ:Addr
 mY:AA
 pN:Addr
 lR:AA
 lU:Addr
 mQ:AA
 lC:Addr
 lK:AA
 lF:Addr
 pX:AA
 mL:Addr
 pJ:AA
 nE:Addr
 lV:AA
 fN:Addr
 mE:AA
 fB:Addr
 lO:AA
 mD:Addr
 rB:AA
 rH:Addr
 rE:AA
 gW:Addr
 kL:Addr
 kQ:Addr
 gU:Addr
 gS:Addr
 gY:Addr
 gN:Addr
 gO:Addr
 kF:Addr
 gT:Addr
 kE:Addr
 gP:Addr
 kC:Addr
 k8:Addr
 kD:Addr
 kB:Addr
 fM:Addr
 bV:Addr
 dG:Addr
 dY:Addr
 bI:Addr
 dO:Addr
 dL:Addr
 bQ:Addr
 bX:Addr
structure Txt (K:Ae)(mg:Str->Option Value)(a:Adr):Prop where
 dI:DefAt K mg "is_figure" qj2 ["sign"] a.lI a.mF
 bG:DefAt K mg "is_written_number" qdm ["text","most_figures"] a.rC a.pL
 bH:DefAt K mg "number" qoq ["text","most"] a.lN a.rO
 fE:MethAt K "__init__" "Ring.__init__" qj3 ["self","names"] a.fT a.pY
 dB:DefAt K mg "untaken" qly ["name","bases","taken"] a.nV a.rK
 dF:DefAt K mg "hanging_order" qf0 ["rules"] a.r6 a.mR
 bL:DefAt K mg "is_small_letter" qfj ["sign"] a.lZ a.pA
 dS:DefAt K mg "is_name" qk4 ["thing"] a.fZ a.pH
 nP:MethAt K "__init__" "Book.__init__" qj4 ["self","rules"] a.fH a.nB
 bU:DefAt K mg "lines_of" qlz ["text"] a.nA a.mS
 bZ:DefAt K mg "value_of" ql0 ["word","asked"] a.mM a.nC
 bT:DefAt K mg "row_of" qor ["line"] a.pO a.nM
 xL:MethD K "__init__" "Rule.__init__" qb7 ["self","name","who","owes","opens","base","many","unit","still"] a.fU a.fF
 fY:MethAt K "__init__" "Twice.__init__" qip ["self","name"] a.fG a.nN
 gK:MethAt K "__init__" "Unfit.__init__" qiq ["self","at"] a.fV a.rP
 bD:DefAt K mg "read_term" qj5 ["told","at","row"] a.pM a.nQ
 kW:MethAt K "__init__" "NoTerm.__init__" qhi ["self","name"] a.fP a.rM
 fW:MethAt K "all_kinds" "Rule.all_kinds" qeq ["self"] a.fX a.hV
 dP:DefAt K mg "kinds_in" ql1 ["row"] a.hZ a.lY
 dN:DefAt K mg "is_unfit" qjd ["rule","row"] a.rD a.nU
 bS:DefAt K mg "read_more" qj6 ["rule","at","row"] a.mV a.rG
 bR:DefAt K mg "read_row" ql2 ["told","at","row"] a.pU a.mB
 dD:DefAt K mg "settle_yields" qf1 ["told","rule","at","other"] a.mI a.rL
 bM:DefAt K mg "settle_names" qgj ["told","at","row"] a.mZ a.lG
 fD:MethAt K "__init__" "NoRule.__init__" qhj ["self","at"] a.fC a.rJ
 kS:DefAt K mg "read_book" qj7 ["text"] a.lT a.lW
 fA:MethAt K "term_names" "Book.term_names" qfk ["self"] a.fK a.pF
 dH:DefAt K mg "term_row_shown" qf2 ["rule"] a.nF a.pB
 dJ:DefAt K mg "rows_shown" qd5 ["rule"] a.pV a.pE
 pG:MethAt K "rule_of" "Book.rule_of" qhk ["self","name"] a.dZ a.lH
 gD:DefAt K mg "show_book" qj8 ["book"] a.rA a.mJ
 kG:DefAt K mg "_law_cell_at" qir ["_law_script","_law_k"] a.pS a.mW
 gE:DefAt K mg "_law_words" qj9 ["_law_cell","_law_many"] a.m7 a.nH
 gI:DefAt K mg "_law_some_kept" qgk ["_law_words_here","_law_cell"] a.nG a.nR
 bK:DefAt K mg "_law_sorts" qe8 ["_law_rule"] a.r8 a.rR
 bP:DefAt K mg "_law_rows" ql3 ["_law_rule"] a.mT a.mH
 gL:DefAt K mg "_law_told" ql4 ["_law_text"] a.m9 a.mP
 dX:DefAt K mg "_law_right" qka ["_law_text","_law_word","_law_field"] a.pP a.pI
 dC:DefAt K mg "_law_name" ql5 ["_law_word"] a.hG a.mO
 kT:DefAt K mg "_law_written" qfw ["_law_word","_law_most"] a.nZ a.pR
 bJ:DefAt K mg "_law_good" qje ["_law_words_here"] a.mC a.lP
 gH:DefAt K mg "_law_term_row" qhl ["_law_cells","_law_name_here","_law_names","_law_kinds","_law_many"] a.nO a.lA
 bE:DefAt K mg "_law_row" qk5 ["_law_script","_law_k","_law_names","_law_kinds"] a.lQ a.pQ
 gG:DefAt K mg "_law_known" qh7 ["_law_rule"] a.pW a.mG
 kI:DefAt K mg "_law_of" qrm ["_law_rules","_law_name_here"] a.rF a.rN
 dQ:DefAt K mg "_law_term" ql6 ["_law_words_here","_law_rules","_law_at"] a.lJ a.mY
 bO:DefAt K mg "_law_role" ql7 ["_law_words_here","_law_rules","_law_at"] a.pN a.lR
 dM:DefAt K mg "_law_tied" ql8 ["_law_words_here","_law_rules","_law_at"] a.lU a.mQ
 bF:DefAt K mg "_law_due" qos ["_law_rows_here","_law_rules"] a.lC a.lK
 dA:DefAt K mg "_law_climb" qkb ["_law_rules","_law_name_here","_law_order_here"] a.lF a.pX
 bN:DefAt K mg "_law_order" qkc ["_law_rules"] a.mL a.pJ
 dE:DefAt K mg "_law_is_ring" qis ["_law_found","_law_rules"] a.nE a.lV
 nK:MethAt K "hanging" "Book.hanging" qgl ["self"] a.fN a.mE
 hX:MethAt K "act_kinds" "Book.act_kinds" qf3 ["self"] a.fB a.lO
 dW:DefAt K mg "_law_is_book" qgm ["_law_text","_law_rules","_law_order_here"] a.mD a.rB
 sD:DefAt K mg "law" qum ["_law_script"] a.rH a.rE
 rW:Binds K a.fF ["self","name","who","owes","opens","base","many","unit","still"] [.none]
 sO:mg "Adrift"=some (.ref a.gW)
 tR:mg "Book"=some (.ref a.kL)
 kO:Cls K a.kL
 sM:Mk K a.kL a.fH
 kY:xNo K a.kL ["name","who","owes","opens","base","many","unit","still","ends","anew","longer","yields","order","by_name","names","at"]=true
 pK:Meth K a.kL "term_names" a.fK
 xG:Meth K a.kL "rule_of" a.dZ
 xX:Meth K a.kL "hanging" a.fN
 xH:Meth K a.kL "act_kinds" a.fB
 kR:mg "CourtError"=some (.ref a.kQ)
 bA:XBase K a.kQ
 tW:mg "Full"=some (.ref a.gU)
 tZ:mg "NoAct"=some (.ref a.gS)
 xQ:mg "NoDay"=some (.ref a.gY)
 yC:mg "NoName"=some (.ref a.gN)
 xR:mg "NoRow"=some (.ref a.gO)
 lM:mg "NoRule"=some (.ref a.kF)
 kU:XA K a.kF (some (.ref a.fC))
 bY:xNo K a.kF ["name","who","owes","opens","base","many","unit","still","ends","anew","longer","yields","order","by_name","names","at"]=true
 gX:qhf K a.kF [Ap a.kQ,BV "ValueError",Ap a.kF,Ap a.kE,Ap a.kD,Ap a.kB,Ap a.kC] [true,true,true,false,false,false,false]=true
 y0:mg "NoTable"=some (.ref a.gT)
 gQ:mg "NoTerm"=some (.ref a.kE)
 kN:XA K a.kE (some (.ref a.fP))
 bC:xNo K a.kE ["name","who","owes","opens","base","many","unit","still","ends","anew","longer","yields","order","by_name","names","at"]=true
 gZ:qhf K a.kE [Ap a.kQ,BV "ValueError",Ap a.kF,Ap a.kE,Ap a.kD,Ap a.kB,Ap a.kC] [true,true,false,true,false,false,false]=true
 rS:mg "Parted"=some (.ref a.gP)
 gR:mg "Ring"=some (.ref a.kC)
 gM:XA K a.kC (some (.ref a.fT))
 nW:xNo K a.kC ["name","who","owes","opens","base","many","unit","still","ends","anew","longer","yields","order","by_name","names","at"]=true
 mU:qhf K a.kC [Ap a.kQ,BV "ValueError",Ap a.kF,Ap a.kE,Ap a.kD,Ap a.kB,Ap a.kC] [true,true,false,false,false,false,true]=true
 sI:mg "Rule"=some (.ref a.k8)
 k9:Cls K a.k8
 xY:Mk K a.k8 a.fU
 kA:xNo K a.k8 ["name","who","owes","opens","base","many","unit","still","ends","anew","longer","yields","order","by_name","names","at"]=true
 pC:Meth K a.k8 "all_kinds" a.fX
 dU:mg "Twice"=some (.ref a.kD)
 gJ:XA K a.kD (some (.ref a.fG))
 mK:xNo K a.kD ["name","who","owes","opens","base","many","unit","still","ends","anew","longer","yields","order","by_name","names","at"]=true
 bW:qhf K a.kD [Ap a.kQ,BV "ValueError",Ap a.kF,Ap a.kE,Ap a.kD,Ap a.kB,Ap a.kC] [true,true,false,false,true,false,false]=true
 gF:mg "Unfit"=some (.ref a.kB)
 kM:XA K a.kB (some (.ref a.fV))
 gB:xNo K a.kB ["name","who","owes","opens","base","many","unit","still","ends","anew","longer","yields","order","by_name","names","at"]=true
 fL:qhf K a.kB [Ap a.kQ,BV "ValueError",Ap a.kF,Ap a.kE,Ap a.kD,Ap a.kB,Ap a.kC] [true,true,false,false,false,true,false]=true
 fQ:XRaise K a.kF
 sP:Ad K (.ref a.kF) (.ref a.gW)=some false
 tH:Ad K (.ref a.kF) (.ref a.gU)=some false
 xZ:Ad K (.ref a.kF) (.ref a.gS)=some false
 xS:Ad K (.ref a.kF) (.ref a.gY)=some false
 sU:Ad K (.ref a.kF) (.ref a.gN)=some false
 yG:Ad K (.ref a.kF) (.ref a.gO)=some false
 sT:Ad K (.ref a.kF) (.ref a.kF)=some true
 xE:Ad K (.ref a.kF) (.ref a.gT)=some false
 yO:Ad K (.ref a.kF) (.ref a.kE)=some false
 sV:Ad K (.ref a.kF) (.ref a.gP)=some false
 yL:Ad K (.ref a.kF) (.ref a.kC)=some false
 yS:Ad K (.ref a.kF) (.ref a.kD)=some false
 yN:Ad K (.ref a.kF) (.ref a.kB)=some false
 dR:XRaise K a.kE
 y6:Ad K (.ref a.kE) (.ref a.gW)=some false
 yB:Ad K (.ref a.kE) (.ref a.gU)=some false
 xB:Ad K (.ref a.kE) (.ref a.gS)=some false
 xD:Ad K (.ref a.kE) (.ref a.gY)=some false
 yF:Ad K (.ref a.kE) (.ref a.gN)=some false
 tT:Ad K (.ref a.kE) (.ref a.gO)=some false
 tD:Ad K (.ref a.kE) (.ref a.kF)=some false
 sS:Ad K (.ref a.kE) (.ref a.gT)=some false
 tE:Ad K (.ref a.kE) (.ref a.kE)=some true
 xF:Ad K (.ref a.kE) (.ref a.gP)=some false
 yP:Ad K (.ref a.kE) (.ref a.kC)=some false
 yU:Ad K (.ref a.kE) (.ref a.kD)=some false
 yR:Ad K (.ref a.kE) (.ref a.kB)=some false
 yE:XRaise K a.kC
 sK:Ad K (.ref a.kC) (.ref a.gW)=some false
 sC:Ad K (.ref a.kC) (.ref a.gU)=some false
 xC:Ad K (.ref a.kC) (.ref a.gS)=some false
 tS:Ad K (.ref a.kC) (.ref a.gY)=some false
 sG:Ad K (.ref a.kC) (.ref a.gN)=some false
 xP:Ad K (.ref a.kC) (.ref a.gO)=some false
 tN:Ad K (.ref a.kC) (.ref a.kF)=some false
 tJ:Ad K (.ref a.kC) (.ref a.gT)=some false
 rV:Ad K (.ref a.kC) (.ref a.kE)=some false
 rY:Ad K (.ref a.kC) (.ref a.gP)=some false
 tI:Ad K (.ref a.kC) (.ref a.kC)=some true
 tG:Ad K (.ref a.kC) (.ref a.kD)=some false
 xJ:Ad K (.ref a.kC) (.ref a.kB)=some false
 sX:XRaise K a.kD
 tU:Ad K (.ref a.kD) (.ref a.gW)=some false
 tK:Ad K (.ref a.kD) (.ref a.gU)=some false
 sW:Ad K (.ref a.kD) (.ref a.gS)=some false
 sZ:Ad K (.ref a.kD) (.ref a.gY)=some false
 yD:Ad K (.ref a.kD) (.ref a.gN)=some false
 yI:Ad K (.ref a.kD) (.ref a.gO)=some false
 tL:Ad K (.ref a.kD) (.ref a.kF)=some false
 yK:Ad K (.ref a.kD) (.ref a.gT)=some false
 tO:Ad K (.ref a.kD) (.ref a.kE)=some false
 rZ:Ad K (.ref a.kD) (.ref a.gP)=some false
 yM:Ad K (.ref a.kD) (.ref a.kC)=some false
 tY:Ad K (.ref a.kD) (.ref a.kD)=some true
 yQ:Ad K (.ref a.kD) (.ref a.kB)=some false
 gC:XRaise K a.kB
 xN:Ad K (.ref a.kB) (.ref a.gW)=some false
 tX:Ad K (.ref a.kB) (.ref a.gU)=some false
 xU:Ad K (.ref a.kB) (.ref a.gS)=some false
 xA:Ad K (.ref a.kB) (.ref a.gY)=some false
 xV:Ad K (.ref a.kB) (.ref a.gN)=some false
 tP:Ad K (.ref a.kB) (.ref a.gO)=some false
 rT:Ad K (.ref a.kB) (.ref a.kF)=some false
 xO:Ad K (.ref a.kB) (.ref a.gT)=some false
 xI:Ad K (.ref a.kB) (.ref a.kE)=some false
 yJ:Ad K (.ref a.kB) (.ref a.gP)=some false
 yT:Ad K (.ref a.kB) (.ref a.kC)=some false
 xM:Ad K (.ref a.kB) (.ref a.kD)=some false
 xK:Ad K (.ref a.kB) (.ref a.kB)=some true
 bB:mg "ValueError"=none
 fS:mg "all"=none
 sR:mg "any"=none
 yH:mg "bool"=none
 pZ:mg "enumerate"=none
 kZ:mg "int"=none
 kK:mg "isinstance"=none
 kH:mg "len"=none
 gA:mg "list"=none
 fO:mg "max"=none
 rQ:mg "min"=none
 kX:mg "range"=none
 nJ:mg "reversed"=none
 lE:mg "set"=none
 lD:mg "sorted"=none
 kP:mg "str"=none
 sY:mg "zip"=none
 rU:∃t,mg "LONGEST_NAME"=some (.int 8 t)
 y9:∃t,mg "MOST_ROWS"=some (.int 40 t)
 xT:∃t,mg "MOST_TERMS"=some (.int 6 t)
 rX:∃t,mg "MOST_LONGER_ROWS"=some (.int 2 t)
 xW:mg "UNITS"=some (.ref a.fM)
 tM:∀H,SqT K H a.fM [.str (Aa "days"),.str (Aa "weeks"),.str (Aa "court")]
 sL:mg "FORMS"=some (.ref a.bV)
 pT:∀H,SqT K H a.bV [.ref a.dG,.ref a.dY,.ref a.bI,.ref a.dO,.ref a.dL,.ref a.bQ,.ref a.bX]
 tF:∀H,SqT K H a.dG [.str (Aa "term"),.str (Aa "NAME"),.str (Aa "of"),.str (Aa "NAME"),.str (Aa "due"),.str (Aa "NAME"),.str (Aa "from"),.str (Aa "NAME"),.int 40,.str (Aa "UNIT")]
 sQ:∀H,SqT K H a.dY [.str (Aa "term"),.str (Aa "NAME"),.str (Aa "of"),.str (Aa "NAME"),.str (Aa "due"),.str (Aa "NAME"),.str (Aa "behind"),.str (Aa "NAME"),.int 40,.str (Aa "UNIT")]
 sN:∀H,SqT K H a.bI [.str (Aa "ends"),.str (Aa "NAME"),.str (Aa "NAME")]
 yA:∀H,SqT K H a.dO [.str (Aa "anew"),.str (Aa "NAME"),.str (Aa "NAME")]
 tV:∀H,SqT K H a.dL [.str (Aa "longer"),.str (Aa "NAME"),.str (Aa "NAME"),.int 20,.str (Aa "times"),.int 3]
 tQ:∀H,SqT K H a.bQ [.str (Aa "still"),.str (Aa "NAME"),.str (Aa "NAME"),.str (Aa "NAME")]
 sF:∀H,SqT K H a.bX [.str (Aa "yields"),.str (Aa "NAME"),.str (Aa "NAME")]
def qc4:bootBuiltins "ValueError"=some (.type "ValueError"):=En
def ql9:bootBuiltins "all"=some (.builtin "all"):=En
def qw6:bootBuiltins "any"=some (.builtin "any"):=En
def qun:bootBuiltins "bool"=some (.type "bool"):=En
def qeb:bootBuiltins "int"=some (.type "int"):=En
def qae:bootBuiltins "isinstance"=some (.builtin "isinstance"):=En
def qa2:bootBuiltins "len"=some (.builtin "len"):=En
def qdn:bootBuiltins "list"=some (.type "list"):=En
def qma:bootBuiltins "max"=some (.builtin "max"):=En
def qqe:bootBuiltins "min"=some (.builtin "min"):=En
def qcl:bootBuiltins "str"=some (.type "str"):=En
def qro:FnScope ["sign"] ["sign"] (qab qj2):=⟨Z,Z,Z,En,Z,En,En⟩
def qjf:FnScope ["text","most_figures"] ["text","most_figures"] (qab qdm):=⟨Z,Z,Z,En,Z,En,En⟩
def qqf:FnScope ["text","most","written"] ["text","most"] (qab qoq):=⟨Z,Z,Z,En,Z,En,En⟩
def qrp:FnScope ["self","names"] ["self","names"] (qab qj3):=⟨Z,Z,Z,En,Z,En,En⟩
def qh8:FnScope ["name","bases","taken","path","above"] ["name","bases","taken"] (qab qly):=⟨Z,Z,Z,En,Z,En,En⟩
def qcm:FnScope ["rules","bases","rule","taken"] ["rules"] (qab qf0):=⟨Z,Z,Z,En,Z,En,En⟩
def qkz:FnScope ["sign"] ["sign"] (qab qfj):=⟨Z,Z,Z,En,Z,En,En⟩
def qw7:FnScope ["thing"] ["thing"] (qab qk4):=⟨Z,Z,Z,En,Z,En,En⟩
def qmb:FnScope ["self","rules","rule"] ["self","rules"] (qab qj4):=⟨Z,Z,Z,En,Z,En,En⟩
def quo:FnScope ["text"] ["text"] (qab qlz):=⟨Z,Z,Z,En,Z,En,En⟩
def qup:FnScope ["word","asked"] ["word","asked"] (qab ql0):=⟨Z,Z,Z,En,Z,En,En⟩
def qk6:FnScope ["line","words","form","row"] ["line"] (qab qor):=⟨Z,Z,Z,En,Z,En,En⟩
def qrr:FnScope ["self","name","who","owes","opens","base","many","unit","still"] ["self","name","who","owes","opens","base","many","unit","still"] (qab qb7):=⟨Z,Z,Z,En,Z,En,En⟩
def qqg:FnScope ["self","name"] ["self","name"] (qab qip):=⟨Z,Z,Z,En,Z,En,En⟩
def qqh:FnScope ["self","at"] ["self","at"] (qab qiq):=⟨Z,Z,Z,En,Z,En,En⟩
def qfm:FnScope ["told","at","row","name","opens","base","rule"] ["told","at","row"] (qab qj5):=⟨Z,Z,Z,En,Z,En,En⟩
def qot:FnScope ["self","name"] ["self","name"] (qab qhi):=⟨Z,Z,Z,En,Z,En,En⟩
def qhn:FnScope ["self","kinds"] ["self"] (qab qeq):=⟨Z,Z,Z,En,Z,En,En⟩
def quq:FnScope ["row"] ["row"] (qab ql1):=⟨Z,Z,Z,En,Z,En,En⟩
def qnu:FnScope ["rule","row","taken"] ["rule","row"] (qab qjd):=⟨Z,Z,Z,En,Z,En,En⟩
def qrs:FnScope ["rule","at","row"] ["rule","at","row"] (qab qj6):=⟨Z,Z,Z,En,Z,En,En⟩
def qur:FnScope ["told","at","row"] ["told","at","row"] (qab ql2):=⟨Z,Z,Z,En,Z,En,En⟩
def qmc:FnScope ["told","rule","at","other"] ["told","rule","at","other"] (qab qf1):=⟨Z,Z,Z,En,Z,En,En⟩
def qif:FnScope ["told","at","row","rule"] ["told","at","row"] (qab qgj):=⟨Z,Z,Z,En,Z,En,En⟩
def qou:FnScope ["self","at"] ["self","at"] (qab qhj):=⟨Z,Z,Z,En,Z,En,En⟩
def qdg:FnScope ["text","told","rows","at","line","row"] ["text"] (qab qj7):=⟨Z,Z,Z,En,Z,En,En⟩
def qk0:FnScope ["self"] ["self"] (qab qfk):=⟨Z,Z,Z,En,Z,En,En⟩
def qho:FnScope ["rule","begin"] ["rule"] (qab qf2):=⟨Z,Z,Z,En,Z,En,En⟩
def qdh:FnScope ["rule","name","rows"] ["rule"] (qab qd5):=⟨Z,Z,Z,En,Z,En,En⟩
def qov:FnScope ["self","name"] ["self","name"] (qab qhk):=⟨Z,Z,Z,En,Z,En,En⟩
def qgo:FnScope ["book","rows","name"] ["book"] (qab qj8):=⟨Z,Z,Z,En,Z,En,En⟩
def qqi:FnScope ["_law_script","_law_k"] ["_law_script","_law_k"] (qab qir):=⟨Z,Z,Z,En,Z,En,En⟩
def qbq:FnScope ["_law_cell","_law_many","_law_some","_law_size","_law_at","_law_primes","_law_stem","_law_k","_law_words_here","_law_turn","_law_word"] ["_law_cell","_law_many"] (qab qj9):=⟨Z,Z,Z,En,Z,En,En⟩
def qci:FnScope ["_law_words_here","_law_cell","_law_kept","_law_k","_law_word","_law_at"] ["_law_words_here","_law_cell"] (qab qgk):=⟨Z,Z,Z,En,Z,En,En⟩
def qa6:FnScope ["_law_rule","_law_name_here","_law_way","_law_head","_law_ends","_law_anew","_law_longer","_law_kind","_law_units","_law_times","_law_row_here","_law_still","_law_yields"] ["_law_rule"] (qab qe8):=⟨Z,Z,Z,En,Z,En,En⟩
def qh9:FnScope ["_law_rule","_law_rows_here","_law_sort"] ["_law_rule"] (qab ql3):=⟨Z,Z,Z,En,Z,En,En⟩
def qbj:FnScope ["_law_text","_law_found","e","_law_alone"] ["_law_text"] (qab ql4):=⟨Z,Z,Z,En,Z,En,En⟩
def qmd:FnScope ["_law_text","_law_word","_law_field","_law_found"] ["_law_text","_law_word","_law_field"] (qab qka):=⟨Z,Z,Z,En,Z,En,En⟩
def qnv:FnScope ["_law_word","_law_sign"] ["_law_word"] (qab ql5):=⟨Z,Z,Z,En,Z,En,En⟩
def qow:FnScope ["_law_word","_law_most"] ["_law_word","_law_most"] (qab qfw):=⟨Z,Z,Z,En,Z,En,En⟩
def qia:FnScope ["_law_words_here","_law_names"] ["_law_words_here"] (qab qje):=⟨Z,Z,Z,En,Z,En,En⟩
def qb4:FnScope ["_law_cells","_law_name_here","_law_names","_law_kinds","_law_many","_law_owed","_law_row_here","_law_step_on","_law_units","_law_unit"] ["_law_cells","_law_name_here","_law_names","_law_kinds","_law_many"] (qab qhl):=⟨Z,Z,Z,En,Z,En,En⟩
def qcn:FnScope ["_law_script","_law_k","_law_names","_law_kinds","_law_cells","_law_way","_law_many","_law_mine","_law_name_here","_law_one","_law_units","_law_other","_law_odd"] ["_law_script","_law_k","_law_names","_law_kinds"] (qab qk5):=⟨Z,Z,Z,En,Z,En,En⟩
def qgp:FnScope ["_law_rule","_law_kinds"] ["_law_rule"] (qab qh7):=⟨Z,Z,Z,En,Z,En,En⟩
def qs6:FnScope ["_law_rules","_law_name_here","_law_rule"] ["_law_rules","_law_name_here"] (qab qrm):=⟨Z,Z,Z,En,Z,En,En⟩
def qe9:FnScope ["_law_words_here","_law_rules","_law_at","_law_opens","_law_base","_law_rule"] ["_law_words_here","_law_rules","_law_at"] (qab ql6):=⟨Z,Z,Z,En,Z,En,En⟩
def qkd:FnScope ["_law_words_here","_law_rules","_law_at","_law_rule","_law_kind"] ["_law_words_here","_law_rules","_law_at"] (qab ql7):=⟨Z,Z,Z,En,Z,En,En⟩
def qke:FnScope ["_law_words_here","_law_rules","_law_at","_law_rule","_law_other"] ["_law_words_here","_law_rules","_law_at"] (qab ql8):=⟨Z,Z,Z,En,Z,En,En⟩
def qec:FnScope ["_law_rows_here","_law_rules","_law_found","_law_at","_law_words_here"] ["_law_rows_here","_law_rules"] (qab qos):=⟨Z,Z,Z,En,Z,En,En⟩
def qit:FnScope ["_law_rules","_law_name_here","_law_order_here","_law_above"] ["_law_rules","_law_name_here","_law_order_here"] (qab qkb):=⟨Z,Z,Z,En,Z,En,En⟩
def qel:FnScope ["_law_rules","_law_order_here","_law_rule","_law_above","_law_ring"] ["_law_rules"] (qab qkc):=⟨Z,Z,Z,En,Z,En,En⟩
def qfx:FnScope ["_law_found","_law_rules","_law_ring","_law_k","_law_rule"] ["_law_found","_law_rules"] (qab qis):=⟨Z,Z,Z,En,Z,En,En⟩
def qm3:FnScope ["self"] ["self"] (qab qgl):=⟨Z,Z,Z,En,Z,En,En⟩
def qed:FnScope ["self","kinds","rule"] ["self"] (qab qf3):=⟨Z,Z,Z,En,Z,En,En⟩
def qcg:FnScope ["_law_text","_law_rules","_law_order_here","_law_book","_law_rows_here","_law_kinds","_law_rule","_law_due_here","_law_shown"] ["_law_text","_law_rules","_law_order_here"] (qab qgm):=⟨Z,Z,Z,En,Z,En,En⟩
def qg1:FnScope ["_law_script","_law_names","_law_same","_law_kinds","_law_rows_here","_law_k","_law_text","_law_rules","_law_due_here","_law_order_here","_law_found"] ["_law_script"] (qab qum):=⟨Z,Z,Z,En,Z,En,En⟩
seal PySem.Sem.wp
open Add Lay Mrg Tab
def useH {p G:Hp->Prop}{R:Prop}(m:(∀x,p x->G x)->R)(l:∀x,p x->G x):R:=m l
def use2 {S T:Type}{p G:S->T->Prop}{R:Prop}(m:(∀x y,p x y->G x y)->R)(l:∀x y,p x y->G x y):R:=m l
def qcy {c A B:Prop}[Decidable c](a:c)(h:A):if decide c=true then A else B:=by rw[if_pos (decide_eq_true a)];exact h
def qal {c A B:Prop}[Decidable c](a:¬c)(h:B):if decide c=true then A else B:=by rw[decide_eq_false a];exact h
def qda {c A B:Prop}[Decidable c](a:c)(h:B):if (!decide c)=true then A else B:=by rw[decide_eq_true a];exact h
def zc {H:Hp}{p:Addr}{o:HO}(a:H p=none):Same H (upd H p o):=λb u e=>by rw[qp (qaf e a)];exact e
def alc {H:Hp}{p:Addr}{o:HO}(a:H p=none):Same H (upd H p o)/\upd H p o p=some o:=⟨zc a,qi⟩
def fits {n:Nat}(h:n<=100000):n<=A4:=by rw[Bl];lia
def qcz {xs:List V}(h:xs.length<=90000):xs.length<A4:=by rw[Bl];lia
def qem:([]:List V).length<=A4:=fits Ez
def fit2 (x y:V):[x,y].length<=A4:=fits (show 2<=100000 by decide)
def qqj (x y z:V):[x,y,z].length<=A4:=fits (show 3<=100000 by decide)
def atI_of {vs:List V}{k:Int}{j:Nat}{v:V}(h:vs[j]?=some v)(e:k=(j:Int)):atI vs k=some v:=by rw[e];exact qbh h
def qw8 (vs:List V)(b:Nat)(h:b<=vs.length):qg6 vs none (some (b:Int))=vs.take b:=by
 unfold qg6;have c:HT.sIx vs.length 0 none=0:=rfl;have a:HT.sIx vs.length vs.length (some (b:Int))=b:=by simp only[HT.sIx];split <;>lia
 rw[c,a];simp
def qme (vs:List V)(b:Nat)(h:b<=vs.length):qg6 vs (some (b:Int)) none=vs.drop b:=by
 unfold qg6;have c:HT.sIx vs.length vs.length none=vs.length:=rfl;have a:HT.sIx vs.length 0 (some (b:Int))=b:=by simp only[HT.sIx];split <;>lia
 rw[c,a];rw[B5 (by rw[BN];lia)]
def qbr {α:Type}{xs:List α}{i:Nat}{x:α}(h:xs[i]?=some x):xs.take (i+1)=xs.take i++[x]:=by rw[CV,h];rfl
def qeu {c A B:Prop}[Decidable c](a:¬c)(h:A):if (!decide c)=true then A else B:=by rw[decide_eq_false a];exact h
noncomputable def cell (ns:List Int)(k:Int):Int:=ns.getD k.toNat 0
def qw9 {a:List Int}{k:Int}(b:0<=k)(h:k<((a.map V.int).length:Int)):atI (a.map V.int) k=some (V.int (cell a k)):=by rw[Ac]at h;have hk:k.toNat<a.length:=(Int.toNat_lt b).mpr h;refine atI_of (j:=k.toNat) ?_ (Int.toNat_of_nonneg b).symm;rw[Ak,Al hk];unfold cell;rw[BA,Al hk];rfl
def qxa {a:List Int}{k:Int}(h:¬k<((a.map V.int).length:Int)):cell a k=0:=by rw[Ac]at h;unfold cell;rw[BA,Bh (Int.ofNat_le.mp (Int.le_trans (Int.not_lt.mp h) (Int.self_le_toNat k)))];rfl
def spCell (K:Ae):Sp:=λvs H Q _=>∃(a:Addr)(ns:List Int)(k:Int),vs=[.ref a,.int k]/\SqL K H a (ns.map V.int)/\0<=k/\Q (.int (cell ns k)) H
def qbp (x:Str)(xs:List Str):inV (.str x) (xs.map V.str)=xs.contains x:=by
 unfold inV;rw[List.any_map,List.contains_eq_any_beq]
 congr 1
 funext y;show (y == x)=(x == y);rw[C6,beq_iff_eq,beq_iff_eq];exact eq_comm
def qa1 (xs:List Str):(xs.map V.str).all qde=true:=by rw[DZ];exact Be.mpr λ_ _=>rfl
noncomputable def nm (nms:List Str)(k:Nat):Str:=nms.getD k CF
noncomputable def bo (bs:List (Option Nat))(k:Nat):Option Nat:=bs.getD k none
def nm_at {a:List Str}{k:Nat}(h:k<a.length):a[k]?=some (nm a k):=by unfold nm;rw[BA,Al h];rfl
theorem qox {b:List Str}(d:b.Nodup){j k:Nat}(c:j<b.length)(hk:k<b.length)(e:nm b j=nm b k):j=k:=by have a:=nm_at c;rw[e,<- nm_at hk]at a;exact(List.getElem?_inj c d).mp a
noncomputable def qhp (nms:List Str):Option Nat->V
 |none=>.non
 |some b=>.str (nm nms b)
def DicOk (kvs:List (Key×V))(nms:List Str)(bs:List (Option Nat)):Prop:=∀k<nms.length,qek kvs (.inr (nm nms k))=some (qhp nms (bo bs k))
def SameBut (x:Addr)(H H':Hp):Prop:=∀b o,b≠x->H b=some o->H' b=some o
def SameBut.of {x:Addr}{H H':Hp}(s:Same H H'):SameBut x H H':=λb o _ e=>s b o e
def SameBut.trans {x:Addr}{H d f:Hp}(a:SameBut x H d)(b:SameBut x d f):SameBut x H f:=λc o n e=>b c o n (a c o n e)
def SameBut.set {x:Addr}{H H':Hp}{o:HO}(a:SameBut x H H'):SameBut x H (upd H' x o):=λb u n e=>by rw[qp n];exact a b u n e
def SameBut.made {x dx:Addr}{H H':Hp}{o u:HO}(a:SameBut x (upd (upd H dx u) x o) H')(c:H x=none)(hd:H dx=none):Same H H':=λb v e =>
 a b v (qaf e c) (by rw[qp (qaf e c),qp (qaf e hd)];exact e)
def SameBut.free {x q:Addr}{H H':Hp}(b:SameBut x H H')(n:q≠x)(h:H' q=none):H q=none:=by
 cases e:H q with|none=>rfl|some o=>rw[b q o n e]at h;cases h
def dic_put {kvs:List (Key×V)}{a:List Str}{bs:List (Option Nat)}{i:Nat}(b:a.Nodup)(c:i<a.length)(h:∀k<i,qek kvs (.inr (nm a k))=some (qhp a (bo bs k))):∀k<i+1,qek (qgi kvs (.inr (nm a i)) (qhp a (bo bs i))) (.inr (nm a k))=some (qhp a (bo bs k)):=λk hk=>by
 rw[qvt];by_cases e:k=i
 .subst e;rw[if_pos Z]
 .rw[if_neg (λz=>e (qox b (by lia) c (De.inj z)))];exact h k (by lia)
def rb {n:Nat}(h:n<=1000) : -2 ^ 62<=(n:Int)/\(n:Int)<2 ^ 62:=by lia
noncomputable abbrev bfs (po pd:Addr):List (Str×V):=[(Aa "order",.ref po),(Aa "by_name",.ref pd)]
def put1 (f:Str)(u:V):qdc f u []=[(f,u)]:=rfl
def put2 {f g:Str}(u v:V)(h:f≠g):qdc g v [(f,u)]=[(f,u),(g,v)]:=by unfold qdc;rw[if_neg h];rfl
noncomputable abbrev az:Str:=Aa "abcdefghijklmnopqrstuvwxyz"
def az_len:az.length=26:=En
def qs7:az.cps.toList=(B4 26).map (λj=>97+j):=En
def az_at {j:Nat}(h:j<26):atI az.cps.toList (j:Int)=some (97+j):=qbh (by rw[qs7,Ak,List.getElem?_range h];rfl)
def qay (x y:Str):(x++y).length=x.length+y.length:=by show (x++y).cps.size=_;rw[DB,Array.size_append];rfl
noncomputable def wdL (L:List Nat)(n c:Nat):List Nat:=L.take n++c::L.drop (n+1)
def word_eq {st:Str}{n c:Nat}(h:n+1<=st.length):Ek st none (some (n:Int))++(⟨#[c]⟩:Str)++Ek st (some ((n:Int)+1)) none=⟨(wdL st.cps.toList n c).toArray⟩:=by
 have hl:st.cps.toList.length=st.length:=A7;have b:Ek st none (some (n:Int))=⟨((st.cps.toList.drop 0).take ((n:Int)-0).toNat).toArray⟩:=PySem.StrLaws.sliceText_to ⟨Int.natCast_nonneg n,by lia⟩;have a:Ek st (some ((n:Int)+1)) none=⟨((st.cps.toList.drop ((n:Int)+1).toNat).take ((st.cps.toList.length:Int)-((n:Int)+1)).toNat).toArray⟩:=PySem.StrLaws.sliceText_from ⟨by lia,by lia⟩;have d:((n:Int)+1).toNat=n+1:=by lia
 rw[b,a,d,B5 (l:=st.cps.toList.drop (n+1)) (by rw[BN];lia)];apply Str.ext';rw[DB,DB];show ((st.cps.toList.drop 0).take ((n:Int)-0).toNat).toArray ++ #[c]++(st.cps.toList.drop (n+1)).toArray=_;unfold wdL;rw[List.drop_zero,show ((n:Int)-0).toNat=n by lia];simp
def cut_eq {L:List Nat}{n c:Nat}(h:n<L.length):Ek ⟨(wdL L n c).toArray⟩ none (some ((n:Int)+1))=⟨(L.take n++[c]).toArray⟩:=by
 have lt:(L.take n).length=n:=by rw[AZ];lia
 have a:Ek ⟨(wdL L n c).toArray⟩ none (some ((n:Int)+1))=⟨(((wdL L n c).toArray.toList.drop 0).take ((n:Int)+1-0).toNat).toArray⟩:=PySem.StrLaws.sliceText_to ⟨by lia,by show (n:Int)+1<=((wdL L n c).toArray.toList.length:Int);rw[List.toList_toArray];unfold wdL;rw[Ag,Au,lt];lia⟩;rw[a,List.toList_toArray,List.drop_zero,show ((n:Int)+1-0).toNat=n+1 by lia];unfold wdL;rw[List.take_append,lt,B5 (A3 (BW lt) (Cp n)),show n+1-n=1 by lia];rfl
noncomputable def sgn (t:Int)(e k:Nat):Nat:=97+((t+((k / (1+e):Nat):Int)) % 26).toNat
noncomputable def wdS (L:List Nat)(n e:Nat)(t:Int)(k:Nat):Str:=if e=1/\k % 2=1 then ⟨(L.take n++[sgn t e k]).toArray⟩ else ⟨(wdL L n (sgn t e k)).toArray⟩
def qoy {x y:List Nat}(h:(⟨x.toArray⟩:Str)=⟨y.toArray⟩):x=y:=by have:=congrArg (λz:Str=>z.cps.toList) h;simpa using this
def wdL_inj {L:List Nat}{n c d:Nat}(h:wdL L n c=wdL L n d):c=d:=by unfold wdL at h;exact(D5 (List.append_cancel_left h)).1
def sgn_inj {t:Int}{e k j:Nat}(he:e<=1)(hk:k / (1+e)<26)(hj:j / (1+e)<26)(h:sgn t e k=sgn t e j):k / (1+e)=j / (1+e):=by
 have h:(t+((k / (1+e):Nat):Int)) % 26=(t+((j / (1+e):Nat):Int)) % 26:=by unfold sgn at h;lia
 generalize k / (1+e)=x at *;generalize j / (1+e)=y at *;lia
def wdS_inj {L:List Nat}{n e:Nat}{t:Int}(f:e<=1)(hn:n+1+e<=L.length){k j:Nat}(hk:k / (1+e)<26)(g:j / (1+e)<26)(h:wdS L n e t k=wdS L n e t j):k=j:=by
 have lt:(L.take n).length=n:=by rw[AZ];lia
 have c:(L.drop (n+1)).length=L.length-(n+1):=BN;have b:sgn t e k=sgn t e j/\(e=1->k % 2=j % 2):=by
  unfold wdS at h;by_cases d:e=1/\k % 2=1
  .rw[if_pos d]at h;by_cases a:e=1/\j % 2=1
   .rw[if_pos a]at h;exact⟨(D5 (List.append_cancel_left (qoy h))).1,λ_=>by lia⟩
   .rw[if_neg a]at h;have hl:=congrArg DR (qoy h);unfold wdL at hl;rw[Ag,Ag,Au,Au,Bu,c]at hl;lia
  .rw[if_neg d]at h;by_cases a:e=1/\j % 2=1
   .rw[if_pos a]at h;have hl:=congrArg DR (qoy h);unfold wdL at hl;rw[Ag,Ag,Au,Au,Bu,c]at hl;lia
   .rw[if_neg a]at h;exact⟨wdL_inj (qoy h),λz=>by lia⟩
 have q:=sgn_inj f hk g b.1;rcases (by lia:e=0\/e=1) with z|z
 .rw[z]at q;simpa using q
 .have:=b.2 z;rw[z]at q;lia
def wds_nd {L:List Nat}{n e:Nat}{t:Int}(d:e<=1)(i:n+1+e<=L.length){m:Nat}(c:∀k,k<m->k / (1+e)<26):((B4 m).map (wdS L n e t)).Nodup:=by rw[List.nodup_iff_pairwise_ne,List.pairwise_map];refine(List.Pairwise.and_mem.mp (List.nodup_iff_pairwise_ne.mp List.nodup_range)).imp λ{a b} h z=>?_;have f:=Dj.mp h.1;have g:=Dj.mp h.2.1;exact h.2.2 (wdS_inj d i (c _ f) (c _ g) z)
def sizeB (c:Int):1+c % 2<=1+c % 2+c / 2 % (8-c % 2)/\1+c % 2+c / 2 % (8-c % 2)<=8:=by
 rcases (by lia:c % 2=0\/c % 2=1) with e|e <;>rw[e]
 .rw[show (8:Int)-0=8 from Z];lia
 .rw[show (8:Int)-1=7 from Z];lia
noncomputable def prL:List Int:=[100003,100019,100043,100049,100057,100069,100103,100109]
def pr_at {k:Nat}(h:k<8):∃p:Int,0<p/\(prL.map V.int)[k]?=some (V.int p):=by rcases (by lia:k=0\/k=1\/k=2\/k=3\/k=4\/k=5\/k=6\/k=7) with e|e|e|e|e|e|e|e <;>subst e <;>exact⟨_,Ez,Z⟩
def qs8 (K:Ae):Sp:=λvs H Q _=>∃(a:Addr)(ns:List Int),vs=[.ref a]/\SqL K H a (ns.map V.int)/\ns.length<=63/\∀H',Q (.bl true) H'
section
variable {f:Nat->Option Nat}{n:Nat}
def Ch (f:Nat->Option Nat)(is:List Nat)(o:Option Nat):Prop:=∀i k,is[i]?=some k->f k=(is++o.toList)[i+1]?
def Ch.snoc {a:List Nat}{j:Nat}(h:Ch f a (some j)):Ch f (a++[j]) (f j):=by
 intro i k e;by_cases c:i<a.length
 .rw[AT c]at e;rw[h i k e];exact(AT (by show i+1<(a++[j]).length;rw[Ag,AU];lia)).symm
 .have l:i<(a++[j]).length:=(Ah.mp e).1;rw[Ag,AU]at l;obtain rfl:i=a.length:=by lia
  rw[AN (A0 _),Ed]at e;cases e;rw[AN (by rw[Ag,AU];lia),Ag,AU,Ed];cases f j <;>rfl
structure Rg (f:Nat->Option Nat)(n:Nat)(r:List Nat):Prop where
 ne:r≠[]
 nd:r.Nodup
 lt:∀k∈r,k<n
 nx:∀i k,r[i]?=some k->f k=r[(i+1) % r.length]?
def ch_rg {a:List Nat}{j b:Nat}(h:Ch f a (some j))(l:a.Nodup)(lt:∀k∈a,k<n)(e:a[b]?=some j):Rg f n (a.drop b):=by
 have l0:=(Ah.mp e).1;have d:(a.drop b).length=a.length-b:=BN;refine⟨λz=>?_,(List.drop_sublist _ _).nodup l,λk hk=>lt k (Cr hk),λi k g=>?_⟩
 .rw[z]at d;have:0=a.length-b:=d;lia
 .have m:=(Ah.mp g).1;rw[d]at m;rw[List.getElem?_drop]at g;rw[h _ k g,d];by_cases c:i+1<a.length-b
  .rw[Nat.mod_eq_of_lt c,List.getElem?_drop,AT (by lia),Nat.add_assoc]
  .rw[show i+1=a.length-b by lia,Nat.mod_self,List.getElem?_drop,show b+0=b from Z,e,AN (by lia),show b+i+1-a.length=0 by lia];rfl
def Od (f:Nat->Option Nat)(os:List Nat):Prop:=∀p k,os[p]?=some k->∀b,f k=some b->b∈os.take p
def od_app {d a:List Nat}{o:Option Nat}(h:Od f d)(c:Ch f a o)(m:∀j,o=some j->j∈d):Od f (d++a.reverse):=by
 intro p k e b i;by_cases n:p<d.length
 .rw[AT n]at e;have:=h p k e b i;rw[List.take_append_of_le_length (by lia)];exact this
 .rw[AN (by lia)]at e;have l:=(Ah.mp e).1;rw[Dh]at l;rw[Eg l]at e;have g:=c _ k e;rw[i]at g;rw[List.take_append,Az];by_cases z:a.length-1-(p-d.length)+1<a.length
  .rw[AT z]at g;right;rw[List.mem_iff_getElem?];refine⟨a.length-1-(a.length-1-(p-d.length)+1),?_⟩;rw[List.getElem?_take_of_lt (by lia),Eg (by lia),show a.length-1-(a.length-1-(a.length-1-(p-d.length)+1))=a.length-1-(p-d.length)+1 by lia];exact g.symm
  .rw[AN (by lia),show a.length-1-(p-d.length)+1-a.length=0 by lia]at g;left;rw[B5 (by lia)];refine m b ?_;cases o with|none=>cases g|some j=>exact g.symm
theorem qmf {l:List Nat}(b:l.Nodup)(lt:∀k∈l,k<n):l.length<=n:=by
 induction n generalizing l with
 |zero =>
  cases l with|nil=>exact A0 _|cons a l=>exact absurd (lt a Am) (CQ _)
 |succ n ih =>
  have h:=ih (l:=l.erase n) (b.erase n) (λk hk=>by
   have h1:=lt k (List.mem_of_mem_erase hk);have h2:k≠n:=λz=>by rw[z]at hk;exact b.not_mem_erase hk
   lia)
  by_cases m:n∈l
  .rw[List.length_erase_of_mem m]at h;lia
  .rw[List.erase_of_not_mem m]at h;lia
end
structure Wr (nms:List Str)(bs:List (Option Nat)):Prop where
 nd:nms.Nodup
 len:bs.length=nms.length
 sm:nms.length<=6
 ok:∀k b,bo bs k=some b->b<nms.length
def qbk {H H':Hp}{x:Addr}{c:HO}(a:H x=none)(keep:∀b o,b≠x->upd H x c b=some o->H' b=some o):Same H H':=λb o e=>keep b o (qaf e a) (by rw[qp (qaf e a)];exact e)
def spIL (K:Ae):Sp:=λvs H Q _=>∃(x C l:Addr)(zs:List V)(ini:Option Value),vs=[.ref x,.ref l]/\H x=some (exO x C none true)/\SqL K H l zs/\XA K C ini/\AW K (.ref C) "names"=some none /\
 ∀(dx l':Addr)(H':Hp),H dx=none->H l'=none->(∀b o,b≠x->H b=some o->H' b=some o)->H' x=some (exO x C (some dx) true)->H' dx=some (exD dx [("names",.ref l')])->H' l'=some (.lst zs)->Q .non H'
def OutR (a:Adr)(nms:List Str)(bs:List (Option Nat))(H:Hp)(E:XK):Prop:=∀(x d l:Addr)(H':Hp)(r:List Nat),Same H H'->H' x=some (exO x a.kC (some d) false)->H' d=some (exD d [("names",.ref l)])->H' l=some (.lst ((r.map (nm nms)).map V.str))->Rg (bo bs) nms.length r->E (.ref x) (some d) H'
def OutR.same {a:Adr}{b:List Str}{bs:List (Option Nat)}{H H':Hp}{E:XK}(o:OutR a b bs H E)(s:Same H H'):OutR a b bs H' E:=λx d l c r z=>o x d l c r (s.trans z)
def spUn7 (a:Adr):Sp:=λvs H Q E=>∃(d t:Addr)(kvs:List (Key×V))(nms:List Str)(bs:List (Option Nat))(os:List Nat)(k:Nat),vs=[.str (nm nms k),.ref d,.ref t]/\H d=some (.dK kvs)/\H t=some (.lst ((os.map (nm nms)).map V.str))/\Wr nms bs/\(∀j∈os,j<nms.length)/\k<nms.length/\DicOk kvs nms bs /\
 (∀(q:Addr)(H':Hp)(is:List Nat)(o:Option Nat),H q=none->Same H H'->H' q=some (.lst ((is.map (nm nms)).map V.str))->Ch (bo bs) is o->is.Nodup->(∀j∈is,j<nms.length/\j∉os)->(is++o.toList)[0]?=some k->(∀j,o=some j->j∈os)->Q (.ref q) H')/\OutR a nms bs H E
def qgq {a:List Str}{b:List Nat}{j:Nat}(c:a.Nodup)(lt:∀k∈b,k<a.length)(d:j<a.length):(b.map (nm a)).contains (nm a j)=true↔j∈b:=by
 rw[AY,AS];constructor
 .rintro⟨k,hk,e⟩;rw[<- qox c (lt k hk) d e];exact hk
 .exact λh=>⟨j,h,Z⟩
def nm_ix {a:List Str}{b:List Nat}{j:Nat}(f:a.Nodup)(lt:∀k∈b,k<a.length)(l:j<a.length)(d:b.Nodup)(h:j∈b):∃i:Nat,b[i]?=some j/\(b.map (nm a))[i]?=some (nm a j)/\∀m,m<i->(b.map (nm a))[m]? ≠ some (nm a j):=by
 obtain⟨i,g,e⟩:=List.getElem_of_mem h;have e:b[i]?=some j:=by rw[Al g,e]
 refine⟨i,e,by rw[Ak,e];rfl,λm hm z=>?_⟩;rw[Ak]at z;cases c:b[m]? with|none=>rw[c]at z;cases z|some k =>rw[c]at z;have:=qox f (lt k (At c)) l (A9 z);rw[this,<- e]at c;have:=(List.getElem?_inj (by lia) d).mp c;lia
def Ru (C:Addr)(H:Hp)(v:V)(x:Str)(b:V):Prop:=∃(p dx:Addr)(fs:List (Str×V)),v=.ref p/\H p=some (.ins C dx fs)/\fs.lookup (Aa "name")=some (.str x)/\fs.lookup (Aa "base")=some b
def Ru.keep {C:Addr}{H H':Hp}{v:V}{x:Str}{b:V}(h:Ru C H v x b)(k:KeepN H H'):Ru C H' v x b:=by obtain⟨p,dx,fs,e,a,c⟩:=h;exact⟨p,dx,fs,e,k _ _ (λl z=>by cases z) a,c⟩
def Ru.same {C:Addr}{H H':Hp}{v:V}{x:Str}{b:V}(h:Ru C H v x b)(s:Same H H'):Ru C H' v x b:=h.keep (KeepN.of s)
def Rus (C:Addr)(H:Hp)(us:List V)(nms:List Str)(bs:List (Option Nat)):Prop:=us.length=nms.length/\∀(j:Nat)(y:V),us[j]?=some y->Ru C H y (nm nms j) (qhp nms (bo bs j))
inductive Clm (f:Nat->Option Nat) (tk:List Nat):Option Nat->List Nat->Prop where
 |stop {o:Option Nat}:(∀k,o=some k->k∈tk)->Clm f tk o []
 |step {k:Nat} {p:List Nat}:k∉tk->Clm f tk (f k) p->Clm f tk (some k) (k::p)
theorem Clm.uniq {f:Nat->Option Nat}{tk:List Nat}{o:Option Nat}{p q:List Nat}(h:Clm f tk o p)(g:Clm f tk o q):p=q:=by
 induction h generalizing q with
 |stop n =>
  cases g with|stop=>rfl|step m _=>exact absurd (n _ Z) m
 |step m _ ih =>
  cases g with|stop n=>exact absurd (n _ Z) m|step _ g=>rw[ih g]
inductive Hg (f:Nat->Option Nat):Nat->List Nat->Prop where
 |zero:Hg f 0 []
 |succ {i:Nat} {os p:List Nat}:Hg f i os->Clm f os (some i) p->Hg f (i+1) (os++p.reverse)
theorem Hg.uniq {f:Nat->Option Nat}{i:Nat}{p q:List Nat}(h:Hg f i p)(g:Hg f i q):p=q:=by
 induction h generalizing q with
 |zero=>cases g;rfl
 |succ h c ih =>
  cases g with|succ h' c' =>have e:=ih h';subst e;rw[c.uniq c']
theorem qrt {f:Nat->Option Nat}{c:List Nat}:∀{a:List Nat}{o:Option Nat}{k:Nat},Ch f a o->(∀j∈a,j∉c)->(a++o.toList)[0]?=some k->(∀j,o=some j->j∈c)->Clm f c (some k) a
 | [],o,k,_,_,h,ho=>.stop λj e=>by
  cases e;cases o with|none=>cases h|some z=>cases h;exact ho _ rfl
 |j::a,o,k,ch,nin,h,ho=>by
  cases h;refine .step (nin j Am) ?_;have e:=ch 0 j rfl;have d:Ch f a o:=λi z hz=>ch (i+1) z hz;rw[show (j::a++o.toList)[0+1]?=(a++o.toList)[0]? from Z]at e;cases b:(a++o.toList)[0]? with
  |some z=>rw[e,b];exact qrt d (λz hz=>nin z (Ar _ hz)) b ho
  |none =>
   rw[e,b];have:a=[]:=by
    cases a with|nil=>rfl|cons=>cases b
   rw[this];exact .stop λz hz=>nomatch hz
theorem Clm.no {f:Nat->Option Nat}{tk:List Nat}{S:Nat->Prop}(a:∀k,S k->k∉tk/\∃j,f k=some j/\S j){o:Option Nat}{p:List Nat}(h:Clm f tk o p):∀k,o=some k->¬S k:=by
 induction h with
 |stop n=>intro k e s;exact(a k s).1 (n k e)
 |step m h ih =>intro k e s;cases e;obtain⟨j,b,c⟩:=(a _ s).2;exact ih j b c
theorem Hg.free {f:Nat->Option Nat}{S:Nat->Prop}(b:∀k,S k->∃j,f k=some j/\S j){n:Nat}{a:List Nat}(h:Hg f n a):∀k∈a,¬S k:=by
 induction h with
 |zero=>intro k hk;cases hk
 | @succ i a p h c ih =>
  have sub:∀{o:Option Nat}{p:List Nat},Clm f a o p->∀k∈p,¬S k:=λc=>by
   induction c with
   |stop=>intro k hk;cases hk
   | @step k p m c ih2 =>
    intro z hz;rcases An.mp hz with rfl|hz
    .exact Clm.no (f:=f) (tk:=a) (S:=S) (λz hz=>⟨λq=>ih z q hz,b z hz⟩) (Clm.step m c) z rfl
    .exact ih2 z hz
  intro k hk;rcases Az.mp hk with hk|hk
  .exact ih k hk
  .exact sub c k (CG.mp hk)
theorem Hg.mem {f:Nat->Option Nat}{n:Nat}{a:List Nat}(h:Hg f n a):∀k<n,k∈a:=by
 induction h with
 |zero=>intro k hk;lia
 | @succ i a p h c ih =>
  intro k hk;by_cases e:k=i
  .subst e;cases c with|stop z=>exact Bk _ (z _ Z)|step=>exact AI _ (CG.mpr Am)
  .exact Bk _ (ih k (by lia))
theorem Hg.pre {f:Nat->Option Nat}{n:Nat}{a:List Nat}(h:Hg f n a):∀i<n,∃q p,Hg f i q/\Clm f q (some i) p:=by
 induction h with
 |zero=>intro i hi;lia
 | @succ i a p h c ih =>
  intro k hk;by_cases e:k=i
  .subst e;exact⟨a,p,h,c⟩
  .exact ih k (by lia)
def Hg.no {f:Nat->Option Nat}{S:Nat->Prop}(b:∀k,S k->∃j,f k=some j/\S j){n:Nat}{a:List Nat}(h:Hg f n a){k:Nat}(hk:k<n):¬S k:=h.free b k (h.mem k hk)
def spHa7 (a:Adr):Sp:=λvs H Q E=>∃(pr:Addr)(us:List V)(nms:List Str)(bs:List (Option Nat)),vs=[.ref pr]/\H pr=some (.lst us)/\Rus a.k8 H us nms bs/\Wr nms bs /\
 (∀(q:Addr)(H':Hp)(os:List Nat),H q=none->Same H H'->H' q=some (.lst ((os.map (nm nms)).map V.str))->os.Nodup->(∀j∈os,j<nms.length)->Od (bo bs) os->(∀j,j<nms.length->j∈os)->Hg (bo bs) nms.length os->Q (.ref q) H')/\OutR a nms bs H E
theorem ch_hd {a:List Nat}{o:Option Nat}{k:Nat}{b:List Nat}(st:(a++o.toList)[0]?=some k)(c:∀j,o=some j->j∈b):k∈b++a.reverse:=by
 rw[Az,CG];cases a with
 |nil =>
  left;cases o with|none=>cases st|some j=>exact c k (by rw[<- show some j=some k from st])
 |cons j a =>right;rw[<- show j=k from A9 st];exact Am
def Bo (C:Addr)(H:Hp)(x:Addr)(nms:List Str)(os:List Nat):Prop:=∃dx po d:Addr,H x=some (.ins C dx (bfs po d))/\H po=some (.lst ((os.map (nm nms)).map V.str))
structure Ors (bs:List (Option Nat))(n:Nat)(os:List Nat):Prop where
 nd:os.Nodup
 lt:∀j∈os,j<n
 od:Od (bo bs) os
 al:∀j,j<n->j∈os
 hg:Hg (bo bs) n os
def spBH7 (a:Adr):Sp:=λvs H Q _=>∃(x:Addr)(nms:List Str)(os:List Nat),vs=[.ref x]/\Bo a.kL H x nms os/\∀q,H q=none->Q (.ref q) (upd H q (.lst ((os.map (nm nms)).map V.str)))
open Wri
noncomputable abbrev ts (n:Int):Str:=Aa (toString n)
def le_0 (c:Nat):(!decide ((⟨#[c]⟩:Str).cps.toList<(Aa "0").cps.toList))=decide (48<=c):=by
 have e:(Aa "0").cps.toList=[48]:=En;rw[e];show (!decide ([c]<[48]))=decide (48<=c);by_cases h:48<=c
 .have n:¬ [c]<[48]:=by simp[Cd];lia
  simp[n,h]
 .have n:[c]<[48]:=by simp[Cd];lia
  simp[n,h]
def le_9 (c:Nat):(!decide ((Aa "9").cps.toList<(⟨#[c]⟩:Str).cps.toList))=decide (c<=57):=by
 have e:(Aa "9").cps.toList=[57]:=En;rw[e];show (!decide ([57]<[c]))=decide (c<=57);by_cases h:c<=57
 .have n:¬ [57]<[c]:=by simp[Cd];lia
  simp[n,h]
 .have n:[57]<[c]:=by simp[Cd];lia
  simp[n,h]
def nought:Aa "0" = ⟨#[48]⟩:=En
def starts0 (x:Str):Txt.startswith x (Aa "0")=decide (x.cps.toList.head?=some 48):=by
 rw[nought,List.head?_eq_getElem?];have:=StrLaws.subAt_one x 48 0;unfold Txt.startswith
 rw[C6,decide_eq_true_eq,<- this,AD,decide_eq_true_eq]
def nbF {b:Bool}(h:(!b)=true):b=false:=by cases b with|false=>rfl|true=>cases h
def nbT {b:Bool}(h:¬(!b)=true):b=true:=by cases b with|true=>rfl|false=>exact absurd rfl h
def spFig:Sp:=λvs H Q _=>∃c:Nat,vs=[.str ⟨#[c]⟩]/\Q (.bl (fig c)) H
noncomputable def wnm (x:Str)(m:Int):Bool:=(decide (1<=x.cps.size) && decide ((x.cps.size:Int)<=m)) && (x.cps.toList.all fig && Wri.plain x)
def spWn:Sp:=λvs H Q _=>∃(x:Str)(m:Int),vs=[.str x,.int m]/\x.length<=100000/\∀H',Same H H'->Q (.bl (wnm x m)) H'
def log_ok {n:Int}(k:Nat)(hk:(10:Nat) ^ k<2 ^ 1920)(a:0<=n)(h:n<10 ^ k):n.natAbs.log2<1920:=by
 by_cases z:n.natAbs=0
 .rw[z];decide
 .rw[Nat.log2_lt z];have:n.natAbs<10 ^ k:=by
   have e:((n.natAbs:Nat):Int)=n:=Int.natAbs_of_nonneg a;have:((n.natAbs:Nat):Int)<((10 ^ k:Nat):Int):=by rw[e,Int.natCast_pow];exact h
   exact Int.ofNat_lt.mp this
  exact Nat.lt_trans this hk
def ts_len {n:Int}{k:Nat}(a:0<=n)(hk:0<k)(h:n<10 ^ k):(ts n).length<=k:=PyProof.Rows.toString_length_le a hk h
noncomputable def due (x:Str)(m:Int):Bool:=wnm x ((ts m).length:Nat) && (decide (1<=nv x) && decide (nv x<=m))
def qxb:Sp:=λvs H Q _=>∃(x:Str)(m:Int),vs=[.str x,.int m]/\x.length<=50000/\1<=m/\m<10 ^ 62/\(due x m=true->∀H',Same H H'->Q (.int (nv x)) H')/\(due x m=false->∀H',Same H H'->Q .non H')
noncomputable def low (c:Nat):Bool:=decide (97<=c) && decide (c<=122)
def spLow:Sp:=λvs H Q _=>∃c:Nat,vs=[.str ⟨#[c]⟩]/\Q (.bl (low c)) H
def le_a (c:Nat):(!decide ((⟨#[c]⟩:Str).cps.toList<(Aa "a").cps.toList))=decide (97<=c):=by
 have e:(Aa "a").cps.toList=[97]:=En;rw[e];show (!decide ([c]<[97]))=decide (97<=c);by_cases h:97<=c
 .have n:¬ [c]<[97]:=by simp[Cd];lia
  simp[n,h]
 .have n:[c]<[97]:=by simp[Cd];lia
  simp[n,h]
def le_z (c:Nat):(!decide ((Aa "z").cps.toList<(⟨#[c]⟩:Str).cps.toList))=decide (c<=122):=by
 have e:(Aa "z").cps.toList=[122]:=En;rw[e];show (!decide ([122]<[c]))=decide (c<=122);by_cases h:c<=122
 .have n:¬ [122]<[c]:=by simp[Cd];lia
  simp[n,h]
 .have n:[122]<[c]:=by simp[Cd];lia
  simp[n,h]
def qb1 (x:Str):Prop:=1<=x.cps.size/\x.cps.size<=8/\x.cps.toList.all low=true
noncomputable abbrev wS (s:String):Str:=Aa s
def iteT' {c:Prop}[Decidable c]{A B:Prop}(h:c)(a:A):if c then A else B:=by rw[if_pos h];exact a
def qkm:wS " " = ⟨#[32]⟩:=En
def nm_free {x:Str}(h:qb1 x){c:Nat}(hc:c<97):c∉x.cps.toList:=λz=>by have:=Be.mp h.2.2 c z;unfold low at this;simp only[AD,decide_eq_true_eq]at this;lia
noncomputable def qco (ls:List Str):Str:=Str.join ⟨#[10]⟩ ls
theorem newl:wS "\n" = ⟨#[10]⟩:=En
noncomputable def qev:Option Str->V
 |none=>.non
 |some y=>.str y
def iteF' {c:Prop}[Decidable c]{A B:Prop}(h:¬c)(a:B):if c then A else B:=by rw[if_neg h];exact a
def str_ext {x y:Str}(h:x.cps.toList=y.cps.toList):x=y:=by cases x;cases y;simp only at h;exact congrArg Str.mk (Array.toList_inj.mp h)
def qdv (x y:Str):(x++y).cps.toList=x.cps.toList++y.cps.toList:=by rw[DB,Array.toList_append]
def wds_ok {L:List Nat}{n e:Nat}{t:Int}(c:L.all low=true)(hn:n+1<=L.length)(h8:L.length<=8)(k:Nat):qb1 (wdS L n e t k):=by
 have b:low (sgn t e k)=true:=by unfold low sgn;rw[decide_eq_true (show 97<=97+_ by lia),decide_eq_true (show 97+((t+((k / (1+e):Nat):Int)) % 26).toNat<=122 by lia)];rfl
 have tk:∀m,(L.take m).all low=true:=λm=>Be.mpr λx a=>Be.mp c x (CW a);have d:∀m,(L.drop m).all low=true:=λm=>Be.mpr λx a=>Be.mp c x (Cr a);unfold wdS;split
 .refine⟨?_,?_,?_⟩
  .show 1<=(L.take n++[sgn t e k]).toArray.size;rw[Ax,Ag,AU];lia
  .show (L.take n++[sgn t e k]).toArray.size<=8;rw[Ax,Ag,AU,AZ];lia
  .show (L.take n++[sgn t e k]).all low=true;rw[List.all_append,tk,C3,b];rfl
 .refine⟨?_,?_,?_⟩
  .show 1<=(wdL L n (sgn t e k)).toArray.size;rw[Ax];unfold wdL;rw[Ag,Au];lia
  .show (wdL L n (sgn t e k)).toArray.size<=8;rw[Ax];unfold wdL;rw[Ag,Au,AZ,BN];lia
  .show (wdL L n (sgn t e k)).all low=true;unfold wdL;rw[List.all_append,tk,C3,b,d];rfl
def spWo7:Sp:=λvs H Q _=>∃(c:Int)(m:Nat),vs=[.int c,.int (m:Int)]/\(m<=26\/(c % 2=1/\m<=52))/\∀(q:Addr)(H':Hp)(nms:List Str),H q=none->Same H H'->H' q=some (.lst (nms.map V.str))->nms.length=m->nms.Nodup->(∀x∈nms,qb1 x)->Q (.ref q) H'
theorem low26 {j:Nat}(h:j<26):low (97+j)=true:=by unfold low;rw[decide_eq_true (by lia),decide_eq_true (by lia)];rfl
noncomputable abbrev rlF (nm w o op b m u s pe pa pl py:V):List (Str×V):=[(Aa "name",nm),(Aa "who",w),(Aa "owes",o),(Aa "opens",op),(Aa "base",b),(Aa "many",m),(Aa "unit",u),(Aa "still",s),(Aa "ends",pe),(Aa "anew",pa),(Aa "longer",pl),(Aa "yields",py)]
noncomputable abbrev rq1 (a1:V):List (Str×V):=[(Aa "name",a1)]
noncomputable abbrev rq2 (a1 a2:V):List (Str×V):=rq1 a1++[(Aa "who",a2)]
noncomputable abbrev rq3 (a1 a2 a3:V):List (Str×V):=rq2 a1 a2++[(Aa "owes",a3)]
noncomputable abbrev rq4 (a1 a2 a3 a4:V):List (Str×V):=rq3 a1 a2 a3++[(Aa "opens",a4)]
noncomputable abbrev rq5 (a1 a2 a3 a4 a5:V):List (Str×V):=rq4 a1 a2 a3 a4++[(Aa "base",a5)]
noncomputable abbrev rq6 (a1 a2 a3 a4 a5 a6:V):List (Str×V):=rq5 a1 a2 a3 a4 a5++[(Aa "many",a6)]
noncomputable abbrev rq7 (a1 a2 a3 a4 a5 a6 a7:V):List (Str×V):=rq6 a1 a2 a3 a4 a5 a6++[(Aa "unit",a7)]
noncomputable abbrev rq8 (a1 a2 a3 a4 a5 a6 a7 a8:V):List (Str×V):=rq7 a1 a2 a3 a4 a5 a6 a7++[(Aa "still",a8)]
noncomputable abbrev rq9 (a1 a2 a3 a4 a5 a6 a7 a8 a9:V):List (Str×V):=rq8 a1 a2 a3 a4 a5 a6 a7 a8++[(Aa "ends",a9)]
noncomputable abbrev qru (a1 a2 a3 a4 a5 a6 a7 a8 a9 a10:V):List (Str×V):=rq9 a1 a2 a3 a4 a5 a6 a7 a8 a9++[(Aa "anew",a10)]
noncomputable abbrev qqk (a1 a2 a3 a4 a5 a6 a7 a8 a9 a10 a11:V):List (Str×V):=qru a1 a2 a3 a4 a5 a6 a7 a8 a9 a10++[(Aa "longer",a11)]
noncomputable abbrev qrv (a1 a2 a3 a4 a5 a6 a7 a8 a9 a10 a11 a12:V):List (Str×V):=qqk a1 a2 a3 a4 a5 a6 a7 a8 a9 a10 a11++[(Aa "yields",a12)]
noncomputable def qql (r:Str×Int×Int):List V:=[.str r.1,.int r.2.1,.int r.2.2]
def StAt (H:Hp)(v:V):Option (Str×Str)->Prop
 |none=>v=.non
 |some s=>∃p,v=.ref p/\H p=some (.tup [.str s.1,.str s.2])
theorem StAt.same {H H':Hp}{v:V}{o:Option (Str×Str)}(h:StAt H v o)(z:Same H H'):StAt H' v o:=by
 cases o with
 |none=>exact h
 |some s=>obtain⟨p,a,b⟩:=h;exact⟨p,a,z _ _ b⟩
def spI1 (K:Ae)(f:Str):Sp:=λvs H Q _=>∃(x C:Addr)(y:V)(ini:Option Value),vs=[.ref x,y]/\H x=some (exO x C none true)/\XA K C ini/\AW K (.ref C) f=some none /\
 ∀(dx:Addr)(H':Hp),H dx=none->(∀b o,b≠x->H b=some o->H' b=some o)->H' x=some (exO x C (some dx) true)->H' dx=some (exD dx [(f,y)])->Q .non H'
noncomputable def nmB (x:Str):Bool:=(decide (1<=x.cps.size) && decide (x.cps.size<=8)) && x.cps.toList.all low
theorem qbb {x:Str}:nmB x=true↔qb1 x:=by unfold nmB qb1;rw[AD,AD,decide_eq_true_eq,decide_eq_true_eq,and_assoc]
def spNmG:Sp:=λvs H Q _=>∃x:Str,vs=[.str x]/\x.length<=2000/\∀H',Same H H'->Q (.bl (nmB x)) H'
noncomputable def qbu:List Str:=[wS "days",wS "weeks",wS "court"]
inductive Ask where
 |num (m:Int)
 |name
 |unit
 |lit (c:Str)
noncomputable def askV:Ask->V
 |.num m=>.int m
 |.name=>.str (wS "NAME")
 |.unit=>.str (wS "UNIT")
 |.lit c=>.str c
def qxc:Ask->Prop
 |.num m=>1<=m/\m<10 ^ 62
 |.name=>True
 |.unit=>True
 |.lit c=>c≠wS "NAME" /\ c≠wS "UNIT"
noncomputable def qdw (w:Str):Ask->Option V
 |.num m=>if due w m=true then some (.int (nv w)) else none
 |.name=>if nmB w=true then some (.str w) else none
 |.unit=>if qbu.contains w=true then some (.str w) else none
 |.lit c=>if w=c then some (.str w) else none
def spValG:Sp:=λvs H Q _=>∃(w:Str)(q:Ask),vs=[.str w,askV q]/\qxc q/\w.length<=2000/\∀H',Same H H'->Q ((qdw w q).getD .non) H'
noncomputable def qcr:List Str->List Ask->Option (List V)
 | [],[]=>some []
 |w::ws,q::qs=>(qdw w q).bind λv=>(qcr ws qs).map (v :: ·)
 |_,_=>none
noncomputable def qeh (d:Str):List Ask:=[.lit (wS "term"),.name,.lit (wS "of"),.name,.lit (wS "due"),.name,.lit d,.name,.num 40,.unit]
noncomputable def qmg:List (List Ask):=[qeh (wS "from"),qeh (wS "behind"),[.lit (wS "ends"),.name,.name],[.lit (wS "anew"),.name,.name],[.lit (wS "longer"),.name,.name,.num 20,.lit (wS "times"),.num 3],[.lit (wS "still"),.name,.name,.name],[.lit (wS "yields"),.name,.name]]
noncomputable def qjg (ws:List Str):Option (List V):=qmg.findSome? (qcr ws)
noncomputable def zsG (ws:List Str)(f:List Ask):List V:=(ws.zip f).map λp=>(qdw p.1 p.2).getD .non
def zsG_len {ws:List Str}{f:List Ask}(h:ws.length=f.length):(zsG ws f).length=ws.length:=by unfold zsG;rw[Ac,List.length_zip,h,Nat.min_self]
def qnw (w:Str)(q:Ask):qde ((qdw w q).getD .non)=true/\(qdw w q=none->(qdw w q).getD .non=.non)/\∀v,qdw w q=some v->eqV v .non=false:=by cases q <;>(unfold qdw;dsimp only;split <;>exact⟨Z,λz=>(by first|rfl|cases z),λv z=>by first | (cases z;rfl)|cases z⟩)
def qxd (ws:List Str)(f:List Ask):(zsG ws f).all qde=true:=by unfold zsG;rw[DZ,Be];exact λp _=>(qnw p.1 p.2).1
theorem qs9:∀{ws:List Str}{f:List Ask},ws.length=f.length->qcr ws f=if inV .non (zsG ws f)=true then none else some (zsG ws f)
 | [],[],_=>rfl
 |w::ws,q::qs,h=>by
  have b:=qs9 (ws:=ws) (f:=qs) (Du h);obtain⟨_,h1,d⟩:=qnw w q;have e:inV .non (zsG (w::ws) (q::qs))=(eqV ((qdw w q).getD .non) .non || inV .non (zsG ws qs)):=by unfold inV zsG;rw[List.zip_cons_cons,A6,DK]
  rw[e];show (qdw w q).bind (λv=>(qcr ws qs).map (v :: ·))=_;cases a:qdw w q with
  |none=>rfl
  |some v =>
   have:=d v a;show (qcr ws qs).map (v :: ·)=if (eqV v .non || inV .non (zsG ws qs))=true then none else some (zsG (w::ws) (q::qs));rw[this,Bool.false_or,b];have c:zsG (w::ws) (q::qs)=v::zsG ws qs:=by unfold zsG;rw[List.zip_cons_cons,A6,a];rfl
   rw[c];split <;>rfl
theorem qa0:∀{ws:List Str}{f:List Ask},ws.length≠f.length->qcr ws f=none
 | [],[],h=>absurd rfl h
 | [],_::_,_=>rfl
 |_::_,[],_=>rfl
 |w::ws,q::qs,h=>by show (qdw w q).bind (λv=>(qcr ws qs).map (v :: ·))=none;rw[qa0 (λz=>h (by rw[Au,Au,z]))];cases qdw w q <;>rfl
theorem qxe:∀f∈qmg,∀q∈f,qxc q:=by
 have t:∀d,d≠wS "NAME" -> d≠wS "UNIT" -> ∀q∈qeh d,qxc q:=λd c e q a=>by simp only[qeh,An,Aq,or_false]at a;rcases a with rfl|rfl|rfl|rfl|rfl|rfl|rfl|rfl|rfl|rfl;all_goals first|trivial|exact⟨c,e⟩|exact⟨Ez,Ez⟩|exact⟨En,En⟩
 intro f b;simp only[qmg,An,Aq,or_false]at b;rcases b with rfl|rfl|rfl|rfl|rfl|rfl|rfl
 .exact t _ En En
 .exact t _ En En
 .intro q a;simp only[An,Aq,or_false]at a;rcases a with rfl|rfl|rfl;all_goals first|trivial|exact⟨Ez,Ez⟩|exact⟨En,En⟩
 .intro q a;simp only[An,Aq,or_false]at a;rcases a with rfl|rfl|rfl;all_goals first|trivial|exact⟨Ez,Ez⟩|exact⟨En,En⟩
 .intro q a;simp only[An,Aq,or_false]at a;rcases a with rfl|rfl|rfl|rfl|rfl|rfl;all_goals first|trivial|exact⟨Ez,Ez⟩|exact⟨En,En⟩
 .intro q a;simp only[An,Aq,or_false]at a;rcases a with rfl|rfl|rfl|rfl;all_goals first|trivial|exact⟨Ez,Ez⟩|exact⟨En,En⟩
 .intro q a;simp only[An,Aq,or_false]at a;rcases a with rfl|rfl|rfl;all_goals first|trivial|exact⟨Ez,Ez⟩|exact⟨En,En⟩
def spRowG:Sp:=λvs H Q _=>∃l:Str,vs=[.str l]/\l.length<=1000/\(∀(q:Addr)(H':Hp)(us:List V),H q=none->Same H H'->qjg (BU l (wS " "))=some us->H' q=some (.lst us)->Q (.ref q) H')/\(qjg (BU l (wS " "))=none->∀H',Same H H'->Q .non H')
inductive Rw7 where
 |term (x w o:Str) (d:Bool) (y:Str) (m:Int) (u:Str)
 |ends (x k:Str)
 |anew (x k:Str)
 |longer (x k:Str) (u t:Int)
 |still (x k l:Str)
 |yields (x y:Str)
noncomputable def fbS (d:Bool):Str:=if d=true then wS "behind" else wS "from"
noncomputable def qc9:Rw7->List V
 |.term x w o d y m u=>[.str (wS "term"),.str x,.str (wS "of"),.str w,.str (wS "due"),.str o,.str (fbS d),.str y,.int m,.str u]
 |.ends x k=>[.str (wS "ends"),.str x,.str k]
 |.anew x k=>[.str (wS "anew"),.str x,.str k]
 |.longer x k u t=>[.str (wS "longer"),.str x,.str k,.int u,.str (wS "times"),.int t]
 |.still x k l=>[.str (wS "still"),.str x,.str k,.str l]
 |.yields x y=>[.str (wS "yields"),.str x,.str y]
noncomputable def qc5:List Str->Option Rw7
 | [a,x,b,w,c,o,d,y,m,u]=>if a=wS "term" /\ nmB x=true/\b=wS "of" /\ nmB w=true/\c=wS "due" /\ nmB o=true/\(d=wS "from" \/ d=wS "behind")/\nmB y=true/\due m 40=true/\qbu.contains u=true then some (.term x w o (decide (d=wS "behind")) y (nv m) u) else none
 | [a,x,k]=>if nmB x=true/\nmB k=true then (if a=wS "ends" then some (.ends x k) else if a=wS "anew" then some (.anew x k) else if a=wS "yields" then some (.yields x k) else none) else none
 | [a,x,k,u,t,n]=>if a=wS "longer" /\ nmB x=true/\nmB k=true/\due u 20=true/\t=wS "times" /\ due n 3=true then some (.longer x k (nv u) (nv n)) else none
 | [a,x,k,l]=>if a=wS "still" /\ nmB x=true/\nmB k=true/\nmB l=true then some (.still x k l) else none
 |_=>none
theorem qta {α β:Type}{g:α->Option β}:∀{l:List α}{i:Nat}{x:α}{y:β},l[i]?=some x->g x=some y->(∀j z,j<i->l[j]?=some z->g z=none)->l.findSome? g=some y
 | [],i,_,_,h,_,_=>by cases i <;>cases h
 |z::l,0,x,y,h,e,_=>by cases h;rw[List.findSome?_cons,e]
 |z::l,i+1,x,y,h,e,al=>by rw[List.findSome?_cons,al 0 z (Nat.succ_pos _) Z];exact qta (l:=l) (i:=i) h e λj w b a=>al (j+1) w (Nat.succ_lt_succ b) a
def qkn {w c:Str}(h:w=c):qdw w (.lit c)=some (.str w):=if_pos h
def qko {w c:Str}(h:¬w=c):qdw w (.lit c)=none:=if_neg h
def qfn {w:Str}(h:nmB w=true):qdw w .name=some (.str w):=if_pos h
def qfo {w:Str}(h:¬nmB w=true):qdw w .name=none:=if_neg h
def qxf {w:Str}{m:Int}(h:due w m=true):qdw w (.num m)=some (.int (nv w)):=if_pos h
def qxg {w:Str}{m:Int}(h:¬due w m=true):qdw w (.num m)=none:=if_neg h
def unit_t {w:Str}(h:qbu.contains w=true):qdw w .unit=some (.str w):=if_pos h
def unit_f {w:Str}(h:¬qbu.contains w=true):qdw w .unit=none:=if_neg h
def qb5 {w:Str}{q:Ask}{v:V}{ws:List Str}{a:List Ask}{vs:List V}(h:qdw w q=some v)(t:qcr ws a=some vs):qcr (w::ws) (q::a)=some (v::vs):=by show (qdw w q).bind (λv=>(qcr ws a).map (v :: ·))=_;rw[h,t];rfl
def qb6 {w:Str}{q:Ask}{ws:List Str}{a:List Ask}(h:qdw w q=none):qcr (w::ws) (q::a)=none:=by show (qdw w q).bind (λv=>(qcr ws a).map (v :: ·))=_;rw[h];rfl
def qag {w:Str}{q:Ask}{ws:List Str}{a:List Ask}(t:qcr ws a=none):qcr (w::ws) (q::a)=none:=by show (qdw w q).bind (λv=>(qcr ws a).map (v :: ·))=_;rw[t];cases qdw w q <;>rfl
def qnx {a x b w c o d y m u e:Str}:qcr [a,x,b,w,c,o,d,y,m,u] (qeh e)=if a=wS "term" /\ nmB x=true/\b=wS "of" /\ nmB w=true/\c=wS "due" /\ nmB o=true/\d=e/\nmB y=true/\due m 40=true/\qbu.contains u=true then some [.str a,.str x,.str b,.str w,.str c,.str o,.str d,.str y,.int (nv m),.str u] else none:=by
 unfold qeh;by_cases j:a=wS "term"
 .by_cases i:nmB x=true
  .by_cases g:b=wS "of"
   .by_cases k:nmB w=true
    .by_cases p:c=wS "due"
     .by_cases f:nmB o=true
      .by_cases n:d=e
       .by_cases l:nmB y=true
        .by_cases q:due m 40=true
         .by_cases h:qbu.contains u=true
          .rw[if_pos ⟨j,i,g,k,p,f,n,l,q,h⟩];exact qb5 (qkn j) (qb5 (qfn i) (qb5 (qkn g) (qb5 (qfn k) (qb5 (qkn p) (qb5 (qfn f) (qb5 (qkn n) (qb5 (qfn l) (qb5 (qxf q) (qb5 (unit_t h) Z)))))))))
          .rw[if_neg λz=>h z.2.2.2.2.2.2.2.2.2];exact qag (qag (qag (qag (qag (qag (qag (qag (qag (qb6 (unit_f h))))))))))
         .rw[if_neg λz=>q z.2.2.2.2.2.2.2.2.1];exact qag (qag (qag (qag (qag (qag (qag (qag (qb6 (qxg q)))))))))
        .rw[if_neg λz=>l z.2.2.2.2.2.2.2.1];exact qag (qag (qag (qag (qag (qag (qag (qb6 (qfo l))))))))
       .rw[if_neg λz=>n z.2.2.2.2.2.2.1];exact qag (qag (qag (qag (qag (qag (qb6 (qko n)))))))
      .rw[if_neg λz=>f z.2.2.2.2.2.1];exact qag (qag (qag (qag (qag (qb6 (qfo f))))))
     .rw[if_neg λz=>p z.2.2.2.2.1];exact qag (qag (qag (qag (qb6 (qko p)))))
    .rw[if_neg λz=>k z.2.2.2.1];exact qag (qag (qag (qb6 (qfo k))))
   .rw[if_neg λz=>g z.2.2.1];exact qag (qag (qb6 (qko g)))
  .rw[if_neg λz=>i z.2.1];exact qag (qb6 (qfo i))
 .rw[if_neg λz=>j z.1];exact qb6 (qko j)
def qrw {a x k e:Str}:qcr [a,x,k] [.lit e,.name,.name]=if a=e/\nmB x=true/\nmB k=true then some [.str a,.str x,.str k] else none:=by
 by_cases d:a=e
 .by_cases b:nmB x=true
  .by_cases c:nmB k=true
   .rw[if_pos ⟨d,b,c⟩];exact qb5 (qkn d) (qb5 (qfn b) (qb5 (qfn c) Z))
   .rw[if_neg λz=>c z.2.2];exact qag (qag (qb6 (qfo c)))
  .rw[if_neg λz=>b z.2.1];exact qag (qb6 (qfo b))
 .rw[if_neg λz=>d z.1];exact qb6 (qko d)
def vals_4 {a x k l e:Str}:qcr [a,x,k,l] [.lit e,.name,.name,.name]=if a=e/\nmB x=true/\nmB k=true/\nmB l=true then some [.str a,.str x,.str k,.str l] else none:=by
 by_cases f:a=e
 .by_cases b:nmB x=true
  .by_cases c:nmB k=true
   .by_cases d:nmB l=true
    .rw[if_pos ⟨f,b,c,d⟩];exact qb5 (qkn f) (qb5 (qfn b) (qb5 (qfn c) (qb5 (qfn d) Z)))
    .rw[if_neg λz=>d z.2.2.2];exact qag (qag (qag (qb6 (qfo d))))
   .rw[if_neg λz=>c z.2.2.1];exact qag (qag (qb6 (qfo c)))
  .rw[if_neg λz=>b z.2.1];exact qag (qb6 (qfo b))
 .rw[if_neg λz=>f z.1];exact qb6 (qko f)
def vals_6 {a x k u t n:Str}:qcr [a,x,k,u,t,n] [.lit (wS "longer"),.name,.name,.num 20,.lit (wS "times"),.num 3]=if a=wS "longer" /\ nmB x=true/\nmB k=true/\due u 20=true/\t=wS "times" /\ due n 3=true then some [.str a,.str x,.str k,.int (nv u),.str t,.int (nv n)] else none:=by
 by_cases g:a=wS "longer"
 .by_cases d:nmB x=true
  .by_cases e:nmB k=true
   .by_cases f:due u 20=true
    .by_cases b:t=wS "times"
     .by_cases c:due n 3=true
      .rw[if_pos ⟨g,d,e,f,b,c⟩];exact qb5 (qkn g) (qb5 (qfn d) (qb5 (qfn e) (qb5 (qxf f) (qb5 (qkn b) (qb5 (qxf c) Z)))))
      .rw[if_neg λz=>c z.2.2.2.2.2];exact qag (qag (qag (qag (qag (qb6 (qxg c))))))
     .rw[if_neg λz=>b z.2.2.2.2.1];exact qag (qag (qag (qag (qb6 (qko b)))))
    .rw[if_neg λz=>f z.2.2.2.1];exact qag (qag (qag (qb6 (qxg f))))
   .rw[if_neg λz=>e z.2.2.1];exact qag (qag (qb6 (qfo e)))
  .rw[if_neg λz=>d z.2.1];exact qag (qb6 (qfo d))
 .rw[if_neg λz=>g z.1];exact qb6 (qko g)
theorem qjh (ws:List Str):qjg ws=(qcr ws (qeh (wS "from"))).or ((qcr ws (qeh (wS "behind"))).or ((qcr ws [.lit (wS "ends"),.name,.name]).or ((qcr ws [.lit (wS "anew"),.name,.name]).or ((qcr ws [.lit (wS "longer"),.name,.name,.num 20,.lit (wS "times"),.num 3]).or ((qcr ws [.lit (wS "still"),.name,.name,.name]).or (qcr ws [.lit (wS "yields"),.name,.name])))))):=by
 unfold qjg qmg;simp only[List.findSome?_cons,List.findSome?_nil];cases qcr ws (qeh (wS "from")) with
 |some v=>rfl
 |none =>
  cases qcr ws (qeh (wS "behind")) with
  |some v=>rfl
  |none =>
   cases qcr ws [.lit (wS "ends"),.name,.name] with
   |some v=>rfl
   |none =>
    cases qcr ws [.lit (wS "anew"),.name,.name] with
    |some v=>rfl
    |none =>
     cases qcr ws [.lit (wS "longer"),.name,.name,.num 20,.lit (wS "times"),.num 3] with
     |some v=>rfl
     |none =>
      cases qcr ws [.lit (wS "still"),.name,.name,.name] with|some v=>rfl|none=>cases qcr ws [.lit (wS "yields"),.name,.name] <;>rfl
def qee {ws:List Str}(h:ws.length≠10/\ws.length≠3/\ws.length≠6/\ws.length≠4):qjg ws=none:=by rw[qjh,qa0 (f:=qeh (wS "from")) h.1,qa0 (f:=qeh (wS "behind")) h.1,qa0 (f:=[.lit (wS "ends"),.name,.name]) h.2.1,qa0 (f:=[.lit (wS "anew"),.name,.name]) h.2.1,qa0 (f:=[.lit (wS "longer"),.name,.name,.num 20,.lit (wS "times"),.num 3]) h.2.2.1,qa0 (f:=[.lit (wS "still"),.name,.name,.name]) h.2.2.2,qa0 (f:=[.lit (wS "yields"),.name,.name]) h.2.1];rfl
def qib (a x b w c o d y m u:Str):qc5 [a,x,b,w,c,o,d,y,m,u]=if a=wS "term" /\ nmB x=true/\b=wS "of" /\ nmB w=true/\c=wS "due" /\ nmB o=true/\(d=wS "from" \/ d=wS "behind")/\nmB y=true/\due m 40=true/\qbu.contains u=true then some (.term x w o (decide (d=wS "behind")) y (nv m) u) else none:=rfl
def qhq (a x k:Str):qc5 [a,x,k]=if nmB x=true/\nmB k=true then (if a=wS "ends" then some (.ends x k) else if a=wS "anew" then some (.anew x k) else if a=wS "yields" then some (.yields x k) else none) else none:=rfl
def qkf (a x k u t n:Str):qc5 [a,x,k,u,t,n]=if a=wS "longer" /\ nmB x=true/\nmB k=true/\due u 20=true/\t=wS "times" /\ due n 3=true then some (.longer x k (nv u) (nv n)) else none:=rfl
def qkg (a x k l:Str):qc5 [a,x,k,l]=if a=wS "still" /\ nmB x=true/\nmB k=true/\nmB l=true then some (.still x k l) else none:=rfl
def rowV_10 {a x b w c o d y m u:Str}:qjg [a,x,b,w,c,o,d,y,m,u]=(qc5 [a,x,b,w,c,o,d,y,m,u]).map qc9:=by
 have l:([a,x,b,w,c,o,d,y,m,u]:List Str).length=10:=rfl;rw[qjh,qnx,qnx,qa0 (f:=[.lit (wS "ends"),.name,.name]) (by rw[l];decide),qa0 (f:=[.lit (wS "anew"),.name,.name]) (by rw[l];decide),qa0 (f:=[.lit (wS "longer"),.name,.name,.num 20,.lit (wS "times"),.num 3]) (by rw[l];decide),qa0 (f:=[.lit (wS "still"),.name,.name,.name]) (by rw[l];decide),qa0 (f:=[.lit (wS "yields"),.name,.name]) (by rw[l];decide)];rw[qib];have t:wS "from" ≠ wS "behind" := by decide +kernel
 by_cases g:a=wS "term" /\ nmB x=true/\b=wS "of" /\ nmB w=true/\c=wS "due" /\ nmB o=true/\d=wS "from" /\ nmB y=true/\due m 40=true/\qbu.contains u=true
 .obtain⟨i,g,e,n,j,k,h,p⟩:=g;rw[if_pos ⟨i,g,e,n,j,k,h,p⟩,if_neg (λz=>t (h.symm.trans z.2.2.2.2.2.2.1)),if_pos ⟨i,g,e,n,j,k,.inl h,p⟩];subst i e j h;rw[decide_eq_false t];rfl
 .rw[if_neg g];by_cases e:a=wS "term" /\ nmB x=true/\b=wS "of" /\ nmB w=true/\c=wS "due" /\ nmB o=true/\d=wS "behind" /\ nmB y=true/\due m 40=true/\qbu.contains u=true
  .obtain⟨i,g,e,n,j,k,h,p⟩:=e;rw[if_pos ⟨i,g,e,n,j,k,h,p⟩,if_pos ⟨i,g,e,n,j,k,.inr h,p⟩];subst i e j h;rw[decide_eq_true Z];rfl
  .rw[if_neg e,if_neg λz=>by
    obtain⟨s,v,r,A,D,B,q,C⟩:=z
    rcases q with q|q
    .exact g ⟨s,v,r,A,D,B,q,C⟩
    .exact e ⟨s,v,r,A,D,B,q,C⟩]
   rfl
def rowV_3 {a x k:Str}:qjg [a,x,k]=(qc5 [a,x,k]).map qc9:=by
 have l:([a,x,k]:List Str).length=3:=rfl;rw[qjh,qa0 (f:=qeh (wS "from")) (by rw[l];decide),qa0 (f:=qeh (wS "behind")) (by rw[l];decide),qrw,qrw,qa0 (f:=[.lit (wS "longer"),.name,.name,.num 20,.lit (wS "times"),.num 3]) (by rw[l];decide),qa0 (f:=[.lit (wS "still"),.name,.name,.name]) (by rw[l];decide),qrw];rw[qhq];by_cases h:nmB x=true/\nmB k=true
 .rw[if_pos h];by_cases b:a=wS "ends"
  .rw[if_pos ⟨b,h⟩,if_pos b];subst b;rfl
  .rw[if_neg (λz=>b z.1),if_neg b];by_cases c:a=wS "anew"
   .rw[if_pos ⟨c,h⟩,if_pos c];subst c;rfl
   .rw[if_neg (λz=>c z.1),if_neg c];by_cases d:a=wS "yields"
    .rw[if_pos ⟨d,h⟩,if_pos d];subst d;rfl
    .rw[if_neg (λz=>d z.1),if_neg d];rfl
 .rw[if_neg h,if_neg (λz=>h z.2),if_neg (λz=>h z.2),if_neg (λz=>h z.2)];rfl
def rowV_4 {a x k e:Str}:qjg [a,x,k,e]=(qc5 [a,x,k,e]).map qc9:=by
 have l:([a,x,k,e]:List Str).length=4:=rfl;rw[qjh,qa0 (f:=qeh (wS "from")) (by rw[l];decide),qa0 (f:=qeh (wS "behind")) (by rw[l];decide),qa0 (f:=[.lit (wS "ends"),.name,.name]) (by rw[l];decide),qa0 (f:=[.lit (wS "anew"),.name,.name]) (by rw[l];decide),qa0 (f:=[.lit (wS "longer"),.name,.name,.num 20,.lit (wS "times"),.num 3]) (by rw[l];decide),vals_4,qa0 (f:=[.lit (wS "yields"),.name,.name]) (by rw[l];decide)];rw[qkg];by_cases h:a=wS "still" /\ nmB x=true/\nmB k=true/\nmB e=true
 .rw[if_pos h,if_pos h];obtain⟨b,_⟩:=h;subst b;rfl
 .rw[if_neg h,if_neg h];rfl
def rowV_6 {a x k u t n:Str}:qjg [a,x,k,u,t,n]=(qc5 [a,x,k,u,t,n]).map qc9:=by
 have l:([a,x,k,u,t,n]:List Str).length=6:=rfl;rw[qjh,qa0 (f:=qeh (wS "from")) (by rw[l];decide),qa0 (f:=qeh (wS "behind")) (by rw[l];decide),qa0 (f:=[.lit (wS "ends"),.name,.name]) (by rw[l];decide),qa0 (f:=[.lit (wS "anew"),.name,.name]) (by rw[l];decide),vals_6,qa0 (f:=[.lit (wS "still"),.name,.name,.name]) (by rw[l];decide),qa0 (f:=[.lit (wS "yields"),.name,.name]) (by rw[l];decide)];rw[qkf];by_cases h:a=wS "longer" /\ nmB x=true/\nmB k=true/\due u 20=true/\t=wS "times" /\ due n 3=true
 .rw[if_pos h,if_pos h];obtain⟨c,_,_,_,b,_⟩:=h;subst c b;rfl
 .rw[if_neg h,if_neg h];rfl
theorem qxh:∀ws:List Str,qjg ws=(qc5 ws).map qc9
 | [a,x,b,w,c,o,d,y,m,u]=>rowV_10
 | [a,x,k]=>rowV_3
 | [a,x,k,u,t,n]=>rowV_6
 | [a,x,k,l]=>rowV_4
 | []=>qee (by simp)
 | [_]=>qee (by simp)
 | [_,_]=>qee (by simp)
 | [_,_,_,_,_]=>qee (by simp)
 | [_,_,_,_,_,_,_]=>qee (by simp)
 | [_,_,_,_,_,_,_,_]=>qee (by simp)
 | [_,_,_,_,_,_,_,_,_]=>qee (by simp)
 |_::_::_::_::_::_::_::_::_::_::_::r=>qee (by simp only[Au];lia)
structure RR where
 name:Str
 who:Str
 owes:Str
 opens:Option Str
 base:Option Str
 many:Int
 unit:Str
 ends:List Str
 anew:List Str
 longer:List (Str×Int×Int)
 still:Option (Str×Str)
 yields:List Str
noncomputable def r0:RR:=⟨wS "",wS "",wS "",none,none,0,wS "",[],[],[],none,[]⟩
noncomputable def stL:Option (Str×Str)->List Str
 |none=>[]
 |some s=>[s.1,s.2]
noncomputable def qah (r:RR):List Str:=([r.owes]++r.ends++r.anew++r.longer.map (·.1))++r.opens.toList++stL r.still
inductive Er where
 |rule (i:Nat)
 |term (x:Str)
 |twice (x:Str)
 |unfit (i:Nat)
noncomputable def qan:List RR->Str->Option Nat
 | [],_=>none
 |r::rs,x=>if r.name=x then some 0 else (qan rs x).map (· + 1)
noncomputable def kin:Rw7->List Str
 |.term _ _ _ _ _ _ _=>[]
 |.ends _ k=>[k]
 |.anew _ k=>[k]
 |.longer _ k _ _=>[k]
 |.still _ k l=>[k,l]
 |.yields _ _=>[]
noncomputable def qoz (r:RR):Rw7->Bool
 |.still _ k l=>r.still.isSome || decide (k=l)
 |.longer _ _ _ _=>decide (r.longer.length=2)
 |_=>false
noncomputable def qew (r:RR)(row:Rw7):Bool:=((kin row).any λk=>(qah r).contains k) || qoz r row
noncomputable def qcj (r:RR):Rw7->RR
 |.ends _ k=>{r with ends:=r.ends++[k]}
 |.anew _ k=>{r with anew:=r.anew++[k]}
 |.longer _ k u t=>{r with longer:=r.longer++[(k,u,t)]}
 |.still _ k l=>{r with still:=some (k,l)}
 |_=>r
noncomputable def qhr (x w o:Str)(d:Bool)(y:Str)(m:Int)(u:Str):RR:=⟨x,w,o,if d=true then none else some y,if d=true then some y else none,m,u,[],[],[],none,[]⟩
noncomputable def qaz:Rw7->Str
 |.term x _ _ _ _ _ _=>x
 |.ends x _=>x
 |.anew x _=>x
 |.longer x _ _ _=>x
 |.still x _ _=>x
 |.yields x _=>x
noncomputable def isT:Rw7->Bool
 |.term _ _ _ _ _ _ _=>true
 |_=>false
noncomputable def qei (rs:List RR)(i:Nat)(x w o:Str)(d:Bool)(y:Str)(m:Int)(u:Str):Except Er (List RR) :=
 if (qan rs x).isSome=true then .error (.twice x) else if rs.length=6\/(d=false/\o=y) then .error (.unfit i) else .ok (rs++[qhr x w o d y m u])
noncomputable def qhs (rs:List RR)(i:Nat)(row:Rw7):Except Er (List RR) :=
 match qan rs (qaz row) with
 |none=>.error (.term (qaz row))
 |some j=>if qew (rs.getD j r0) row=true then .error (.unfit i) else .ok (rs.set j (qcj (rs.getD j r0) row))
noncomputable def qbt (rs:List RR)(i:Nat):Rw7->Except Er (List RR)
 |.term x w o d y m u=>qei rs i x w o d y m u
 |row=>qhs rs i row
noncomputable def qd3 (rs:List RR)(i j:Nat)(y:Str):Except Er (List RR) :=
 match qan rs y with
 |none=>.error (.term y)
 |some l=>if y=(rs.getD j r0).name\/y∈(rs.getD j r0).yields\/(rs.getD l r0).owes≠(rs.getD j r0).owes then .error (.unfit i) else .ok (rs.set j {rs.getD j r0 with yields:=(rs.getD j r0).yields++[y]})
noncomputable def qb0 (rs:List RR)(i:Nat):Rw7->Except Er (List RR)
 |.term x _ _ _ _ _ _=>match qan rs x with
  |none=>.ok rs
  |some j=>match (rs.getD j r0).base with
   |none=>.ok rs
   |some y=>if (qan rs y).isSome=true then .ok rs else .error (.term y)
 |.yields x y=>match qan rs x with
  |none=>.ok rs
  |some j=>qd3 rs i j y
 |_=>.ok rs
structure RA where
 p:Addr
 dx:Addr
 pe:Addr
 pa:Addr
 pl:Addr
 py:Addr
noncomputable def own (A:RA):List Addr:=[A.p,A.pe,A.pa,A.pl,A.py]
def KeepT (S:List Addr)(H H':Hp):Prop:=∀b o,(b∉S \/ ∃t,o=.tup t)->H b=some o->H' b=some o
def KeepT.of {S:List Addr}{H H':Hp}(s:Same H H'):KeepT S H H':=λb o _ e=>s b o e
def KeepT.trans {S:List Addr}{H d f:Hp}(a:KeepT S H d)(b:KeepT S d f):KeepT S H f:=λc o n e=>b c o n (a c o n e)
def KeepT.sub {S b:List Addr}{H H':Hp}(a:KeepT S H H')(h:∀z∈S,z∈b):KeepT b H H':=λc o n e=>a c o (n.imp (λm z=>m (h c z)) id) e
def KeepT.put {S:List Addr}{H:Hp}{z:Addr}{o o':HO}(hz:z∈S)(e:H z=some o)(a:∀t,o ≠ .tup t):KeepT S H (upd H z o'):=λb u n h=>by
 have c:b≠z:=λq=>by
  rcases n with n|⟨t,rfl⟩
  .exact n (q ▸ hz)
  .rw[q,e]at h;injection h with h;exact a t h
 rw[qp c];exact h
theorem StAt.keep {S:List Addr}{H H':Hp}{v:V}{o:Option (Str×Str)}(h:StAt H v o)(k:KeepT S H H'):StAt H' v o:=by
 cases o with
 |none=>exact h
 |some s=>obtain⟨p,a,b⟩:=h;exact⟨p,a,k _ _ (.inr ⟨_,Z⟩) b⟩
theorem qb8 {S:List Addr}{H H':Hp}{us:List V}{ts:List (List V)}(t:Tups H us ts)(k:KeepT S H H'):Tups H' us ts:=by
 induction t with
 |nil=>exact .nil
 |cons h _ ih=>exact .cons (k _ _ (.inr ⟨_,Z⟩) h) ih
noncomputable abbrev rlR (A:RA)(r:RR)(v:V):List (Str×V):=rlF (.str r.name) (.str r.who) (.str r.owes) (qev r.opens) (qev r.base) (.int r.many) (.str r.unit) v (.ref A.pe) (.ref A.pa) (.ref A.pl) (.ref A.py)
structure RuY (C:Addr)(H:Hp)(A:RA)(r:RR)(v:V)(us:List V):Prop where
 hx:H A.p=some (.ins C A.dx (rlR A r v))
 hs:StAt H v r.still
 he:H A.pe=some (.lst (r.ends.map V.str))
 ha:H A.pa=some (.lst (r.anew.map V.str))
 hl:H A.pl=some (.lst us)
 tl:Tups H us (r.longer.map qql)
 hy:H A.py=some (.lst (r.yields.map V.str))
def RuX (C:Addr)(H:Hp)(A:RA)(r:RR):Prop:=∃v us,RuY C H A r v us
def RuX.keep {C:Addr}{S:List Addr}{H H':Hp}{A:RA}{r:RR}(h:RuX C H A r)(k:KeepT S H H')(n:∀z∈own A,z∉S):RuX C H' A r:=by obtain⟨v,us,h⟩:=h;exact⟨v,us,k _ _ (.inl (n _ (by simp[own]))) h.hx,h.hs.keep k,k _ _ (.inl (n _ (by simp[own]))) h.he,k _ _ (.inl (n _ (by simp[own]))) h.ha,k _ _ (.inl (n _ (by simp[own]))) h.hl,qb8 h.tl k,k _ _ (.inl (n _ (by simp[own]))) h.hy⟩
theorem RuX.same {C:Addr}{H H':Hp}{A:RA}{r:RR}(h:RuX C H A r)(s:Same H H'):RuX C H' A r:=h.keep (S:=[]) (KeepT.of s) (λ_ _=>Aq)
noncomputable def dcR:List RR->List RA->List (Key×V)
 |r::rs,A::As=>(.inr r.name,.ref A.p)::dcR rs As
 |_,_=>[]
structure Sta (C:Addr)(H:Hp)(d:Addr)(rs:List RR)(As:List RA):Prop where
 hd:H d=some (.dK (dcR rs As))
 ln:As.length=rs.length
 nd:(d::As.flatMap own).Nodup
 nn:(rs.map RR.name).Nodup
 ru:∀(i:Nat)(r:RR)(A:RA),rs[i]?=some r->As[i]?=some A->RuX C H A r
def qcp (r:RR)(rs:List RR)(x:Str):qan (r::rs) x=if r.name=x then some 0 else (qan rs x).map (· + 1):=rfl
theorem qgr:∀{rs:List RR}{As:List RA}(x:Str),As.length=rs.length->qek (dcR rs As) (.inr x)=(qan rs x).bind λj=>(As[j]?).map λA=>.ref A.p
 | [],[],_,_=>rfl
 |r::rs,A::As,x,h=>by
  show qek ((De r.name,V.ref A.p)::dcR rs As) (.inr x)=_;by_cases c:r.name=x
  .rw[qc2 (by show (De r.name:Key)=_;rw[c])];rw[qcp,if_pos c];rfl
  .rw[qc3 (λz=>c (De.inj z)),qgr x (Du h)];rw[qcp,if_neg c];cases qan rs x <;>rfl
theorem qji:∀{rs:List RR}{As:List RA},As.length=rs.length->(dcR rs As).length=rs.length
 | [],[],_=>rfl
 |r::rs,A::As,h=>by show (dcR rs As).length+1=_;rw[qji (Du h)];rfl
theorem qmh:∀{rs:List RR}{As:List RA}(r:RR)(A:RA),As.length=rs.length->dcR (rs++[r]) (As++[A])=dcR rs As++[(.inr r.name,.ref A.p)]
 | [],[],_,_,_=>rfl
 |r'::rs,A'::As,r,A,h=>by show (De r'.name,V.ref A'.p)::dcR (rs++[r]) (As++[A])=_;rw[qmh r A (Du h)];rfl
theorem qtb:∀{rs:List RR}{As:List RA}(j:Nat)(r:RR),(∀s,rs[j]?=some s->s.name=r.name)->dcR (rs.set j r) As=dcR rs As
 | [],_,_,_,_=>rfl
 |r'::rs,[],j,r,_=>by cases j <;>rfl
 |r'::rs,A::As,0,r,h=>by show (De r.name,V.ref A.p)::dcR rs As=(De r'.name,V.ref A.p)::dcR rs As;rw[h r' Z]
 |r'::rs,A::As,j+1,r,h=>by show (De r'.name,V.ref A.p)::dcR (rs.set j r) As=_;rw[qtb j r (λs e=>h s e)];rfl
theorem qqm:∀{rs:List RR}{As:List RA},As.length=rs.length->(dcR rs As).map (·.2)=As.map λA=>.ref A.p
 | [],[],_=>rfl
 |r::rs,A::As,h=>by show V.ref A.p::(dcR rs As).map (·.2)=_;rw[qqm (Du h)];rfl
theorem qqn:∀{rs:List RR}{As:List RA},As.length=rs.length->(dcR rs As).map (·.1)=rs.map λr=>.inr r.name
 | [],[],_=>rfl
 |r::rs,A::As,h=>by show (De r.name:Key)::(dcR rs As).map (·.1)=_;rw[qqn (Du h)];rfl
theorem qa4:∀{rs:List RR}{x:Str}{j:Nat},qan rs x=some j->∃r,rs[j]?=some r/\r.name=x
 | [],_,_,h=>by cases h
 |r::rs,x,j,h=>by
  rw[qcp]at h;by_cases c:r.name=x
  .rw[if_pos c]at h;cases h;exact⟨r,Z,c⟩
  .rw[if_neg c]at h;cases e:qan rs x with
   |none=>rw[e]at h;cases h
   |some i =>rw[e]at h;cases h;obtain⟨r',a,b⟩:=qa4 e;exact⟨r',a,b⟩
theorem qc7:∀{rs:List RR}{x:Str},qan rs x=none↔x∉rs.map RR.name
 | [],_=>⟨λ_=>Aq,λ_=>rfl⟩
 |r::rs,x=>by
  rw[qcp,A6,An];by_cases c:r.name=x
  .rw[if_pos c];exact⟨(λz=>nomatch z),λz=>absurd (.inl c.symm) z⟩
  .rw[if_neg c];have a:=qc7 (rs:=rs) (x:=x);constructor
   .rintro h (z|z)
    .exact c z.symm
    .cases e:qan rs x with
     |none=>exact a.mp e z
     |some i=>rw[e]at h;cases h
   .intro h;rw[a.mpr λz=>h (.inr z)];rfl
theorem qef:∀{rs:List RR}{j:Nat}{r:RR},(rs.map RR.name).Nodup->rs[j]?=some r->qan rs r.name=some j
 | [],j,_,_,h=>by cases j <;>cases h
 |r'::rs,0,r,_,h=>by cases h;rw[qcp,if_pos Z]
 |r'::rs,j+1,r,nd,h=>by rw[A6,AM]at nd;rw[qcp,if_neg (λz=>nd.1 (by rw[z];exact AS.mpr ⟨r,At h,Z⟩)),qef nd.2 h];rfl
def qgs {rs:List RR}{j:Nat}{r:RR}(h:rs[j]?=some r):rs.getD j r0=r:=by rw[BA,h];rfl
def Sta.same {C:Addr}{H H':Hp}{d:Addr}{rs:List RR}{As:List RA}(s:Sta C H d rs As)(z:Same H H'):Sta C H' d rs As:=⟨z _ _ s.hd,s.ln,s.nd,s.nn,λi r A a b=>(s.ru i r A a b).same z⟩
def Sta.get {C:Addr}{H:Hp}{d:Addr}{rs:List RR}{As:List RA}(s:Sta C H d rs As){x:Str}{j:Nat}(h:qan rs x=some j):∃r A,rs[j]?=some r/\As[j]?=some A/\r.name=x/\RuX C H A r/\DGet H d (.str x) (some (.ref A.p)):=by
 obtain⟨r,a,b⟩:=qa4 h;have lt:j<As.length:=by rw[s.ln];exact(Ah.mp a).1
 refine⟨r,As[j],a,Al lt,b,s.ru j r _ a (Al lt),?_⟩;have g:=DGet.k (k:=.inr x) s.hd;rw[qgr x s.ln,h]at g;rw[show (some j).bind (λj=>(As[j]?).map λA=>V.ref A.p)=(As[j]?).map λA=>V.ref A.p from Z,Al lt]at g;exact g
def Sta.non {C:Addr}{H:Hp}{d:Addr}{rs:List RR}{As:List RA}(s:Sta C H d rs As){x:Str}(h:qan rs x=none):DGet H d (.str x) none:=by have g:=DGet.k (k:=.inr x) s.hd;rw[qgr x s.ln,h]at g;exact g
theorem qxi {α:Type}{f:RA->List α}:∀{As:List RA}{i j:Nat}{A B:RA}{z:α},(As.flatMap f).Nodup->As[i]?=some A->As[j]?=some B->i≠j->z∈f A->z∉f B
 | [],i,_,_,_,_,_,h,_,_,_=>by cases i <;>cases h
 |C::As,i,j,A,B,z,nd,hi,hj,ne,hz=>by
  rw[Bt,AO]at nd;intro a;cases i with
  |zero =>
   cases hi;cases j with|zero=>exact ne rfl|succ j=>exact nd.2.2 z hz z (B0.mpr ⟨B,At hj,a⟩) rfl
  |succ i =>
   cases j with|zero =>cases hj;exact nd.2.2 z a z (B0.mpr ⟨A,At hi,hz⟩) rfl|succ j=>exact qxi nd.2.1 hi hj (λe=>ne (by rw[e])) hz a
def Sta.chg {C:Addr}{H H':Hp}{d:Addr}{rs:List RR}{As:List RA}{j:Nat}{r r':RR}{A:RA}(s:Sta C H d rs As)(g:rs[j]?=some r)(f:As[j]?=some A)(k:KeepT (own A) H H')(x:RuX C H' A r')(l:r'.name=r.name):Sta C H' d (rs.set j r') As:=by
 have nd:=AM.mp s.nd;have mem:∀z∈own A,z∈As.flatMap own:=λz hz=>B0.mpr ⟨A,At f,hz⟩;refine⟨?_,by rw[C7];exact s.ln,s.nd,?_,λi m B a b=>?_⟩
 .rw[qtb j r' (λz e=>by rw[g]at e;cases e;exact l.symm)];exact k _ _ (.inl λz=>nd.1 (mem _ z)) s.hd
 .have e:(rs.set j r').map RR.name=rs.map RR.name:=by
   rw[List.map_set,l]
   apply Bz
   intro i
   rw[Cn,Ak]
   by_cases c:j=i
   .subst c;rw[if_pos Z,g,if_pos (by rw[Ac];exact(Ah.mp g).1)];rfl
   .rw[if_neg c]
  rw[e];exact s.nn
 .rw[Cn]at a;by_cases c:j=i
  .subst c;rw[if_pos Z]at a;split at a
   .cases a;rw[f]at b;cases b;exact x
   .cases a
  .rw[if_neg c]at a;exact(s.ru i m B a b).keep k λz hz h=>qxi nd.2 b f (Ba c) hz h
noncomputable def erC (a:Adr):Er->Addr
 |.rule _=>a.kF
 |.term _=>a.kE
 |.twice _=>a.kD
 |.unfit _=>a.kB
noncomputable def erF:Er->Str×V
 |.rule i=>("at",.int (i:Int))
 |.term x=>("name",.str x)
 |.twice x=>("name",.str x)
 |.unfit i=>("at",.int (i:Int))
def OutE (a:Adr)(e:Er)(H:Hp)(E:XK):Prop:=∀(x d:Addr)(H':Hp),Same H H'->H' x=some (exO x (erC a e) (some d) false)->H' d=some (exD d [erF e])->E (.ref x) (some d) H'
def OutE.same {a:Adr}{e:Er}{H H':Hp}{E:XK}(o:OutE a e H E)(s:Same H H'):OutE a e H' E:=λx d b z=>o x d b (s.trans z)
def Bn (n:Nat)(rs:List RR):Prop:=∀r∈rs,r.ends.length<=n/\r.anew.length<=n/\r.longer.length<=n/\r.yields.length<=n
def spRlG (a:Adr):Sp:=λvs H Q _=>∃(x dx:Addr)(vn vw vo vp vb vm vu vs':V),vs=[.ref x,vn,vw,vo,vp,vb,vm,vu,vs']/\H x=some (.ins a.k8 dx []) /\
 ∀(H':Hp)(pe pa pl py:Addr),SameBut x H H'->H pe=none->H pa=none->H pl=none->H py=none->H' x=some (.ins a.k8 dx (rlF vn vw vo vp vb vm vu vs' (.ref pe) (.ref pa) (.ref pl) (.ref py)))->H' pe=some (.lst [])->H' pa=some (.lst [])->H' pl=some (.lst [])->H' py=some (.lst [])->[x,pe,pa,pl,py].Nodup->Q .non H'
def spAk (a:Adr):Sp:=λvs H Q _=>∃(A:RA)(r:RR),vs=[.ref A.p]/\RuX a.k8 H A r/\r.ends.length<=1000/\r.anew.length<=1000/\r.longer.length<=1000/\∀(q:Addr)(H':Hp),H q=none->Same H H'->H' q=some (.lst ((qah r).map V.str))->Q (.ref q) H'
def spKi:Sp:=λvs H Q _=>∃(p:Addr)(row:Rw7),vs=[.ref p]/\H p=some (.lst (qc9 row))/\isT row=false/\∀(q:Addr)(H':Hp),H q=none->Same H H'->H' q=some (.lst ((kin row).map V.str))->Q (.ref q) H'
def spUf (a:Adr):Sp:=λvs H Q _=>∃(A:RA)(r:RR)(p:Addr)(row:Rw7),vs=[.ref A.p,.ref p]/\RuX a.k8 H A r/\r.ends.length<=1000/\r.anew.length<=1000/\r.longer.length<=1000/\H p=some (.lst (qc9 row))/\isT row=false/\∀H',Same H H'->Q (.bl (qew r row)) H'
def spMo (a:Adr):Sp:=λvs H Q E=>∃(A:RA)(r:RR)(i:Nat)(p:Addr)(row:Rw7),vs=[.ref A.p,.int (i:Int),.ref p]/\RuX a.k8 H A r/\(own A).Nodup/\r.ends.length<=1000/\r.anew.length<=1000/\r.longer.length<=1000/\H p=some (.lst (qc9 row))/\isT row=false /\
 (qew r row=false->∀H',KeepT (own A) H H'->RuX a.k8 H' A (qcj r row)->Q .non H')/\(qew r row=true->OutE a (.unfit i) H E)
def Frs (H:Hp)(As As':List RA):Prop:=∀z∈As'.flatMap own,z∈As.flatMap own\/H z=none
def spTm (a:Adr):Sp:=λvs H Q E=>∃(d p:Addr)(i:Nat)(rs:List RR)(As:List RA)(x w o:Str)(dd:Bool)(y:Str)(m:Int)(u:Str),vs=[.ref d,.int (i:Int),.ref p]/\Sta a.k8 H d rs As/\rs.length<=6/\H p=some (.lst (qc9 (.term x w o dd y m u))) /\
 (∀rs',qei rs i x w o dd y m u=.ok rs'->∀H' As',KeepT (d::As.flatMap own) H H'->Frs H As As'->Sta a.k8 H' d rs' As'->Q .non H')/\∀e,qei rs i x w o dd y m u=.error e->OutE a e H E
def spRo (a:Adr):Sp:=λvs H Q E=>∃(d p:Addr)(i:Nat)(rs:List RR)(As:List RA)(row:Rw7),vs=[.ref d,.int (i:Int),.ref p]/\Sta a.k8 H d rs As/\rs.length<=6/\Bn 1000 rs/\H p=some (.lst (qc9 row)) /\
 (∀rs',qbt rs i row=.ok rs'->∀H' As',KeepT (d::As.flatMap own) H H'->Frs H As As'->Sta a.k8 H' d rs' As'->Q .non H')/\∀e,qbt rs i row=.error e->OutE a e H E
def spSy (a:Adr):Sp:=λvs H Q E=>∃(d:Addr)(i j:Nat)(rs:List RR)(As:List RA)(r:RR)(A:RA)(y:Str),vs=[.ref d,.ref A.p,.int (i:Int),.str y]/\Sta a.k8 H d rs As/\Bn 1000 rs/\rs[j]?=some r/\As[j]?=some A /\
 (∀rs',qd3 rs i j y=.ok rs'->∀H',KeepT (d::As.flatMap own) H H'->Sta a.k8 H' d rs' As->Q .non H')/\∀e,qd3 rs i j y=.error e->OutE a e H E
def spSn (a:Adr):Sp:=λvs H Q E=>∃(d p:Addr)(i:Nat)(rs:List RR)(As:List RA)(row:Rw7),vs=[.ref d,.int (i:Int),.ref p]/\Sta a.k8 H d rs As/\Bn 1000 rs/\H p=some (.lst (qc9 row))/\(qan rs (qaz row)).isSome=true /\
 (∀rs',qb0 rs i row=.ok rs'->∀H',KeepT (d::As.flatMap own) H H'->Sta a.k8 H' d rs' As->Q .non H')/\∀e,qb0 rs i row=.error e->OutE a e H E
def kin_len (r:RR):(qah r).length<=4+r.ends.length+r.anew.length+r.longer.length:=by
 unfold qah;simp only[Ag,Ac,Au,Bu];have h1:r.opens.toList.length<=1:=by cases r.opens <;>simp
 have h2:(stL r.still).length<=2:=by cases r.still <;>simp[stL]
 lia
def any_map {a B:List Str}:((a.map λk=>B.contains k).any λb=>b)=a.any λk=>B.contains k:=by rw[List.any_map];rfl
def Sta.snoc {C:Addr}{H H':Hp}{d:Addr}{rs:List RR}{As:List RA}{r:RR}{A:RA}(s:Sta C H d rs As)(k:KeepT [d] H H')(hd:H' d=some (.dK (dcR rs As++[(.inr r.name,.ref A.p)])))(x:RuX C H' A r)(nm:qan rs r.name=none)(nd:(own A).Nodup)(n:∀z∈own A,z≠d/\z∉As.flatMap own):Sta C H' d (rs++[r]) (As++[A]):=by
 have l:=AM.mp s.nd;refine⟨by rw[qmh r A s.ln];exact hd,by rw[Ag,Ag,s.ln];rfl,?_,?_,λi o B g f=>?_⟩
 .rw[Bc,AM,Az,AO];have e:[A].flatMap own=own A:=by simp
  rw[e];exact⟨λz=>z.elim l.1 λq=>(n d q).1 Z,l.2,nd,λa h b j q=>(n b j).2 (q ▸ h)⟩
 .rw[Av,AO];exact⟨s.nn,by simp,λa h b j q=>qc7.mp nm (by rw[<- Ai.mp j,<- q];exact h)⟩
 .by_cases c:i<rs.length
  .rw[AT c]at g;rw[AT (by rw[s.ln];exact c)]at f;refine(s.ru i o B g f).keep k λz hz m=>l.1 ?_;rw[<- Ai.mp m];exact B0.mpr ⟨B,At f,hz⟩
  .rw[AN (by lia)]at g;rw[AN (by rw[s.ln];lia),s.ln]at f;have l1:i-rs.length<1:=(Ah.mp g).1;rw[show i-rs.length=0 by lia]at g f;cases g;cases f;exact x
def qht {rs:List RR}{i:Nat}{x w o:Str}{d:Bool}{y:Str}{m:Int}{u:Str}(h:(qan rs x).isSome=true):qei rs i x w o d y m u=.error (.twice x):=if_pos h
def qfp {rs:List RR}{i:Nat}{x w o:Str}{d:Bool}{y:Str}{m:Int}{u:Str}(h:qan rs x=none)(c:rs.length=6\/(d=false/\o=y)):qei rs i x w o d y m u=.error (.unfit i):=by unfold qei;rw[h,if_neg Ez,if_pos c]
def qex {rs:List RR}{i:Nat}{x w o:Str}{d:Bool}{y:Str}{m:Int}{u:Str}(h:qan rs x=none)(c:¬(rs.length=6\/(d=false/\o=y))):qei rs i x w o d y m u=.ok (rs++[qhr x w o d y m u]):=by unfold qei;rw[h,if_neg Ez,if_neg c]
def qgb {rs:List RR}{i:Nat}{a:Rw7}(h:qan rs (qaz a)=none):qhs rs i a=.error (.term (qaz a)):=by unfold qhs;rw[h]
def qgc {rs:List RR}{i j:Nat}{a:Rw7}{r:RR}(h:qan rs (qaz a)=some j)(b:rs[j]?=some r)(u:qew r a=true):qhs rs i a=.error (.unfit i):=by unfold qhs;rw[h];dsimp only;rw[qgs b,if_pos u]
def qey {rs:List RR}{i j:Nat}{a:Rw7}{r:RR}(h:qan rs (qaz a)=some j)(b:rs[j]?=some r)(u:qew r a=false):qhs rs i a=.ok (rs.set j (qcj r a)):=by unfold qhs;rw[h];dsimp only;rw[qgs b,u,if_neg Ez]
def qd8 {rs:List RR}{i:Nat}{a:Rw7}(h:isT a=false):qbt rs i a=qhs rs i a:=by
 cases a with|term=>cases h|_=>rfl
def qe5 (r:RR)(a:Rw7):(qcj r a).name=r.name:=by cases a <;>rfl
def qk7 {As:List RA}{j:Nat}{A:RA}(h:As[j]?=some A):∀z∈own A,z∈As.flatMap own:=λz hz=>B0.mpr ⟨A,At h,hz⟩
theorem qrx {As:List RA}{j:Nat}{A:RA}(a:(As.flatMap own).Nodup)(h:As[j]?=some A):(own A).Nodup:=by
 induction As generalizing j with
 |nil=>cases j <;>cases h
 |cons B As ih =>
  rw[Bt,AO]at a;cases j with|zero=>cases h;exact a.1|succ j=>exact ih a.2.1 h
def qgt {rs:List RR}{i j:Nat}{y:Str}(h:qan rs y=none):qd3 rs i j y=.error (.term y):=by unfold qd3;rw[h]
def qen {rs:List RR}{i j l:Nat}{y:Str}{r s:RR}(h:qan rs y=some l)(b:rs[j]?=some r)(a:rs[l]?=some s)(c:y=r.name\/y∈r.yields\/s.owes≠r.owes):qd3 rs i j y=.error (.unfit i):=by unfold qd3;rw[h];dsimp only;rw[qgs b,qgs a,if_pos c]
def qfq {rs:List RR}{i j l:Nat}{y:Str}{r s:RR}(h:qan rs y=some l)(b:rs[j]?=some r)(a:rs[l]?=some s)(c:¬(y=r.name\/y∈r.yields\/s.owes≠r.owes)):qd3 rs i j y=.ok (rs.set j {r with yields:=r.yields++[y]}):=by unfold qd3;rw[h];dsimp only;rw[qgs b,qgs a,if_neg c]
def qxj {rs:List RR}{i:Nat}{a:Rw7}(h:isT a=false)(b:∀x y,a ≠ .yields x y):qb0 rs i a=.ok rs:=by
 cases a with|yields x y=>exact absurd rfl (b x y)|term=>cases h|_=>rfl
def qhu {rs:List RR}{i j:Nat}{x y:Str}(h:qan rs x=some j):qb0 rs i (.yields x y)=qd3 rs i j y:=by show (match qan rs x with|none=>_|some j=>qd3 rs i j y)=_;rw[h]
theorem qgd {rs:List RR}{i j:Nat}{x w o:Str}{d:Bool}{y:Str}{m:Int}{u:Str}{r:RR}(h:qan rs x=some j)(a:rs[j]?=some r):qb0 rs i (.term x w o d y m u)=match r.base with|none=>.ok rs|some y=>if (qan rs y).isSome=true then .ok rs else .error (.term y):=by show (match qan rs x with|none=>_|some j=>_)=_;rw[h];dsimp only;rw[qgs a]
noncomputable def qai:List RR->Nat->List (Option Rw7)->Except Er (List RR)
 |rs,_,[]=>.ok rs
 |rs,i,o::t=>if i=40 then .error (.rule i) else match o with
  |none=>.error (.rule i)
  |some row=>match qbt rs i row with
   |.error e=>.error e
   |.ok rs'=>qai rs' (i+1) t
noncomputable def qar:List RR->Nat->List Rw7->Except Er (List RR)
 |rs,_,[]=>.ok rs
 |rs,i,row::t=>match qb0 rs i row with
  |.error e=>.error e
  |.ok rs'=>qar rs' (i+1) t
noncomputable def opR (l:Str):Option Rw7:=qc5 (BU l (wS " "))
noncomputable def qd6 (ls:List Str):List (Option Rw7):=ls.map opR
noncomputable def qdo (ls:List Str):Except Er (List RR):=match qai [] 0 (qd6 ls) with
 |.error e=>.error e
 |.ok rs=>qar rs 0 ((qd6 ls).filterMap id)
theorem qbg (rs:List RR)(i:Nat)(o:Option Rw7)(t:List (Option Rw7)):qai rs i (o::t)=if i=40 then .error (.rule i) else match o with
  |none=>.error (.rule i)
  |some row=>match qbt rs i row with
   |.error e=>.error e
   |.ok rs'=>qai rs' (i+1) t:=rfl
theorem qeg (rs:List RR)(i:Nat)(a:Rw7)(t:List Rw7):qar rs i (a::t)=match qb0 rs i a with
  |.error e=>.error e
  |.ok rs'=>qar rs' (i+1) t:=rfl
theorem qgu:∀(xs ys:List (Option Rw7))(rs:List RR)(i:Nat),qai rs i (xs++ys)=match qai rs i xs with | .error e=>.error e | .ok rs'=>qai rs' (i+xs.length) ys
 | [],ys,rs,i=>rfl
 |o::xs,ys,rs,i=>by
  show qai rs i (o::(xs++ys))=_;rw[qbg,qbg];by_cases c:i=40
  .rw[if_pos c,if_pos c]
  .rw[if_neg c,if_neg c];cases o with
   |none=>rfl
   |some row =>
    dsimp only;cases qbt rs i row with|error e=>rfl|ok rs' =>dsimp only;rw[qgu xs ys rs' (i+1),Au,show i+1+xs.length=i+(xs.length+1) by lia]
theorem qhv:∀(xs ys:List Rw7)(rs:List RR)(i:Nat),qar rs i (xs++ys)=match qar rs i xs with | .error e=>.error e | .ok rs'=>qar rs' (i+xs.length) ys
 | [],ys,rs,i=>rfl
 |row::xs,ys,rs,i=>by
  show qar rs i (row::(xs++ys))=_;rw[qeg,qeg];cases qb0 rs i row with|error e=>rfl|ok rs' =>dsimp only;rw[qhv xs ys rs' (i+1),Au,show i+1+xs.length=i+(xs.length+1) by lia]
def qfy {a:List (Option Rw7)}{i:Nat}{rs:List RR}{o:Option Rw7}(h:qai [] 0 (a.take i)=.ok rs)(b:a[i]?=some o):qai [] 0 a=qai rs i (o::a.drop (i+1))/\qai [] 0 (a.take (i+1))=qai rs i [o]:=by
 have lt:=(Ah.mp b).1;have e:a=a.take i++(o::a.drop (i+1)):=by have:=C1 i a;rw[Cy lt]at this;rw[Al lt]at b;cases b;exact this.symm
 have l:(a.take i).length=i:=by rw[AZ];lia
 constructor
 .conv=>lhs;rw[e]
  rw[qgu,h];dsimp only;rw[l,DF]
 .rw[qbr b,qgu,h];dsimp only;rw[l,DF]
def qfr {rw:List Rw7}{i:Nat}{rs0 rs:List RR}{a:Rw7}(h:qar rs0 0 (rw.take i)=.ok rs)(b:rw[i]?=some a):qar rs0 0 rw=qar rs i (a::rw.drop (i+1))/\qar rs0 0 (rw.take (i+1))=qar rs i [a]:=by
 have lt:=(Ah.mp b).1;have e:rw=rw.take i++(a::rw.drop (i+1)):=by have:=C1 i rw;rw[Cy lt]at this;rw[Al lt]at b;cases b;exact this.symm
 have l:(rw.take i).length=i:=by rw[AZ];lia
 constructor
 .conv=>lhs;rw[e]
  rw[qhv,h];dsimp only;rw[l,DF]
 .rw[qbr b,qhv,h];dsimp only;rw[l,DF]
def qgv {rs a:List RR}{i:Nat}{b:Rw7}(n:i≠40)(h:qbt rs i b=.ok a)(t:List (Option Rw7)):qai rs i (some b::t)=qai a (i+1) t:=by rw[qbg,if_neg n];dsimp only;rw[h]
def qmi {rs:List RR}{i:Nat}{a:Rw7}{e:Er}(n:i≠40)(h:qbt rs i a=.error e)(t:List (Option Rw7)):qai rs i (some a::t)=.error e:=by rw[qbg,if_neg n];dsimp only;rw[h]
def qkp {rs:List RR}{i:Nat}(n:i=40)(o:Option Rw7)(t:List (Option Rw7)):qai rs i (o::t)=.error (.rule i):=by rw[qbg,if_pos n]
def qmj {rs:List RR}{i:Nat}(n:i≠40)(t:List (Option Rw7)):qai rs i (none::t)=.error (.rule i):=by rw[qbg,if_neg n]
def qfa {rs a:List RR}{i:Nat}{b:Rw7}(h:qb0 rs i b=.ok a)(t:List Rw7):qar rs i (b::t)=qar a (i+1) t:=by rw[qeg,h]
def qkh {rs:List RR}{i:Nat}{a:Rw7}{e:Er}(h:qb0 rs i a=.error e)(t:List Rw7):qar rs i (a::t)=.error e:=by rw[qeg,h]
def qny {rs:List RR}{i:Nat}{x w o:Str}{d:Bool}{y:Str}{m:Int}{u:Str}(h:qan rs x=none):qb0 rs i (.term x w o d y m u)=.ok rs:=by show (match qan rs x with|none=>_|some j=>_)=_;rw[h]
def qnz {rs:List RR}{i:Nat}{x y:Str}(h:qan rs x=none):qb0 rs i (.yields x y)=.ok rs:=by show (match qan rs x with|none=>_|some j=>_)=_;rw[h]
theorem qc0:∀{rs a:List RR}(x:Str),rs.map RR.name=a.map RR.name->qan rs x=qan a x
 | [],[],_,_=>rfl
 |r::rs,[],_,h=>by cases h
 | [],r::rs,_,h=>by cases h
 |r::rs,r'::a,x,h=>by rw[A6,A6]at h;injection h with h1 h2;rw[qcp,qcp,h1,qc0 x h2]
theorem qjj:∀(rs:List RR)(r:RR)(x:Str),qan (rs++[r]) x=match qan rs x with|some j=>some j|none=>if r.name=x then some rs.length else none
 | [],r,x=>by show qan [r] x=_;rw[qcp];show (if r.name=x then some 0 else none)=if r.name=x then some 0 else none;rfl
 |r'::rs,r,x=>by
  show qan (r'::(rs++[r])) x=_;rw[qcp,qcp,qjj rs r x];by_cases c:r'.name=x
  .rw[if_pos c,if_pos c]
  .rw[if_neg c,if_neg c];cases qan rs x with
   |some j=>rfl
   |none =>
    dsimp only;by_cases a:r.name=x
    .rw[if_pos a];show some _=if r.name=x then some _ else none;rw[if_pos a];rfl
    .rw[if_neg a];show none=if r.name=x then some _ else none;rw[if_neg a]
def qfb {rs:List RR}{j:Nat}{r r':RR}(a:rs[j]?=some r)(b:r'.name=r.name):(rs.set j r').map RR.name=rs.map RR.name:=by
 rw[List.map_set,b];apply Bz;intro i;rw[Cn,Ak];by_cases c:j=i
 .subst c;rw[if_pos Z,a,if_pos (by rw[Ac];exact(Ah.mp a).1)];rfl
 .rw[if_neg c]
inductive RowDid (rs:List RR) (row:Rw7) (rs':List RR):Prop where
 |new (r:RR) (t:isT row=true) (n:r.name=qaz row) (z:qan rs r.name=none) (e:rs'=rs++[r]) (l:rs.length≠6) (m:r.ends=[]/\r.anew=[]/\r.longer=[]/\r.yields=[])
 |old (j:Nat) (r:RR) (t:isT row=false) (p:qan rs (qaz row)=some j) (h:rs[j]?=some r) (u:qew r row=false) (e:rs'=rs.set j (qcj r row))
theorem qkq {rs b:List RR}{i:Nat}{a:Rw7}(h:qbt rs i a=.ok b):RowDid rs a b:=by
 cases f:isT a with
 |true =>
  cases a with
  |term x w o d y m u =>
   have h:qei rs i x w o d y m u=.ok b:=h;cases pn:qan rs x with
   |some j=>rw[qht (by rw[pn];rfl)]at h;cases h
   |none =>
    by_cases c:rs.length=6\/(d=false/\o=y)
    .rw[qfp pn c]at h;cases h
    .rw[qex pn c]at h;cases h;exact .new (qhr x w o d y m u) rfl rfl pn rfl (λz=>c (.inl z)) ⟨Z,Z,Z,Z⟩
  |_=>cases f
 |false =>
  rw[qd8 f]at h;cases pn:qan rs (qaz a) with
  |none=>rw[qgb pn]at h;cases h
  |some j =>
   obtain⟨r,e,_⟩:=qa4 pn;cases u:qew r a with|true=>rw[qgc pn e u]at h;cases h|false =>rw[qey pn e u]at h;cases h;exact .old j r f pn e u rfl
def RowDid.len {rs a:List RR}{b:Rw7}(h:RowDid rs b a)(l:rs.length<=6):a.length<=6:=by
 cases h with|new r _ _ _ e n _=>rw[e,Ag];show _+1<=6;lia|old j r _ _ _ _ e=>rw[e,C7];exact l
theorem RowDid.bn {rs c:List RR}{d:Rw7}{n:Nat}(h:RowDid rs d c)(b:Bn n rs):Bn (n+1) c:=by
 have i:∀r∈rs,r.ends.length<=n+1/\r.anew.length<=n+1/\r.longer.length<=n+1/\r.yields.length<=n+1:=λr g=>by obtain⟨l,a,q,s⟩:=b r g;exact⟨by lia,by lia,by lia,by lia⟩
 cases h with
 |new r _ _ _ e _ m =>
  obtain⟨u,k,p,o⟩:=m;intro f a;rw[e]at a;rcases Az.mp a with z|z
  .exact i f z
  .rw[Ai.mp z,u,k,p,o];exact⟨B7 _,B7 _,B7 _,B7 _⟩
 |old j r t _ g _ e =>
  intro f a;rw[e]at a;rcases BH a with z|z
  .exact i f z
  .rw[z];obtain⟨l,a,q,s⟩:=b r (At g);cases d <;>(simp only[qcj,Ag,Au,Bu];lia)
theorem RowDid.has {rs a:List RR}{b:Rw7}(h:RowDid rs b a):(qan a (qaz b)).isSome=true/\∀x,(qan rs x).isSome=true->(qan a x).isSome=true:=by
 cases h with
 |new r t n z e _ _ =>
  rw[e];refine⟨?_,λx c=>?_⟩
  .rw[qjj,<- n,z];dsimp only;rw[if_pos Z];rfl
  .rw[qjj];cases p:qan rs x with|none=>rw[p]at c;cases c|some j=>rfl
 |old j r t p hr u e =>have d:=qfb hr (qe5 r b);rw[e];exact⟨by rw[qc0 _ d,p];rfl,λx c=>by rw[qc0 _ d];exact c⟩
def qxk (rs:List RR)(rw:List Rw7):Prop:=∀r∈rs,∃row∈rw,isT row=true/\qaz row=r.name
theorem RowDid.hasT {rs d:List RR}{c:Rw7}{rw:List Rw7}(h:RowDid rs c d)(b:qxk rs rw):qxk d (rw++[c]):=by
 have i:∀r∈rs,∃row'∈rw++[c],isT row'=true/\qaz row'=r.name:=λr g=>by obtain⟨q,k,a⟩:=b r g;exact⟨q,Bk _ k,a⟩
 cases h with
 |new r t n z e _ _ =>
  intro f a;rw[e]at a;rcases Az.mp a with q|q
  .exact i f q
  .rw[Ai.mp q];exact⟨c,by simp,t,n.symm⟩
 |old j r t p g u e =>
  intro f a;rw[e]at a;rcases BH a with q|q
  .exact i f q
  .rw[q,qe5];exact i r (At g)
structure SetDid (rs rs':List RR):Prop where
 nm:rs'.map RR.name=rs.map RR.name
 ba:rs'.map RR.base=rs.map RR.base
theorem qiu {rs f:List RR}{i:Nat}{p:Rw7}(h:qb0 rs i p=.ok f):SetDid rs f/\∀n,Bn n rs->Bn (n+1) f:=by
 have same:f=rs->SetDid rs f/\∀n,Bn n rs->Bn (n+1) f:=λe=>by subst e;exact⟨⟨Z,Z⟩,λn b r a=>by obtain⟨t,g,v,A⟩:=b r a;exact⟨by lia,by lia,by lia,by lia⟩⟩
 cases p with
 |term x w o d y m u =>
  cases pn:qan rs x with
  |none =>rw[qny pn]at h;cases h;exact same rfl
  |some j =>
   obtain⟨r,a,_⟩:=qa4 pn;rw[qgd pn a]at h;cases B:r.base with
   |none=>rw[B]at h;cases h;exact same rfl
   |some z =>
    rw[B]at h;dsimp only at h;split at h
    .cases h;exact same rfl
    .cases h
 |yields x y =>
  cases pn:qan rs x with
  |none =>rw[qnz pn]at h;cases h;exact same rfl
  |some j =>
   obtain⟨r,a,_⟩:=qa4 pn;rw[qhu pn]at h;cases k:qan rs y with
   |none=>rw[qgt k]at h;cases h
   |some l =>
    obtain⟨s,q,_⟩:=qa4 k;by_cases c:y=r.name\/y∈r.yields\/s.owes≠r.owes
    .rw[qen k a q c]at h;cases h
    .rw[qfq k a q c]at h;cases h;refine⟨⟨qfb a Z,?_⟩,λn b C g=>?_⟩
     .rw[List.map_set];apply Bz;intro i;rw[Cn,Ak];by_cases c:j=i
      .subst c;rw[if_pos Z,a,if_pos (by rw[Ac];exact(Ah.mp a).1)];rfl
      .rw[if_neg c]
     .rcases BH g with z|z
      .obtain⟨t,g,v,A⟩:=b C z;exact⟨by lia,by lia,by lia,by lia⟩
      .rw[z];obtain⟨t,g,v,A⟩:=b r (At a);simp only[Ag,Au,Bu];lia
 |ends=>cases h;exact same rfl
 |anew=>cases h;exact same rfl
 |longer=>cases h;exact same rfl
 |still=>cases h;exact same rfl
theorem qqo {rs b:List RR}{i:Nat}{a:Rw7}(h:qb0 rs i a=.ok b)(t:isT a=true){j:Nat}{r:RR}(p:qan rs (qaz a)=some j)(f:rs[j]?=some r):∀y,r.base=some y->(qan rs y).isSome=true:=by
 cases a with
 |term x w o d y m u =>
  intro z e;rw[qgd (x:=x) p f,e]at h;dsimp only at h;by_cases c:(qan rs z).isSome=true
  .exact c
  .rw[if_neg c]at h;cases h
 |_=>cases t
noncomputable def bsR (rs:List RR):List (Option Nat):=rs.map λr=>r.base.bind (qan rs)
def qgw (rs:List RR):Prop:=∀r∈rs,∀y,r.base=some y->(qan rs y).isSome=true
def qtc {rs0 rs:List RR}{rw:List Rw7}(h:qar rs0 0 rw=.ok rs)(G:(rs0.map RR.name).Nodup)(t:qxk rs0 rw):qgw rs:=by
 have w:∀i,i<=rw.length->∃f,qar rs0 0 (rw.take i)=.ok f/\SetDid rs0 f/\∀a∈rw.take i,isT a=true->∀(j:Nat)(r:RR),rs0[j]?=some r->r.name=qaz a->∀y,r.base=some y->(qan rs0 y).isSome=true:=by
  intro i
  induction i with
  |zero=>exact λ_=>⟨rs0,Z,⟨Z,Z⟩,λa p=>by rw[List.take_zero]at p;cases p⟩
  |succ i ih =>
   intro hi;obtain⟨f,n,b,o⟩:=ih (by lia);obtain⟨a,c⟩:∃a,rw[i]?=some a:=⟨_,Al (by lia)⟩;obtain⟨F,A⟩:=qfr n c;cases es:qb0 f i a with
   |error e=>rw[F,qkh es]at h;cases h
   |ok r' =>
    rw[qfa es]at A;obtain⟨B,_⟩:=qiu es;refine⟨r',A,⟨B.nm.trans b.nm,B.ba.trans b.ba⟩,λv u l j r g m y q=>?_⟩;rw[qbr c]at u;rcases Az.mp u with z|z
    .exact o v z l j r g m y q
    .rw[Ai.mp z]at l m;have D:qan f (qaz a)=some j:=by rw[qc0 _ b.nm,<- m];exact qef G g
     obtain⟨C,s,_⟩:=qa4 D;have x:C.base=r.base:=by
      have d:(f.map RR.base)[j]?=some C.base:=by rw[Ak,s];rfl
      rw[b.ba,Ak,g]at d;exact(A9 d).symm
     have:=qqo es l D s y (by rw[x];exact q);rw[qc0 _ b.nm]at this;exact this
 obtain⟨f,n,b,o⟩:=w _ (A0 _);rw[B8]at n o;rw[n]at h;cases h;intro r p y q;obtain⟨j,g⟩:=AL p;have E:j<rs0.length:=by have:=congrArg DR b.nm;rw[Ac,Ac]at this;rw[<- this];exact(Ah.mp g).1
 have k:rs0[j]?=some rs0[j]:=Al E;have en:rs0[j].name=r.name:=by
  have d:(rs.map RR.name)[j]?=some r.name:=by rw[Ak,g];rfl
  rw[b.nm,Ak,k]at d;exact A9 d
 have x:rs0[j].base=r.base:=by
  have d:(rs.map RR.base)[j]?=some r.base:=by rw[Ak,g];rfl
  rw[b.ba,Ak,k]at d;exact A9 d
 obtain⟨a,c,l,m⟩:=t _ (At k);rw[qc0 _ b.nm];exact o a c l j _ k m.symm y (by rw[x];exact q)
theorem qtd {rs:List RR}(d:(rs.map RR.name).Nodup)(l:rs.length<=6):Wr (rs.map RR.name) (bsR rs):=⟨d,by unfold bsR;rw[Ac,Ac],by rw[Ac];exact l,λk b e=>by
 unfold bo bsR at e;rw[BA,Ak]at e;cases c:rs[k]? with
 |none=>rw[c]at e;cases e
 |some r =>
  rw[c]at e;cases a:r.base with
  |none=>rw[show (Option.map (λr:RR=>r.base.bind (qan rs)) (some r)).getD none=r.base.bind (qan rs) from Z,a]at e;cases e
  |some y =>rw[show (Option.map (λr:RR=>r.base.bind (qan rs)) (some r)).getD none=r.base.bind (qan rs) from Z,a]at e;have e:qan rs y=some b:=e;obtain⟨r2,f,_⟩:=qa4 e;rw[Ac];exact(Ah.mp f).1⟩
theorem qjk {rs:List RR}(ok:qgw rs){k:Nat}{r:RR}(h:rs[k]?=some r):qhp (rs.map RR.name) (bo (bsR rs) k)=qev r.base:=by
 unfold bo bsR;rw[BA,Ak,h];show qhp _ (r.base.bind (qan rs))=_;cases b:r.base with
 |none=>rfl
 |some y =>
  have:=ok r (At h) y b;show qhp _ (qan rs y)=.str y;cases ep:qan rs y with
  |none=>rw[ep]at this;cases this
  |some j =>obtain⟨a,c,d⟩:=qa4 ep;show V.str (nm (rs.map RR.name) j)=_;unfold nm;rw[BA,Ak,c];show V.str a.name=_;rw[d]
def nm_R {rs:List RR}{k:Nat}{r:RR}(h:rs[k]?=some r):nm (rs.map RR.name) k=r.name:=by unfold nm;rw[BA,Ak,h];rfl
structure Lng (ls:List Str):Prop where
 n:ls.length<=100
 c:∀l∈ls,l.cps.size<=200/\10∉l.cps.toList
 e:ls≠[wS ""]
theorem jl_le {c:Nat}:∀{ps:List (List Nat)},(∀p∈ps,p.length<=200)->(jl c ps).length<=201*ps.length
 | [],_=>A0 _
 | [x],h=>by have:=h x Am;show x.length<=201*1;lia
 |x::y::r,h=>by have h1:=h x Am;have a:=jl_le (c:=c) (ps:=y::r) λp b=>h p (Ar _ b);show (x++c::jl c (y::r)).length<=201*(r.length+1+1);rw[Ag,Au];rw[Au]at a;lia
def qxl {a:List Str}(h:Lng a):(qco a).cps.size<=20100:=by
 rw[<- A7,show (qco a).cps.toList=jl 10 (a.map λp=>p.cps.toList) from qd2 10 _];have:=jl_le (c:=10) (ps:=a.map λp=>p.cps.toList) λp b=>by obtain⟨l,hl,rfl⟩:=AS.mp b;rw[A7];exact(h.c l hl).1
 rw[Ac]at this;have:=h.n;lia
theorem text_ne {a:List Str}(h:Lng a)(b:a≠[]):(qco a).cps.size≠0:=by
 rw[<- A7,show (qco a).cps.toList=jl 10 (a.map λp=>p.cps.toList) from qd2 10 _];cases a with
 |nil=>exact absurd rfl b
 |cons x r =>
  cases r with|nil =>intro z;have z:x.cps.toList.length=0:=z;exact h.e (by rw[str_ext (x:=x) (y:=wS "") (by rw[List.eq_nil_of_length_eq_zero z];decide +kernel)])|cons y r =>show (x.cps.toList++10::jl 10 _).length≠0;rw[Ag,Au];lia
def spLnG:Sp:=λvs H Q _=>∃ls:List Str,vs=[.str (qco ls)]/\Lng ls/\∀(q:Addr)(H':Hp),H q=none->Same H H'->H' q=some (.lst (ls.map V.str))->Q (.ref q) H'
def BkX (a:Adr)(H:Hp)(x:Addr)(rs:List RR)(As:List RA)(os:List Nat):Prop:=∃dx po d:Addr,H x=some (.ins a.kL dx (bfs po d))/\H po=some (.lst ((os.map (nm (rs.map RR.name))).map V.str))/\H d=some (.dK (dcR rs As))
structure BkAt (a:Adr)(H:Hp)(x:Addr)(rs:List RR)(As:List RA)(os:List Nat):Prop where
 bk:BkX a H x rs As os
 ln:As.length=rs.length
 nn:(rs.map RR.name).Nodup
 l6:rs.length<=6
 ru:∀(i:Nat)(r:RR)(A:RA),rs[i]?=some r->As[i]?=some A->RuX a.k8 H A r
 os:Ors (bsR rs) rs.length os
 ba:qgw rs
def BkX.same {a:Adr}{H H':Hp}{x:Addr}{rs:List RR}{As:List RA}{b:List Nat}(h:BkX a H x rs As b)(s:Same H H'):BkX a H' x rs As b:=by obtain⟨dx,g,d,c,e,f⟩:=h;exact⟨dx,g,d,s _ _ c,s _ _ e,s _ _ f⟩
def BkAt.same {a:Adr}{H H':Hp}{x:Addr}{rs:List RR}{As:List RA}{os:List Nat}(h:BkAt a H x rs As os)(s:Same H H'):BkAt a H' x rs As os:=⟨h.bk.same s,h.ln,h.nn,h.l6,λi r A b c=>(h.ru i r A b c).same s,h.os,h.ba⟩
def spBIG (a:Adr):Sp:=λvs H Q E=>∃(x dx pr:Addr)(rs:List RR)(As:List RA),vs=[.ref x,.ref pr]/\H x=some (.ins a.kL dx [])/\H pr=some (.lst (As.map λA=>.ref A.p))/\As.length=rs.length/\(rs.map RR.name).Nodup/\rs.length<=6/\qgw rs/\(∀(i:Nat)(r:RR)(A:RA),rs[i]?=some r->As[i]?=some A->RuX a.k8 H A r) /\
 (∀H' os,SameBut x H H'->BkX a H' x rs As os->Ors (bsR rs) rs.length os->Q .non H')/\OutR a (rs.map RR.name) (bsR rs) H E
def spTn (a:Adr):Sp:=λvs H Q _=>∃(x:Addr)(rs:List RR)(As:List RA)(os:List Nat),vs=[.ref x]/\BkX a H x rs As os/\As.length=rs.length/\rs.length<=6/\∀(q:Addr)(H':Hp),H q=none->Same H H'->H' q=some (.lst ((rs.map RR.name).map V.str))->Q (.ref q) H'
def spBkG (a:Adr):Sp:=λvs H Q E=>∃ls:List Str,vs=[.str (qco ls)]/\Lng ls/\(∀rs,qdo ls=.ok rs->(∀(x:Addr)(H':Hp)(As:List RA)(os:List Nat),Same H H'->BkAt a H' x rs As os->Q (.ref x) H')/\OutR a (rs.map RR.name) (bsR rs) H E)/\∀e,qdo ls=.error e->OutE a e H E
def Ru_of {a:Adr}{H:Hp}{A:RA}{r:RR}(h:RuX a.k8 H A r):Ru a.k8 H (.ref A.p) r.name (qev r.base):=by obtain⟨v,us,h⟩:=h;exact⟨A.p,A.dx,_,Z,h.hx,Z,Z⟩
theorem rus_of {a:Adr}{H:Hp}{rs:List RR}{As:List RA}(d:As.length=rs.length)(ok:qgw rs)(f:∀(i:Nat) (r:RR) (A:RA),rs[i]?=some r->As[i]?=some A->RuX a.k8 H A r):Rus a.k8 H (As.map λA=>.ref A.p) (rs.map RR.name) (bsR rs):=by
 refine⟨by rw[Ac,Ac,d],λj y e=>?_⟩;rw[Ak]at e;cases b:As[j]? with
 |none=>rw[b]at e;cases e
 |some A =>
  rw[b]at e;cases e;have g:j<rs.length:=by rw[<- d];exact(Ah.mp b).1
  have c:rs[j]?=some rs[j]:=Al g;rw[nm_R c,qjk ok c];exact Ru_of (f j _ A c b)
def Sta.inn {C:Addr}{H:Hp}{d:Addr}{rs:List RR}{As:List RA}(st:Sta C H d rs As):∀z∈d::As.flatMap own,H z≠none:=λz hz e=>by
 rcases An.mp hz with rfl|hz
 .rw[st.hd]at e;cases e
 .obtain⟨i,g,b⟩:=B0.mp hz;obtain⟨f,c⟩:=AL g;have h:f<rs.length:=by rw[<- st.ln];exact(Ah.mp c).1
  obtain⟨v',us',a⟩:=st.ru f _ i (Al h) c;simp only[own,An,Aq,or_false]at b;rcases b with rfl|rfl|rfl|rfl|rfl
  .rw[a.hx]at e;cases e
  .rw[a.he]at e;cases e
  .rw[a.ha]at e;cases e
  .rw[a.hl]at e;cases e
  .rw[a.hy]at e;cases e
def Sta.keep {C:Addr}{H H':Hp}{d:Addr}{rs:List RR}{As:List RA}{S:List Addr}(st:Sta C H d rs As)(k:KeepT S H H')(n:∀z∈d::As.flatMap own,z∉S):Sta C H' d rs As :=
 ⟨k _ _ (.inl (n d Am)) st.hd,st.ln,st.nd,st.nn,λi r A b a=>(st.ru i r A b a).keep k λz hz=>n z (Ar _ (qk7 a z hz))⟩
structure RB (a:Adr)(H0 H:Hp)(d q ql:Addr)(ls:List Str)(i:Nat)(rs:List RR)(As:List RA)(rv:List V)(rows:List Rw7):Prop where
 sm:Same H0 H
 hl:H ql=some (.lst (ls.map V.str))
 st:Sta a.k8 H d rs As
 hq:H q=some (.lst rv)
 rl:rv.length=rows.length
 rr:∀(j:Nat)(y:V),rv[j]?=some y->∃p row,y=.ref p/\rows[j]?=some row/\H p=some (.lst (qc9 row))/\p∉d::As.flatMap own/\p≠q
 ro:(qd6 ls).take i=rows.map some
 rd:qai [] 0 ((qd6 ls).take i)=.ok rs
 bn:Bn i rs
 l6:rs.length<=6
 ht:qxk rs rows
 nm:∀row∈rows,(qan rs (qaz row)).isSome=true
 qo:q∉d::As.flatMap own
 lo:ql∉d::As.flatMap own
 nq:ql≠q
 fr:∀z∈q::d::As.flatMap own,H0 z=none
def RB.same {a:Adr}{f H H':Hp}{d q k:Addr}{g:List Str}{i:Nat}{rs:List RR}{As:List RA}{l:List V}{c:List Rw7}(b:RB a f H d q k g i rs As l c)(s:Same H H'):RB a f H' d q k g i rs As l c :=
 ⟨b.sm.trans s,s _ _ b.hl,b.st.same s,s _ _ b.hq,b.rl,λj y e=>by obtain⟨p,h,n,m,o,r⟩:=b.rr j y e;exact⟨p,h,n,m,s _ _ o,r⟩,b.ro,b.rd,b.bn,b.l6,b.ht,b.nm,b.qo,b.lo,b.nq,b.fr⟩
theorem RB.next {a:Adr}{R s u:Hp}{d q M l:Addr}{K:List Str}{i:Nat}{rs w:List RR}{As v:List RA}{m:List V}{t:List Rw7}{n:Rw7}(b:RB a R s d q M K i rs As m t)(E:s l=some (.lst (qc9 n)))(F:l∉d::As.flatMap own)(G:l≠q)(C:(qd6 K)[i]?=some (some n))(P:i≠40)(D:qbt rs i n=.ok w)
  (k:KeepT (d::As.flatMap own) s u)(f:Frs s As v)(O:Sta a.k8 u d w v):RB a R (upd u q (.lst (m++[.ref l]))) d q M K (i+1) w v (m++[.ref l]) (t++[n]):=by
 have did:=qkq D;have B:∀z,z∉d::As.flatMap own->s z≠none->z∉d::v.flatMap own:=λz hz X h=>by
  rcases An.mp h with e|h
  .exact hz (by rw[e];exact Am)
  .rcases f z h with g|g
   .exact hz (Ar _ g)
   .exact X g
 have nq:s q≠none:=λz=>by rw[b.hq]at z;cases z
 have Y:u q=some (.lst m):=k _ _ (.inl b.qo) b.hq;have qo:=B q b.qo nq;have U:KeepT [q] u (upd u q (.lst (m++[.ref l]))):=KeepT.put (Ai.mpr Z) Y (λ_ z=>nomatch z);have L:∀{p:Addr}{xs:List V},s p=some (.lst xs)->p∉d::As.flatMap own->p≠q->upd u q (.lst (m++[.ref l])) p=some (.lst xs):=λI H A=>by rw[qp A];exact k _ _ (.inl H) I
 refine⟨λx o e=>?_,L b.hl b.lo b.nq,O.keep U λz hz Q=>qo (by rw[<- Ai.mp Q];exact hz),qi,by rw[Ag,Ag,b.rl];rfl,λj y e=>?_,by rw[qbr C,b.ro,Av];rfl,?_,did.bn b.bn,did.len b.l6,did.hasT b.ht,λr W=>?_,qo,B M b.lo (λz=>by rw[b.hl]at z;cases z),b.nq,λz hz=>?_⟩
 .have S:∀z∈q::d::As.flatMap own,x≠z:=λz hz q=>by rw[q,b.fr z hz]at e;cases e
  rw[qp (S q Am)];exact k _ _ (.inl λz=>S x (Ar _ z) Z) (b.sm _ _ e)
 .by_cases c:j<m.length
  .rw[AT c]at e;obtain⟨p,J,I,H,A,T,N⟩:=b.rr j y e;exact⟨p,J,I,by rw[AT (by rw[<- b.rl];exact c)];exact H,L A T N,B p T (λz=>by rw[A]at z;cases z),N⟩
  .rw[AN (by lia)]at e;have l1:j-m.length<1:=(Ah.mp e).1;have l2:=b.rl;rw[show j-m.length=0 by lia]at e;cases e;exact⟨l,n,Z,by rw[AN (by lia),show j-t.length=0 by lia];rfl,L E F G,B l F (λz=>by rw[E]at z;cases z),G⟩
 .rw[(qfy b.rd C).2,qgv P D []];rfl
 .rcases Az.mp W with z|z
  .exact did.has.2 _ (b.nm r z)
  .rw[Ai.mp z];exact did.has.1
 .rcases An.mp hz with e|hz
  .rw[e];exact b.fr q Am
  .rcases An.mp hz with e|hz
   .rw[e];exact b.fr d (Ar _ Am)
   .rcases f z hz with g|g
    .exact b.fr z (Ar _ (Ar _ g))
    .exact b.sm.free g
structure SB (a:Adr)(H0 H:Hp)(d q:Addr)(i:Nat)(rs0 rs:List RR)(As:List RA)(rv:List V)(rows:List Rw7):Prop where
 sm:Same H0 H
 st:Sta a.k8 H d rs As
 hq:H q=some (.lst rv)
 rl:rv.length=rows.length
 rr:∀(j:Nat)(y:V),rv[j]?=some y->∃p row,y=.ref p/\rows[j]?=some row/\H p=some (.lst (qc9 row))/\p∉d::As.flatMap own/\p≠q
 sd:SetDid rs0 rs
 se:qar rs0 0 (rows.take i)=.ok rs
 bn:Bn (100+i) rs
 nm:∀row∈rows,(qan rs (qaz row)).isSome=true
 qo:q∉d::As.flatMap own
 fr:∀z∈q::d::As.flatMap own,H0 z=none
def SB.same {a:Adr}{f H H':Hp}{d q:Addr}{i:Nat}{rs0 rs:List RR}{As:List RA}{h:List V}{c:List Rw7}(b:SB a f H d q i rs0 rs As h c)(s:Same H H'):SB a f H' d q i rs0 rs As h c :=
 ⟨b.sm.trans s,b.st.same s,s _ _ b.hq,b.rl,λj y e=>by obtain⟨p,g,l,k,m,n⟩:=b.rr j y e;exact⟨p,g,l,k,s _ _ m,n⟩,b.sd,b.se,b.bn,b.nm,b.qo,b.fr⟩
def SB.next {a:Adr}{s H m:Hp}{d q:Addr}{i:Nat}{rs0 rs f:List RR}{As:List RA}{u:List V}{c:List Rw7}{g:Rw7}(b:SB a s H d q i rs0 rs As u c)(D:c[i]?=some g)(h:qb0 rs i g=.ok f)(k:KeepT (d::As.flatMap own) H m)(n:Sta a.k8 m d f As):SB a s m d q (i+1) rs0 f As u c:=by
 obtain⟨did,bn⟩:=qiu h;refine⟨λx o e=>k _ _ (.inl λz=>?_) (b.sm _ _ e),n,k _ _ (.inl b.qo) b.hq,b.rl,λj y e=>?_,⟨did.nm.trans b.sd.nm,did.ba.trans b.sd.ba⟩,?_,bn _ b.bn,λr C=>by rw[qc0 _ did.nm];exact b.nm r C,b.qo,b.fr⟩
 .rw[b.fr x (Ar _ z)]at e;cases e
 .obtain⟨p,l,A,w,B,t,v⟩:=b.rr j y e;exact⟨p,l,A,w,k _ _ (.inl t) B,t,v⟩
 .rw[(qfr b.se D).2,qfa h []];rfl
theorem qo0 {α:Type}(l:List α):(l.map some).filterMap id=l:=by
 induction l with
 |nil=>rfl
 |cons x l ih=>rw[A6,Df];dsimp only[id];rw[ih]
def sgn_ed {c:Int}{e i:Nat}(a:c % 2=(e:Int)):(c / 128+(i:Int) / (1+c % 2)) % 26=(((sgn (c / 128) e i-97:Nat)):Int):=by
 rw[a];unfold sgn;have:(i:Int) / (1+(e:Int))=((i / (1+e):Nat):Int):=by rw[Int.natCast_ediv];rfl
 rw[this];clear this a;lia
def sgn_26 {t:Int}{e i:Nat}:sgn t e i-97<26:=by unfold sgn;lia
def sgn_97 {t:Int}{e i:Nat}:97+(sgn t e i-97)=sgn t e i:=by unfold sgn;lia
def md (c:Int)(m:Nat)(h:0<m):∃j:Nat,c % (m:Int)=(j:Int)/\j<m:=by have z0:=Int.emod_nonneg c (show (m:Int)≠0 by lia);have z1:=Int.emod_lt_of_pos c (show (0:Int)<(m:Int) by lia);exact⟨(c % (m:Int)).toNat,by lia,by lia⟩
def mdl (c:Int)(m:Nat):∃j:Nat,c % ((m+1:Nat):Int)=(j:Int)/\j<=m:=by obtain⟨j,e,h⟩:=md c (m+1) (Nat.succ_pos _);exact⟨j,e,Nat.le_of_lt_succ h⟩
def num46 (c:Int):∃z n e:Nat,1+c % 2+c / 2 % (8-c % 2)=(z:Int)/\c / 16 % ((z:Int)-c % 2)=(n:Int)/\c % 2=(e:Int)/\e<=1/\n+1+e<=z/\z<=8/\0<8-c % 2/\0<(z:Int)-c % 2:=by have f:=sizeB c;obtain⟨e,b,g⟩:=mdl c 1;have b:c % 2=(e:Int):=b;obtain⟨z,h⟩:=Int.eq_ofNat_of_zero_le (a:=1+c % 2+c / 2 % (8-c % 2)) (by lia);rw[h]at f |-;obtain⟨n,d,hn⟩:=md (c / 16) (z-e) (by lia);rw[show ((z-e:Nat):Int)=(z:Int)-c % 2 by lia]at d;exact⟨z,n,e,Z,d,b,g,by lia,by lia,by lia,by lia⟩
def cd2 {c i:Int}{e:Nat}(ee:c % 2=(e:Int))(he:e<=1):CDiv i (1+c % 2):=⟨by lia,by lia⟩
def eo1 {c:Int}{e:Nat}(ee:c % 2=(e:Int))(h:c % 2=1):e=1:=by lia
def io1 {i:Nat}(h:(i:Int) % 2=1):i % 2=1:=by lia
def ne1 {c:Int}{e:Nat}(ee:c % 2=(e:Int))(h:¬c % 2=1):¬e=1:=by lia
def ni1 {i:Nat}(h:¬(i:Int) % 2=1):¬i % 2=1:=by lia
def om (x:Int){m:Int}(h:0<m):1<=1+x % m/\1+x % m<=m:=by have z0:=Int.emod_nonneg x (show m≠0 by lia);have z1:=Int.emod_lt_of_pos x h;lia
noncomputable def qm4 (r:RR)(pe pa pl:Addr)(sv:V)(py:Addr):List V:=[.str r.name,.str r.who,.str r.owes,qev r.opens,qev r.base,.int r.many,.str r.unit,.ref pe,.ref pa,.ref pl,sv,.ref py]
structure LR1 (H:Hp)(q:Addr)(r:RR)(pe pa pl py:Addr)(sv:V)(us:List V):Prop where
 hq:H q=some (.lst (qm4 r pe pa pl sv py))
 he:H pe=some (.lst (r.ends.map V.str))
 ha:H pa=some (.lst (r.anew.map V.str))
 hl:H pl=some (.lst us)
 tl:Tups H us (r.longer.map qql)
 hs:StAt H sv r.still
 hy:H py=some (.lst (r.yields.map V.str))
def LR (H:Hp)(q:Addr)(r:RR):Prop:=∃pe pa pl py sv us,LR1 H q r pe pa pl py sv us
def LR1.same {H H':Hp}{q:Addr}{r:RR}{c d pl a:Addr}{b:V}{us:List V}(h:LR1 H q r c d pl a b us)(s:Same H H'):LR1 H' q r c d pl a b us:=⟨s _ _ h.hq,s _ _ h.he,s _ _ h.ha,s _ _ h.hl,h.tl.same s,h.hs.same s,s _ _ h.hy⟩
def LR.same {H H':Hp}{q:Addr}{r:RR}(h:LR H q r)(s:Same H H'):LR H' q r:=by obtain⟨c,d,pl,a,b,us,h⟩:=h;exact⟨c,d,pl,a,b,us,h.same s⟩
noncomputable def qo1 (c:Int):Str:=if c % 3=0 then wS "days" else if c % 3=1 then wS "weeks" else wS "court"
def unit_at (c:Int):atI [V.str (Aa "days"),V.str (Aa "weeks"),V.str (Aa "court")] (c % 3)=some (.str (qo1 c))/\qo1 c∈qbu:=by
 unfold qo1;rcases (by lia:c % 3=0\/c % 3=1\/c % 3=2) with e|e|e <;>rw[e]
 .exact⟨Z,by simp[qbu]⟩
 .exact⟨Z,by simp[qbu]⟩
 .exact⟨Z,by simp[qbu]⟩
def cut2 (vs:List V)(a b:Nat)(h:a<=vs.length)(h2:b<=vs.length):qg6 vs (some (a:Int)) (some (b:Int))=(vs.take b).drop a:=by
 have d:HT.sIx vs.length 0 (some (a:Int))=a:=by simp only[HT.sIx];split <;>lia
 have c:HT.sIx vs.length vs.length (some (b:Int))=b:=by simp only[HT.sIx];split <;>lia
 unfold qg6;rw[d,c];rw[List.drop_take]
theorem useV {p G:Option V->Prop}{R:Prop}(m:(∀x,p x->G x)->R)(l:∀x,p x->G x):R:=m l
noncomputable def off (p:Addr)(H:Hp):Hp:=λb=>if b=p then none else H b
noncomputable def stN:Option (Str×Str)->Nat
 |none=>0
 |some _=>1
noncomputable def exR (r:RR):Nat:=r.ends.length+r.anew.length+r.longer.length+r.yields.length+stN r.still
def cutN (vs:List V)(n:Nat):qg6 vs none (some (n:Int))=vs.take n:=by
 by_cases h:n<=vs.length
 .exact qw8 vs n h
 .rw[B5 (by lia)];unfold qg6;have a:HT.sIx vs.length vs.length (some (n:Int))=vs.length:=by simp only[HT.sIx];split <;>lia
  rw[show HT.sIx vs.length 0 none=0 from Z,a];simp
noncomputable def nS (n:Int):Str:=Aa (toString n)
noncomputable def qat:Rw7->List Str
 |.term x w o d y m u=>[wS "term",x,wS "of",w,wS "due",o,fbS d,y,nS m,u]
 |.ends x k=>[wS "ends",x,k]
 |.anew x k=>[wS "anew",x,k]
 |.longer x k u t=>[wS "longer",x,k,nS u,wS "times",nS t]
 |.still x k l=>[wS "still",x,k,l]
 |.yields x y=>[wS "yields",x,y]
noncomputable def qaw (row:Rw7):Str:=Str.join ⟨#[32]⟩ (qat row)
def qc6:Rw7->Prop
 |.term x w o _ y m u=>qb1 x/\qb1 w/\qb1 o/\qb1 y/\(1<=m/\m<=40)/\u∈qbu
 |.ends x k=>qb1 x/\qb1 k
 |.anew x k=>qb1 x/\qb1 k
 |.longer x k u t=>qb1 x/\qb1 k/\(1<=u/\u<=20)/\(1<=t/\t<=3)
 |.still x k l=>qb1 x/\qb1 k/\qb1 l
 |.yields x y=>qb1 x/\qb1 y
def nS_all:∀n:Fin 41,1<=n.val->due (nS (n.val:Int)) 40=true/\nv (nS (n.val:Int))=(n.val:Int)/\((nS (n.val:Int)).cps.toList.all λd=>decide (d≠32) && decide (d≠10))=true/\(nS (n.val:Int)).cps.size<=2/\(n.val<=20->due (nS (n.val:Int)) 20=true)/\(n.val<=3->due (nS (n.val:Int)) 3=true):=En
def qge {m:Int}(h1:1<=m)(h2:m<=40):due (nS m) 40=true/\nv (nS m)=m/\(∀c,c=32\/c=10->c∉(nS m).cps.toList)/\(nS m).cps.size<=2/\(m<=20->due (nS m) 20=true)/\(m<=3->due (nS m) 3=true):=by
 have h:=nS_all ⟨m.toNat,by lia⟩ (by show 1<=m.toNat;lia);have e:((m.toNat:Nat):Int)=m:=by lia
 dsimp only at h;rw[e]at h;obtain⟨b,a,d,j,f,g⟩:=h;refine⟨b,a,λc i z=>?_,j,λh=>f (by lia),λh=>g (by lia)⟩;have:=Be.mp d c z;simp only[AD,decide_eq_true_eq]at this;rcases i with rfl|rfl
 .exact this.1 rfl
 .exact this.2 rfl
def qk8 {u:Str}(h:u∈qbu):qbu.contains u=true/\(∀c,c=32\/c=10->c∉u.cps.toList)/\u.cps.size<=5:=by
 have d:∀w∈qbu,(w.cps.toList.all λd=>decide (d≠32) && decide (d≠10))=true/\w.cps.size<=5:=En;obtain⟨e,a⟩:=d u h;refine⟨AY.mpr h,λc b z=>?_,a⟩;have:=Be.mp e c z;simp only[AD,decide_eq_true_eq]at this;rcases b with rfl|rfl
 .exact this.1 rfl
 .exact this.2 rfl
def qte {w:Str}(h:w∈[wS "term",wS "of",wS "due",wS "from",wS "behind",wS "ends",wS "anew",wS "longer",wS "times",wS "still",wS "yields"]):(∀c,c=32\/c=10->c∉w.cps.toList)/\w.cps.size<=6:=by
 have d:∀w∈[wS "term",wS "of",wS "due",wS "from",wS "behind",wS "ends",wS "anew",wS "longer",wS "times",wS "still",wS "yields"],(w.cps.toList.all λd=>decide (d≠32) && decide (d≠10))=true/\w.cps.size<=6:=En;obtain⟨e,a⟩:=d w h;refine⟨λc b z=>?_,a⟩;have:=Be.mp e c z;simp only[AD,decide_eq_true_eq]at this;rcases b with rfl|rfl
 .exact this.1 rfl
 .exact this.2 rfl
def qdi {x:Str}(h:qb1 x):(∀c,c=32\/c=10->c∉x.cps.toList)/\x.cps.size<=8:=⟨λc hc=>nm_free h (by lia),h.2.1⟩
theorem qjl {e:Rw7}(h:qc6 e):∀w∈qat e,(∀c,c=32\/c=10->c∉w.cps.toList)/\w.cps.size<=8:=by
 have b:∀{w:Str},w∈[wS "term",wS "of",wS "due",wS "from",wS "behind",wS "ends",wS "anew",wS "longer",wS "times",wS "still",wS "yields"]->(∀c,c=32\/c=10->c∉w.cps.toList)/\w.cps.size<=8:=λh=>⟨(qte h).1,by have:=(qte h).2;lia⟩;intro w a;cases e with
 |term x w1 o d y m u =>
  obtain⟨j,i,n,q,⟨f,p⟩,z⟩:=h;obtain⟨_,_,g,s,_⟩:=qge f p;obtain⟨_,r,u3⟩:=qk8 z;simp only[qat,An,Aq,or_false]at a;rcases a with rfl|rfl|rfl|rfl|rfl|rfl|rfl|rfl|rfl|rfl
  .exact b (by simp)
  .exact qdi j
  .exact b (by simp)
  .exact qdi i
  .exact b (by simp)
  .exact qdi n
  .cases d <;>exact b (by simp[fbS])
  .exact qdi q
  .exact⟨g,by lia⟩
  .exact⟨r,by lia⟩
 |ends x k =>
  simp only[qat,An,Aq,or_false]at a;rcases a with rfl|rfl|rfl
  .exact b (by simp)
  .exact qdi h.1
  .exact qdi h.2
 |anew x k =>
  simp only[qat,An,Aq,or_false]at a;rcases a with rfl|rfl|rfl
  .exact b (by simp)
  .exact qdi h.1
  .exact qdi h.2
 |yields x k =>
  simp only[qat,An,Aq,or_false]at a;rcases a with rfl|rfl|rfl
  .exact b (by simp)
  .exact qdi h.1
  .exact qdi h.2
 |longer x k u t =>
  obtain⟨j,i,⟨n,q⟩,f,p⟩:=h;obtain⟨_,_,g,s,_⟩:=qge n (by lia);obtain⟨_,_,v,m4,_⟩:=qge f (by lia);simp only[qat,An,Aq,or_false]at a;rcases a with rfl|rfl|rfl|rfl|rfl|rfl
  .exact b (by simp)
  .exact qdi j
  .exact qdi i
  .exact⟨g,by lia⟩
  .exact b (by simp)
  .exact⟨v,by lia⟩
 |still x k l =>
  simp only[qat,An,Aq,or_false]at a;rcases a with rfl|rfl|rfl|rfl
  .exact b (by simp)
  .exact qdi h.1
  .exact qdi h.2.1
  .exact qdi h.2.2
def qxm (a:Rw7):qat a≠[]:=by cases a <;>exact Dn _ _
def qus (a:Rw7):(qat a).length<=10:=by cases a <;>simp[qat]
def qry {a:Rw7}(h:qc6 a):BU (qaw a) (wS " ")=qat a:=by rw[qkm];exact qlt 32 (qxm a) λp b=>(qjl h p b).1 32 (.inl Z)
theorem qrz {a:Rw7}(h:qc6 a):qc5 (qat a)=some a:=by
 cases a with
 |term x w1 o d y m u =>
  obtain⟨f,g,i,c,⟨e,j⟩,q⟩:=h;obtain⟨p,b,_⟩:=qge e j;show qc5 [wS "term",x,wS "of",w1,wS "due",o,fbS d,y,nS m,u]=_;rw[qib,if_pos ⟨Z,qbb.mpr f,Z,qbb.mpr g,Z,qbb.mpr i,by cases d <;>simp[fbS],qbb.mpr c,p,(qk8 q).1⟩,b];cases d
  .rw[show decide (fbS false=wS "behind")=false by decide +kernel]
  .rw[show decide (fbS true=wS "behind")=true by decide +kernel]
 |ends x k =>show qc5 [wS "ends",x,k]=_;rw[qhq,if_pos ⟨qbb.mpr h.1,qbb.mpr h.2⟩,if_pos Z]
 |anew x k =>show qc5 [wS "anew",x,k]=_;rw[qhq,if_pos ⟨qbb.mpr h.1,qbb.mpr h.2⟩,if_neg En,if_pos Z]
 |yields x k =>show qc5 [wS "yields",x,k]=_;rw[qhq,if_pos ⟨qbb.mpr h.1,qbb.mpr h.2⟩,if_neg En,if_neg En,if_pos Z]
 |longer x k u t =>obtain⟨f,g,⟨i,c⟩,e,j⟩:=h;obtain⟨_,b,_,_,s,_⟩:=qge i (by lia);obtain⟨_,n,_,_,_,r⟩:=qge e (by lia);show qc5 [wS "longer",x,k,nS u,wS "times",nS t]=_;rw[qkf,if_pos ⟨Z,qbb.mpr f,qbb.mpr g,s c,Z,r j⟩,b,n]
 |still x k l =>show qc5 [wS "still",x,k,l]=_;rw[qkg,if_pos ⟨Z,qbb.mpr h.1,qbb.mpr h.2.1,qbb.mpr h.2.2⟩]
def op_line {a:Rw7}(h:qc6 a):opR (qaw a)=some a:=by unfold opR;rw[qry h,qrz h]
theorem jl9 {c n:Nat}:∀{ps:List (List Nat)},(∀p∈ps,p.length<=n)->(jl c ps).length<=(n+1)*ps.length
 | [],_=>A0 _
 | [x],h=>by have:=h x Am;show x.length<=(n+1)*1;lia
 |x::y::r,h=>by have h1:=h x Am;have h2:=jl9 (c:=c) (ps:=y::r) λp a=>h p (Ar _ a);show (x++c::jl c (y::r)).length<=(n+1)*((y::r).length+1);rw[Ag,Au,Nat.mul_succ];lia
theorem qxn {c d:Nat}(n:c≠d):∀{ps:List (List Nat)},(∀p∈ps,d∉p)->d∉jl c ps
 | [],_=>Aq
 | [x],h=>h x Am
 |x::y::r,h=>by
  show d∉x++c::jl c (y::r);rw[Az,An];rintro (z|z|z)
  .exact h x Am z
  .exact n z.symm
  .exact qxn n (λp a=>h p (Ar _ a)) z
theorem qjm {a:Rw7}(h:qc6 a):(qaw a).cps.size<=90/\10∉(qaw a).cps.toList/\(qaw a).cps.size≠0:=by
 have e:(qaw a).cps.toList=jl 32 ((qat a).map λp=>p.cps.toList):=qd2 32 _;refine⟨?_,?_,?_⟩
 .rw[<- A7,e];have:=jl9 (c:=32) (n:=8) (ps:=(qat a).map λp=>p.cps.toList) λp d=>by obtain⟨w,b,rfl⟩:=AS.mp d;rw[A7];exact(qjl h w b).2
  rw[Ac]at this;have:=qus a;lia
 .rw[e];refine qxn Ez λp d=>?_;obtain⟨w,b,rfl⟩:=AS.mp d;exact(qjl h w b).1 10 (.inr Z)
 .rw[<- A7,e];cases a <;>(simp only[qat,A6,BC,jl,Ag,Au];lia)
noncomputable def qbl (r:RR):Rw7:=match r.base with
 |some y=>.term r.name r.who r.owes true y r.many r.unit
 |none=>.term r.name r.who r.owes false (r.opens.getD "None") r.many r.unit
noncomputable def qdx (x:Str):Option (Str×Str)->List Rw7
 |none=>[]
 |some s=>[.still x s.1 s.2]
noncomputable def qig (r:RR):List (List Rw7):=[[qbl r],r.ends.map (.ends r.name),r.anew.map (.anew r.name),r.longer.map (λt=>.longer r.name t.1 t.2.1 t.2.2),qdx r.name r.still,r.yields.map (.yields r.name)]
noncomputable def qck (r:RR):List Rw7:=(qig r).flatten
structure RrOk (r:RR):Prop where
 nm:qb1 r.name
 wh:qb1 r.who
 kn:∀x∈qah r,qb1 x
 ba:∀y,r.base=some y->qb1 y
 bo:r.base=none->∃o,r.opens=some o
 bn:∀y,r.base=some y->r.opens=none
 yl:∀y∈r.yields,qb1 y
 mn:1<=r.many/\r.many<=40
 un:r.unit∈qbu
 lg:∀t∈r.longer,(1<=t.2.1/\t.2.1<=20)/\1<=t.2.2/\t.2.2<=3
 sz:r.ends.length<=100/\r.anew.length<=100/\r.longer.length<=100/\r.yields.length<=100
def RrOk.kin {r:RR}(h:RrOk r):qb1 r.owes/\(∀x∈r.ends,qb1 x)/\(∀x∈r.anew,qb1 x)/\(∀t∈r.longer,qb1 t.1)/\(∀x,r.opens=some x->qb1 x)/\∀s,r.still=some s->qb1 s.1/\qb1 s.2:=by
 have m:∀x,x∈qah r↔x=r.owes\/x∈r.ends\/x∈r.anew\/x∈r.longer.map (·.1)\/x∈r.opens.toList\/x∈stL r.still:=λx=>by unfold qah;simp only[Az,Ai,or_assoc]
 refine⟨h.kn _ ((m _).mpr (.inl Z)),λx a=>h.kn _ ((m _).mpr (.inr (.inl a))),λx a=>h.kn _ ((m _).mpr (.inr (.inr (.inl a)))),λt c=>h.kn _ ((m _).mpr (.inr (.inr (.inr (.inl (AS.mpr ⟨t,c,Z⟩)))))),λx a=>h.kn _ ((m _).mpr (.inr (.inr (.inr (.inr (.inl (by rw[a];simp))))))),λs b=>?_⟩;exact⟨h.kn _ ((m _).mpr (.inr (.inr (.inr (.inr (.inr (by rw[b];simp[stL]))))))),h.kn _ ((m _).mpr (.inr (.inr (.inr (.inr (.inr (by rw[b];simp[stL])))))))⟩
theorem term_ok {r:RR}(h:RrOk r):qc6 (qbl r):=by
 unfold qbl;cases b:r.base with
 |some y=>exact⟨h.nm,h.wh,h.kin.1,h.ba y b,h.mn,h.un⟩
 |none =>obtain⟨o,a⟩:=h.bo b;dsimp only;rw[a];exact⟨h.nm,h.wh,h.kin.1,h.kin.2.2.2.2.1 o a,h.mn,h.un⟩
theorem rows_ok {r:RR}(h:RrOk r):∀b∈qck r,qc6 b:=by
 obtain⟨k1,g,f,i,k5,e⟩:=h.kin;intro b d;unfold qck qig at d;simp only[List.flatten_cons,List.flatten_nil,Bm,Az,AS,Ai]at d;rcases d with rfl|⟨k,hk,rfl⟩|⟨k,hk,rfl⟩|⟨t,c,rfl⟩|a|⟨y,j,rfl⟩
 .exact term_ok h
 .exact⟨h.nm,g k hk⟩
 .exact⟨h.nm,f k hk⟩
 .exact⟨h.nm,i t c,(h.lg t c).1,(h.lg t c).2⟩
 .cases es:r.still with
  |none=>rw[es]at a;cases a
  |some s =>rw[es]at a;rw[Ai.mp a];exact⟨h.nm,e s es⟩
 .exact⟨h.nm,h.yl y j⟩
def qic:(wS "term ").cps.toList=(wS "term").cps.toList++[32]/\(wS " of ").cps.toList=32::((wS "of").cps.toList++[32])/\(wS " due ").cps.toList=32::((wS "due").cps.toList++[32])/\(wS "from ").cps.toList=(wS "from").cps.toList++[32]/\(wS "behind ").cps.toList=(wS "behind").cps.toList++[32]/\(wS " ").cps.toList=[32]/\(wS "ends ").cps.toList=(wS "ends").cps.toList++[32]/\(wS "anew ").cps.toList=(wS "anew").cps.toList++[32]/\(wS "longer ").cps.toList=(wS "longer").cps.toList++[32]/\(wS " times ").cps.toList=32::((wS "times").cps.toList++[32])/\(wS "still ").cps.toList=(wS "still").cps.toList++[32]/\(wS "yields ").cps.toList=(wS "yields").cps.toList++[32]:=En
def hl0 {a b:Str}(c:a.length<=50000)(d:b.length<=50000):a.length+b.length<=100000:=Nat.add_le_add c d
def hl {a b:Str}{n:Nat}(ha:a.length<=n / 2)(hb:b.length<=n / 2):(a++b).length<=n:=by rw[qay];lia
def fz {n:Nat}(h:n<=100000:=by first | (refine hl0 ?_ ?_ <;>(repeat' refine hl ?_ ?_) <;>first|exact A3 (by assumption) Ez|decide)|lia | (simp only[qay];lia)):n<=A4:=fits h
theorem qr0:(Aa "term ").length=5/\(Aa " of ").length=4/\(Aa " due ").length=5/\(Aa "from ").length=5/\(Aa "behind ").length=7/\(Aa " ").length=1/\(Aa "ends ").length=5/\(Aa "anew ").length=5/\(Aa "longer ").length=7/\(Aa " times ").length=7/\(Aa "still ").length=6/\(Aa "yields ").length=7/\(Aa "None").length=4:=En
noncomputable def qm5 (r:RR):Str:=match r.base with
 |some y=>wS "behind " ++ y
 |none=>wS "from " ++ r.opens.getD "None"
def qut (r:RR):wS "term " ++ r.name++wS " of " ++ r.who++wS " due " ++ r.owes++wS " " ++ qm5 r++wS " " ++ nS r.many++wS " " ++ r.unit=qaw (qbl r):=by
 obtain⟨a,b,c,f,e,d,_⟩:=qic;refine str_ext ?_;rw[show (qaw (qbl r)).cps.toList=jl 32 ((qat (qbl r)).map λp=>p.cps.toList) from qd2 32 _];unfold qm5 qbl;cases r.base with|some y =>dsimp only;simp only[qdv,a,b,c,e,d,qat,fbS,if_pos,A6,BC,jl,AE,Bj,Bi]|none =>dsimp only;simp only[qdv,a,b,c,f,d,qat,fbS,Dt,if_false,A6,BC,jl,AE,Bj,Bi]
def qn0 (x k:Str):wS "ends " ++ x++wS " " ++ k=qaw (.ends x k):=by obtain⟨_,_,_,_,_,b,a,_⟩:=qic;refine str_ext ?_;rw[show (qaw (.ends x k)).cps.toList=jl 32 ((qat (.ends x k)).map λp=>p.cps.toList) from qd2 32 _];simp only[qdv,b,a,qat,A6,BC,jl,AE,Bj,Bi]
def qn1 (x k:Str):wS "anew " ++ x++wS " " ++ k=qaw (.anew x k):=by obtain⟨_,_,_,_,_,b,_,a,_⟩:=qic;refine str_ext ?_;rw[show (qaw (.anew x k)).cps.toList=jl 32 ((qat (.anew x k)).map λp=>p.cps.toList) from qd2 32 _];simp only[qdv,b,a,qat,A6,BC,jl,AE,Bj,Bi]
def qkr (x k:Str):wS "yields " ++ x++wS " " ++ k=qaw (.yields x k):=by obtain⟨_,_,_,_,_,b,_,_,_,_,_,a⟩:=qic;refine str_ext ?_;rw[show (qaw (.yields x k)).cps.toList=jl 32 ((qat (.yields x k)).map λp=>p.cps.toList) from qd2 32 _];simp only[qdv,b,a,qat,A6,BC,jl,AE,Bj,Bi]
def qks (x k:Str)(u t:Int):wS "longer " ++ x++wS " " ++ k++wS " " ++ nS u++wS " times " ++ nS t=qaw (.longer x k u t):=by obtain⟨_,_,_,_,_,c,_,_,b,a,_⟩:=qic;refine str_ext ?_;rw[show (qaw (.longer x k u t)).cps.toList=jl 32 ((qat (.longer x k u t)).map λp=>p.cps.toList) from qd2 32 _];simp only[qdv,c,b,a,qat,A6,BC,jl,AE,Bj,Bi]
def qr1 (x k l:Str):wS "still " ++ x++wS " " ++ k++wS " " ++ l=qaw (.still x k l):=by obtain⟨_,_,_,_,_,b,_,_,_,_,a,_⟩:=qic;refine str_ext ?_;rw[show (qaw (.still x k l)).cps.toList=jl 32 ((qat (.still x k l)).map λp=>p.cps.toList) from qd2 32 _];simp only[qdv,b,a,qat,A6,BC,jl,AE,Bj,Bi]
noncomputable def qbc (rows:List Rw7):List V:=(rows.map qaw).map V.str
def spSo:Sp:=λvs H Q _=>∃(p:Addr)(r:RR),vs=[.ref p]/\LR H p r/\RrOk r/\∀(q:Addr)(H':Hp)(us:List V),H q=none->Same H H'->H' q=some (.lst us)->us.length=6->(∀(i:Nat)(v:V)(rw:List Rw7),us[i]?=some v->(qig r)[i]?=some rw->∃b,v=.ref b/\H' b=some (.lst (qbc rw)))->Q (.ref q) H'
def spRws:Sp:=λvs H Q _=>∃(p:Addr)(r:RR),vs=[.ref p]/\LR H p r/\RrOk r/\∀(q:Addr)(H':Hp),H q=none->Same H H'->H' q=some (.lst (qbc (qck r)))->Q (.ref q) H'
def qiv {n:Int}(h:n.natAbs<=100):n.natAbs.log2<1920:=Dr (Nat.log2_le_self _) (by lia)
theorem qxo {r:RR}(h:RrOk r):∀rw∈qig r,rw.length<=100:=by
 obtain⟨c,b,e,d⟩:=h.sz;intro rw a;simp only[qig,An,Aq,or_false]at a;rcases a with rfl|rfl|rfl|rfl|rfl|rfl
 .simp
 .rw[Ac];exact c
 .rw[Ac];exact b
 .rw[Ac];exact e
 .cases r.still <;>simp[qdx]
 .rw[Ac];exact d
def Fits:RR->List Rw7->Prop
 |_,[]=>True
 |r,row::t=>isT row=false/\qaz row=r.name/\qew r row=false/\Fits (qcj r row) t
def qxp {rs0:List RR}{r:RR}(h:qan rs0 r.name=none):qan (rs0++[r]) r.name=some rs0.length:=by rw[qjj,h];dsimp only;rw[if_pos Z]
def quu {rs0:List RR}{r r':RR}:(rs0++[r]).set rs0.length r'=rs0++[r']:=by rw[List.set_append_right _ _ (A0 _),Ed];rfl
def quv {rs0:List RR}{r:RR}:(rs0++[r])[rs0.length]?=some r:=by rw[AN (A0 _),Ed];rfl
theorem qih:∀{a:List Rw7}{rs0:List RR}{r:RR}{i:Nat}{t:List (Option Rw7)},qan rs0 r.name=none->Fits r a->i+a.length<=40->qai (rs0++[r]) i (a.map some++t)=qai (rs0++[a.foldl qcj r]) (i+a.length) t
 | [],_,_,_,_,_,_,_=>rfl
 |row::a,rs0,r,i,t,hp,f,hi=>by
  obtain⟨d,c,b,e⟩:=f;rw[Au]at hi;have h:qbt (rs0++[r]) i row=.ok (rs0++[qcj r row]):=by rw[qd8 d,qey (by rw[c];exact qxp hp) quv b,quu]
  show qai (rs0++[r]) i (some row::(a.map some++t))=_;rw[qgv (by lia) h,qih (by rw[qe5];exact hp) e (by lia),Au,show i+1+a.length=i+(a.length+1) by lia];rfl
noncomputable def nLg:List Rw7->Nat
 | []=>0
 |.longer _ _ _ _::t=>nLg t+1
 |_::t=>nLg t
noncomputable def nSt:List Rw7->Nat
 | []=>0
 |.still _ _ _::t=>nSt t+1
 |_::t=>nSt t
theorem qki (r:RR){a:Rw7}(h:isT a=false)(b:nSt [a]+stN r.still<=1):(qah (qcj r a)).Perm (qah r++kin a):=by
 refine List.perm_iff_count.mpr λx=>?_;cases a with
 |term=>cases h
 |ends y k=>simp only[qah,qcj,kin,CY];lia
 |anew y k=>simp only[qah,qcj,kin,CY];lia
 |longer y k u t=>simp only[qah,qcj,kin,CY,Av,A6,BC];lia
 |still y k l =>
  have e:r.still=none:=by
   cases es:r.still with|none=>rfl|some s=>rw[es]at b;have b:1+1<=1:=b;lia
  simp only[qah,qcj,kin,CY,e,stL,List.count_nil];lia
 |yields y k=>simp only[qah,qcj,kin,CY,List.count_nil];lia
def qmk (a:Rw7)(t:List Rw7):nLg (a::t)=nLg [a]+nLg t:=by cases a <;>simp[nLg] <;>lia
def qml (a:Rw7)(t:List Rw7):nSt (a::t)=nSt [a]+nSt t:=by cases a <;>simp[nSt] <;>lia
def more_lg (r:RR)(a:Rw7):(qcj r a).longer.length=r.longer.length+nLg [a]:=by cases a <;>simp[qcj,nLg]
def more_st (r:RR)(a:Rw7)(h:nSt [a]+stN r.still<=1):stN (qcj r a).still=stN r.still+nSt [a]:=by
 cases a with|still y k l =>show 1=stN r.still+1;have h:1+stN r.still<=1:=h;lia|_=>rfl
theorem qtf:∀{a:List Rw7}{r:RR},(∀row∈a,isT row=false/\qaz row=r.name)->(qah r++a.flatMap kin).Nodup->r.longer.length+nLg a<=2->stN r.still+nSt a<=1->Fits r a
 | [],_,_,_,_,_=>trivial
 |row::a,r,ha,nd,hl,b=>by
  obtain⟨g,h⟩:=ha row Am;rw[qmk]at hl;rw[qml]at b;have j:=qki r g (by lia);rw[Bt,<- AE]at nd;have f:=(AO.mp nd).1;obtain⟨n1,d,i⟩:=AO.mp f;refine⟨g,h,?_,qtf (λc m=>by rw[qe5];exact ha c (Ar _ m)) ?_ (by rw[more_lg];lia) (by rw[more_st r row (by lia)];lia)⟩
  .unfold qew;rw[CZ];constructor
   .rw[DW];intro k hk z;exact i k (AY.mp z) k hk rfl
   .cases row with
    |still y k l =>
     show (r.still.isSome || decide (k=l))=false;have e:r.still=none:=by
      cases es:r.still with|none=>rfl|some s=>rw[es]at b;have b:1+(1+nSt a)<=1:=b;lia
     rw[e,decide_eq_false]
     .rfl
     .intro z;rw[z]at d;simp[kin]at d
    |longer y k u t =>show decide (r.longer.length=2)=false;rw[decide_eq_false];intro z;have hl:r.longer.length+(1+nLg a)<=2:=hl;lia
    |_=>rfl
  .exact(j.append_right _).nodup_iff.mpr nd
noncomputable def noY (r:RR):RR:={r with yields:=[]}
theorem qn2 (x:Str):∀(a:List Str)(r:RR),(a.map (.ends x)).foldl qcj r={r with ends:=r.ends++a}
 | [],r=>by rw[Bm];rfl
 |k::a,r=>by show (a.map (.ends x)).foldl qcj {r with ends:=r.ends++[k]}=_;rw[qn2 x a];simp only[AE,Bj,Bi]
theorem qn3 (x:Str):∀(a:List Str)(r:RR),(a.map (.anew x)).foldl qcj r={r with anew:=r.anew++a}
 | [],r=>by rw[Bm];rfl
 |k::a,r=>by show (a.map (.anew x)).foldl qcj {r with anew:=r.anew++[k]}=_;rw[qn3 x a];simp only[AE,Bj,Bi]
theorem qkt (x:Str):∀(a:List (Str×Int×Int))(r:RR),(a.map λt=>Rw7.longer x t.1 t.2.1 t.2.2).foldl qcj r={r with longer:=r.longer++a}
 | [],r=>by rw[Bm];rfl
 |k::a,r=>by show (a.map λt=>Rw7.longer x t.1 t.2.1 t.2.2).foldl qcj {r with longer:=r.longer++[(k.1,k.2.1,k.2.2)]}=_;rw[qkt x a];simp only[AE,Bj,Bi]
theorem qku (x:Str):∀(a:List Str)(r:RR),(a.map (.yields x)).foldl qcj r=r
 | [],r=>rfl
 |k::a,r=>qku x a r
def qr2 (x:Str)(o:Option (Str×Str))(r:RR)(h:r.still=none):(qdx x o).foldl qcj r={r with still:=o}:=by
 cases o with|none=>show r={r with still:=none};rw[<- h]|some s=>rfl
noncomputable def qcq (r:RR):List Rw7:=r.ends.map (.ends r.name)++(r.anew.map (.anew r.name)++(r.longer.map (λt=>.longer r.name t.1 t.2.1 t.2.2)++(qdx r.name r.still++r.yields.map (.yields r.name))))
def qfc (r:RR):qck r=qbl r::qcq r:=by unfold qck qig qcq;simp only[List.flatten_cons,List.flatten_nil,Bm,Bj,Bi]
noncomputable def qhw (r:RR):RR:=⟨r.name,r.who,r.owes,r.opens,r.base,r.many,r.unit,[],[],[],none,[]⟩
def quw (r:RR):(qcq r).foldl qcj (qhw r)=noY r:=by unfold qcq;rw[D8,qn2,D8,qn3,D8,qkt,D8,qr2 _ _ _ Z,qku];simp only[qhw,noY,Bi]
theorem nm_rest (r:RR):∀a∈qcq r,isT a=false/\qaz a=r.name:=by
 intro a h;unfold qcq at h;simp only[Az,AS]at h;rcases h with ⟨k,_,rfl⟩|⟨k,_,rfl⟩|⟨k,_,rfl⟩|h|⟨k,_,rfl⟩
 .exact⟨Z,Z⟩
 .exact⟨Z,Z⟩
 .exact⟨Z,Z⟩
 .cases es:r.still with
  |none=>rw[es]at h;cases h
  |some s=>rw[es]at h;rw[Ai.mp h];exact⟨Z,Z⟩
 .exact⟨Z,Z⟩
def qxq (r:RR):(qcq r).flatMap kin=r.ends++(r.anew++(r.longer.map (·.1)++stL r.still)):=by
 have d:∀a:List Str,(a.map (Rw7.ends r.name)).flatMap kin=a:=λa=>by induction a with|nil=>rfl|cons k a ih=>rw[A6,Bt,ih];rfl
 have b:∀a:List Str,(a.map (Rw7.anew r.name)).flatMap kin=a:=λa=>by induction a with|nil=>rfl|cons k a ih=>rw[A6,Bt,ih];rfl
 have e:∀a:List (Str×Int×Int),(a.map λt=>Rw7.longer r.name t.1 t.2.1 t.2.2).flatMap kin=a.map (·.1):=λa=>by induction a with|nil=>rfl|cons k a ih=>rw[A6,Bt,ih];rfl
 have c:∀a:List Str,(a.map (Rw7.yields r.name)).flatMap kin=[]:=λa=>by induction a with|nil=>rfl|cons k a ih=>rw[A6,Bt,ih];rfl
 unfold qcq;rw[Bc,Bc,Bc,Bc,d,b,e,c,Bm];cases r.still <;>rfl
theorem qjn:∀a b:List Rw7,nLg (a++b)=nLg a+nLg b
 | [],b=>(DF _).symm
 |x::a,b=>by rw[Bj,qmk,qmk x a,qjn a b];lia
theorem qjo:∀a b:List Rw7,nSt (a++b)=nSt a+nSt b
 | [],b=>(DF _).symm
 |x::a,b=>by rw[Bj,qml,qml x a,qjo a b];lia
theorem n_rest (r:RR):nLg (qcq r)=r.longer.length/\nSt (qcq r)=stN r.still:=by
 have a:∀d:List Str,nLg (d.map (Rw7.ends r.name))=0/\nSt (d.map (Rw7.ends r.name))=0/\nLg (d.map (Rw7.anew r.name))=0/\nSt (d.map (Rw7.anew r.name))=0/\nLg (d.map (Rw7.yields r.name))=0/\nSt (d.map (Rw7.yields r.name))=0:=λd=>by
  induction d with
  |nil=>exact⟨Z,Z,Z,Z,Z,Z⟩
  |cons k d ih=>exact ih
 have b:∀d:List (Str×Int×Int),nLg (d.map λt=>Rw7.longer r.name t.1 t.2.1 t.2.2)=d.length/\nSt (d.map λt=>Rw7.longer r.name t.1 t.2.1 t.2.2)=0:=λd=>by
  induction d with
  |nil=>exact⟨Z,Z⟩
  |cons k d ih=>exact⟨congrArg (· + 1) ih.1,ih.2⟩
 have c:∀o:Option (Str×Str),nLg (qdx r.name o)=0/\nSt (qdx r.name o)=stN o:=λo=>by cases o <;>exact⟨Z,Z⟩
 unfold qcq;rw[qjn,qjn,qjn,qjn,qjo,qjo,qjo,qjo,(a r.ends).1,(a r.ends).2.1,(a r.anew).2.2.1,(a r.anew).2.2.2.1,(b r.longer).1,(b r.longer).2,(c r.still).1,(c r.still).2,(a r.yields).2.2.2.2.1,(a r.yields).2.2.2.2.2];lia
def qux {r:RR}(c:(qah r).Nodup)(l2:r.longer.length<=2):Fits (qhw r) (qcq r):=by obtain⟨b,a⟩:=n_rest r;refine qtf (nm_rest r) ?_ (by rw[b];show 0+_<=2;lia) (by rw[a];show 0+_<=1;cases r.still <;>simp[stN]);rw[qxq];refine(Do.nodup_iff (List.perm_iff_count.mpr λx=>?_)).mpr c;simp only[qah,qhw,CY,BC,List.count_nil,stL];lia
theorem qqp {rs0:List RR}{r:RR}{i:Nat}(ok:RrOk r)(c:(qah r).Nodup)(e:qan rs0 r.name=none)(f:rs0.length≠6):qbt rs0 i (qbl r)=.ok (rs0++[qhw r]):=by
 unfold qbl;cases a:r.base with
 |some y =>show qei rs0 i r.name r.who r.owes true y r.many r.unit=_;rw[qex (d:=true) e (λz=>z.elim f λz=>nomatch z.1)];unfold qhr qhw;rw[a,ok.bn y a];rfl
 |none =>
  obtain⟨o,b⟩:=ok.bo a;show qei rs0 i r.name r.who r.owes false (r.opens.getD "None") r.many r.unit=_;rw[b];have g:r.owes≠o:=λz=>by unfold qah at c;rw[b,z]at c;simp at c
  show qei rs0 i r.name r.who r.owes false o r.many r.unit=_;rw[qex e (λz=>z.elim f λz=>g z.2)];unfold qhr qhw;rw[a,b];rfl
def qm6 {rs0:List RR}{r:RR}{i:Nat}{t:List (Option Rw7)}(ok:RrOk r)(b:(qah r).Nodup)(d:r.longer.length<=2)(c:qan rs0 r.name=none)(e:rs0.length≠6)(a:i+(qck r).length<=40):qai rs0 i ((qck r).map some++t)=qai (rs0++[noY r]) (i+(qck r).length) t:=by rw[qfc]at a |-;rw[Au]at a |-;show qai rs0 i (some (qbl r)::((qcq r).map some++t))=_;rw[qgv (by lia) (qqp ok b c e),qih (r:=qhw r) c (qux b d) (by lia),quw,show i+1+(qcq r).length=i+((qcq r).length+1) by lia]
noncomputable def qak (rs:List RR):List Rw7:=rs.flatMap qck
structure GT (rs:List RR):Prop where
 ok:∀r∈rs,RrOk r
 kd:∀r∈rs,(qah r).Nodup
 l2:∀r∈rs,r.longer.length<=2
 nn:(rs.map RR.name).Nodup
 l6:rs.length<=6
 ba:qgw rs
 yl:∀r∈rs,r.yields.Nodup/\∀y∈r.yields,y≠r.name/\∃s∈rs,s.name=y/\s.owes=r.owes
 ln:(qak rs).length<=40
theorem qjp:∀{rs rs0:List RR}{i:Nat}{t:List (Option Rw7)},(∀r∈rs,RrOk r/\(qah r).Nodup/\r.longer.length<=2)->((rs0++rs).map RR.name).Nodup->(rs0++rs).length<=6->i+(qak rs).length<=40->qai rs0 i ((qak rs).map some++t)=qai (rs0++rs.map noY) (i+(qak rs).length) t
 | [],rs0,i,t,_,_,_,_=>by show qai rs0 i t=qai (rs0++[]) (i+0) t;rw[Bm];rfl
 |r::rs,rs0,i,t,ok,nn,l6,h40=>by
  have a:qak (r::rs)=qck r++qak rs:=Bt;rw[a,Ag]at h40;obtain⟨g,e,c⟩:=ok r Am;have f:qan rs0 r.name=none:=qc7.mpr λz=>by rw[Av,AO]at nn;exact nn.2.2 _ z r.name (by simp) rfl
  have b:(((rs0++[noY r])++rs).map RR.name).Nodup:=by
   rw[AE];have:((rs0++([noY r]++rs)).map RR.name)=(rs0++r::rs).map RR.name:=by simp[noY]
   rw[this];exact nn
  rw[Ag,Au]at l6;rw[a,Av,AE,qm6 g e c f (by lia) (by lia),qjp (λs d=>ok s (Ar _ d)) b (by rw[Ag,Ag];show _+1+_<=6;lia) (by lia),Ag,AE,Nat.add_assoc];rfl
def qxr {rs:List RR}(g:GT rs):qai [] 0 ((qak rs).map some)=.ok (rs.map noY):=by have:=qjp (rs:=rs) (rs0:=[]) (i:=0) (t:=[]) (λr a=>⟨g.ok r a,g.kd r a,g.l2 r a⟩) g.nn g.l6 (by have:=g.ln;lia);rw[Bm,Bi]at this;rw[this];rfl
theorem qkv:∀{a:List Rw7}{rs:List RR}{i:Nat}{t:List Rw7},(∀row∈a,isT row=false/\∀x y,row ≠ .yields x y)->qar rs i (a++t)=qar rs (i+a.length) t
 | [],_,_,_,_=>rfl
 |row::a,rs,i,t,h=>by obtain⟨c,d⟩:=h row Am;show qar rs i (row::(a++t))=_;rw[qfa (qxj c d),qkv λb e=>h b (Ar _ e),Au,show i+1+a.length=i+(a.length+1) by lia]
theorem qmm:∀{ys:List Str}{rs:List RR}{r:RR}{i j:Nat}{t:List Rw7},(rs.map RR.name).Nodup->rs[j]?=some r->(r.yields++ys).Nodup->(∀y∈ys,y≠r.name/\∃s∈rs,s.name=y/\s.owes=r.owes)->qar rs i (ys.map (.yields r.name)++t)=qar (rs.set j {r with yields:=r.yields++ys}) (i+ys.length) t
 | [],rs,r,i,j,t,_,hj,_,_=>by
  show qar rs i t=qar (rs.set j {r with yields:=r.yields++[]}) (i+0) t;rw[Bm];have:rs.set j r=rs:=by
   apply Bz;intro k;rw[Cn];by_cases c:j=k
   .subst c;rw[if_pos Z,if_pos (Ah.mp hj).1,hj]
   .rw[if_neg c]
  rw[this];rfl
 |y::ys,rs,r,i,j,t,nn,hj,nd,hy=>by
  obtain⟨o,s,m,v,p⟩:=hy y Am;obtain⟨l,hl⟩:=AL m;have pl:qan rs y=some l:=by rw[<- v];exact qef nn hl
  have w:y∉r.yields:=λz=>by rw[AO]at nd;exact nd.2.2 y z y Am rfl
  have h:qb0 rs i (.yields r.name y)=.ok (rs.set j {r with yields:=r.yields++[y]}):=by rw[qhu (qef nn hj),qfq pl hj hl λz=>z.elim o λz=>z.elim w λz=>z p]
  have u:({r with yields:=r.yields++[y]}:RR).name=r.name:=rfl;show qar rs i (.yields r.name y::(ys.map (.yields r.name)++t))=_;have A:=qmm (ys:=ys) (rs:=rs.set j {r with yields:=r.yields++[y]}) (r:={r with yields:=r.yields++[y]}) (i:=i+1) (j:=j) (t:=t) (by rw[qfb hj u];exact nn) (Cj (Ah.mp hj).1) (by show ((r.yields++[y])++ys).Nodup;rw[AE];exact nd) (λn b=>by
   obtain⟨f,q,e,d,x⟩:=hy n (Ar _ b);obtain⟨g,a⟩:=AL e;by_cases c:g=j
   .subst c;rw[hj]at a;cases a;exact absurd d.symm f
   .exact⟨f,q,At (i:=g) (by rw[Cn,if_neg (Ba c)];exact a),d,x⟩)
  rw[qfa h];refine A.trans ?_;rw[List.set_set,Au,show i+1+ys.length=i+(ys.length+1) by lia];simp only[AE,Bj,Bi]
def qxs (r:RR):∃x w o d y m u,qbl r=.term x w o d y m u/\x=r.name:=by
 unfold qbl;cases r.base with|some y=>exact⟨_,_,_,_,_,_,_,Z,Z⟩|none=>exact⟨_,_,_,_,_,_,_,Z,Z⟩
def qqq {rs:List RR}{r r':RR}{i j:Nat}(f:(rs.map RR.name).Nodup)(a:rs[j]?=some r')(b:r'.name=r.name)(c:∀y,r'.base=some y->(qan rs y).isSome=true):qb0 rs i (qbl r)=.ok rs:=by
 obtain⟨x,w,o,d,y,m,u,e,ex⟩:=qxs r;rw[e,qgd (j:=j) (r:=r') (by rw[ex,<- b];exact qef f a) a];cases g:r'.base with|none=>rfl|some z=>dsimp only;rw[if_pos (c z g)]
def qo2 {rs:List RR}{r:RR}{i j:Nat}{t:List Rw7}(a:(rs.map RR.name).Nodup)(b:rs[j]?=some (noY r))(d:∀y,r.base=some y->(qan rs y).isSome=true)(f:r.yields.Nodup)(c:∀y∈r.yields,y≠r.name/\∃s∈rs,s.name=y/\s.owes=r.owes):qar rs i (qck r++t)=qar (rs.set j r) (i+(qck r).length) t:=by
 have e:qck r=qbl r::((r.ends.map (.ends r.name)++(r.anew.map (.anew r.name)++(r.longer.map (λt=>.longer r.name t.1 t.2.1 t.2.2)++qdx r.name r.still)))++r.yields.map (.yields r.name)):=by rw[qfc];unfold qcq;simp only[AE]
 rw[e];show qar rs i (qbl r::(_++t))=_;refine(qfa (qqq (r:=r) (r':=noY r) a b Z d) _).trans ?_;rw[AE];refine(qkv λrow h=>?_).trans ((qmm (ys:=r.yields) (r:=noY r) a b f c).trans ?_)
 .simp only[Az,AS]at h;rcases h with ⟨k,_,rfl⟩|⟨k,_,rfl⟩|⟨k,_,rfl⟩|h
  .exact⟨Z,λ_ _ z=>nomatch z⟩
  .exact⟨Z,λ_ _ z=>nomatch z⟩
  .exact⟨Z,λ_ _ z=>nomatch z⟩
  .cases es:r.still with
   |none=>rw[es]at h;cases h
   |some s=>rw[es]at h;rw[Ai.mp h];exact⟨Z,λ_ _ z=>nomatch z⟩
 .have:({noY r with yields:=(noY r).yields++r.yields}:RR)=r:=rfl;rw[this]
  congr 1
  simp only[Au,Ag,Ac];lia
def quy (rs:List RR):(rs.map noY).map RR.name=rs.map RR.name:=by rw[AV];rfl
def qqr {rs:List RR}(g:GT rs):qar (rs.map noY) 0 (qak rs)=.ok rs:=by
 have w:∀k,k<=rs.length->qar (rs.map noY) 0 (qak rs)=qar (rs.take k++(rs.drop k).map noY) (qak (rs.take k)).length (qak (rs.drop k)):=by
  intro k
  induction k with
  |zero=>intro _;rw[List.take_zero,List.drop_zero,Bi];rfl
  |succ k ih =>
   intro hk;rw[ih (by lia)];have c:k<rs.length:=by lia
   have i:rs[k]?=some rs[k]:=Al c;have d:rs[k]∈rs:=By c;have b:rs.drop k=rs[k]::rs.drop (k+1):=Cy c;have lt:(rs.take k).length=k:=by rw[AZ];lia
   have a:(rs.take k++(rs.drop k).map noY).map RR.name=rs.map RR.name:=by rw[Av,quy,<- Av,C1]
   have nn:((rs.take k++(rs.drop k).map noY).map RR.name).Nodup:=by rw[a];exact g.nn
   have p:(rs.take k++(rs.drop k).map noY)[k]?=some (noY rs[k]):=by rw[AN (by lia),lt,Ed,b];rfl
   have o:qak (rs.drop k)=qck rs[k]++qak (rs.drop (k+1)):=by rw[b];exact Bt
   rw[o,qo2 nn p (λy e=>by rw[qc0 y a];exact g.ba _ d y e) (g.yl _ d).1 (λy e=>?_)]
   .have n:(rs.take k++(rs.drop k).map noY).set k rs[k]=rs.take (k+1)++(rs.drop (k+1)).map noY:=by
     rw[List.set_append_right _ _ (by lia),lt,Ed,b,qbr i,AE];rfl
    have m:(qak (rs.take k)).length+(qck rs[k]).length=(qak (rs.take (k+1))).length:=by rw[qbr i];unfold qak;rw[Bc,Ag];simp
    rw[n,m]
   .obtain⟨l,s,f,j,h⟩:=(g.yl _ d).2 y e;refine⟨l,?_⟩;rw[<- C1 k rs]at f;rcases Az.mp f with z|z
    .exact⟨s,Bk _ z,j,h⟩
    .exact⟨noY s,AI _ (AS.mpr ⟨s,z,Z⟩),j,h⟩
 rw[w _ (A0 _),B8,List.drop_length];show qar (rs++[]) _ []=_;rw[Bm];rfl
def quz {a:List Rw7}(h:∀b∈a,qc6 b):qd6 (a.map qaw)=a.map some:=by unfold qd6;rw[AV];exact List.map_congr_left λb c=>op_line (h b c)
def qo3 {rs:List RR}(g:∀r∈rs,RrOk r):∀a∈qak rs,qc6 a:=λa d=>by obtain⟨r,c,b⟩:=B0.mp d;exact rows_ok (g r c) a b
def qn4 {rs:List RR}(g:GT rs):qdo ((qak rs).map qaw)=.ok rs:=by unfold qdo;rw[quz (qo3 g.ok),qxr g];dsimp only;rw[qo0,qqr g]
def qhx {K:Ae}{c:Value}{a qbm:TH}{D:Ends}{σ:L2.St}{x C:Addr}{od:Option Addr}{H:Hp}(e:Ad K (.ref C) c=some true)(h:a D σ x C od H):hCl K c a qbm D σ x C od H:=by unfold hCl;rw[e];exact h
theorem qc8 {K:Ae}{c:Value}{a qbm:TH}{D:Ends}{σ:L2.St}{x C:Addr}{od:Option Addr}{H:Hp}(e:Ad K (.ref C) c=some false)(h:qbm D σ x C od H):hCl K c a qbm D σ x C od H:=by unfold hCl;rw[e];exact h
noncomputable def erW:Er->Str
 |.rule _=>wS "rule"
 |.term _=>wS "term"
 |.twice _=>wS "twice"
 |.unfit _=>wS "unfit"
def spTo (a:Adr):Sp:=λvs H Q _=>∃ls:List Str,vs=[.str (qco ls)]/\Lng ls/\(∀rs,qdo ls=.ok rs->(∀(os:List Nat)(t:Addr)(H':Hp),Ors (bsR rs) rs.length os->Same H H'->H' t=some (.tup [.str (wS "read"),.non,.bl true])->Q (.ref t) H')/\∀(t l:Addr)(H':Hp)(r:List Nat),Same H H'->H' t=some (.tup [.str (wS "ring"),.ref l,.bl true])->H' l=some (.lst ((r.map (nm (rs.map RR.name))).map V.str))->Rg (bo (bsR rs)) (rs.map RR.name).length r->Q (.ref t) H') /\
 ∀e,qdo ls=.error e->∀(t:Addr)(H':Hp),Same H H'->H' t=some (.tup [.str (erW e),(erF e).2,.bl true])->Q (.ref t) H'
def spRi:Sp:=λvs H Q _=>∃(ls:List Str)(e:Er),vs=[.str (qco ls),.str (erW e),(erF e).2]/\Lng ls/\qdo ls=.error e/\∀H',Same H H'->Q (.bl true) H'
noncomputable def tk:Rw7->List Str
 |.term _ _ o d y _ _=>o::(if d=true then [] else [y])
 |row=>kin row
structure Jn (rows:List Rw7)(S:List RR):Prop where
 nm:∀x,x∈S.map RR.name ↔ ∃row∈rows,isT row=true/\qaz row=x
 nd:(S.map RR.name).Nodup
 l6:S.length<=6
 hs:∀row∈rows,qaz row∈S.map RR.name
 kd:∀row∈rows,∀k∈tk row,∀s∈S,s.name=qaz row->k∈qah s
def tk_m {a:Rw7}(h:isT a=false):tk a=kin a:=by cases a <;>first|rfl|cases h
def qxt {r:RR}{a:Rw7}(h:qew r a=false):nSt [a]+stN r.still<=1:=by
 have s1:stN r.still<=1:=by cases r.still <;>simp[stN]
 cases a with
 |still x k l =>
  unfold qew qoz at h;cases e:r.still with|none=>simp[nSt,stN]|some z=>rw[e]at h;simp at h
 |_=>simp only[nSt];lia
theorem jn_step {C:List Rw7}{S D:List RR}{i:Nat}{g:Rw7}(j:Jn C S)(h:qbt S i g=.ok D):Jn (C++[g]) D:=by
 cases B:isT g with
 |true =>
  cases g with
  |term x w o d y m u =>
   have h:qei S i x w o d y m u=.ok D:=h;cases pn:qan S x with
   |some j=>rw[qht (by rw[pn];rfl)]at h;cases h
   |none =>
    by_cases c:S.length=6\/(d=false/\o=y)
    .rw[qfp pn c]at h;cases h
    .rw[qex pn c]at h;cases h;have nx:=qc7.mp pn;refine⟨λz=>?_,?_,?_,λg f=>?_,λg f k hk s hs v=>?_⟩
     .rw[Av,Az,j.nm z];constructor
      .rintro (⟨g,f,e⟩|hz)
       .exact⟨g,Bk _ f,e⟩
       .exact⟨_,AI _ (Ai.mpr Z),Z,(Ai.mp hz).symm⟩
      .rintro⟨g,f,A,t⟩;rcases Az.mp f with f|f
       .exact .inl ⟨g,f,A,t⟩
       .cases Ai.mp f;exact .inr (Ai.mpr t.symm)
     .rw[Av];refine AO.mpr ⟨j.nd,AM.mpr ⟨Aq,Dp⟩,λa F b I e=>?_⟩;cases Ai.mp I;rw[e]at F;exact nx F
     .rw[Ag];have:=j.l6;show _+1<=6;lia
     .rw[Av];rcases Az.mp f with f|f
      .exact Bk _ (j.hs _ f)
      .cases Ai.mp f;exact AI _ (Ai.mpr Z)
     .rcases Az.mp f with f|f
      .rcases Az.mp hs with hs|hs
       .exact j.kd g f k hk s hs v
       .cases Ai.mp hs;exact absurd (by rw[show x=qaz g from v];exact j.hs _ f) nx
      .cases Ai.mp f;rcases Az.mp hs with hs|hs
       .exact absurd (by rw[show x=s.name from v.symm];exact Di hs) nx
       .cases Ai.mp hs;unfold tk at hk;rcases An.mp hk with rfl|hk
        .unfold qah qhr;simp
        .cases d with
         |true=>simp at hk
         |false=>simp at hk;subst hk;unfold qah qhr;simp
  |_=>cases B
 |false =>
  rw[qd8 B]at h;cases pn:qan S (qaz g) with
  |none=>rw[qgb pn]at h;cases h
  |some q =>
   obtain⟨r,f,v⟩:=qa4 pn;cases u:qew r g with
   |true=>rw[qgc pn f u]at h;cases h
   |false =>
    rw[qey pn f u]at h;cases h;have G:=qki r B (qxt u);have p:(S.set q (qcj r g)).map RR.name=S.map RR.name:=qfb f (qe5 r g);have inr:qaz g∈S.map RR.name:=by rw[<- v];exact Di (At f)
    refine⟨λz=>?_,by rw[p];exact j.nd,by rw[C7];exact j.l6,λn l=>?_,λn l k hk s hs t=>?_⟩
    .rw[p,j.nm z];constructor
     .rintro⟨g,f,e⟩;exact⟨g,Bk _ f,e⟩
     .rintro⟨n,f,A,t⟩;rcases Az.mp f with f|f
      .exact⟨n,f,A,t⟩
      .cases Ai.mp f;rw[B]at A;cases A
    .rw[p];rcases Az.mp l with l|l
     .exact j.hs _ l
     .cases Ai.mp l;exact inr
    .rcases Az.mp l with l|l
     .rcases BH hs with hs|rfl
      .exact j.kd n l k hk s hs t
      .exact G.mem_iff.mpr (Bk _ (j.kd n l k hk r (At f) (by rw[<- t,qe5])))
     .cases Ai.mp l;rw[tk_m B]at hk;obtain⟨i,E⟩:=AL hs;have H:=qef (by rw[p];exact j.nd) E;rw[qc0 s.name p,t,pn]at H;cases H;rw[Cj (Ah.mp f).1]at E;cases E;exact G.mem_iff.mpr (AI _ hk)
theorem qr3:∀{b a:List Rw7}{S0 S:List RR}{i:Nat},Jn a S0->qai S0 i (b.map some)=.ok S->Jn (a++b) S
 | [],a,S0,S,i,j,h=>by cases h;rw[Bm];exact j
 |row::b,a,S0,S,i,j,h=>by
  rw[A6,qbg]at h;by_cases c:i=40
  .rw[if_pos c]at h;cases h
  .rw[if_neg c]at h;dsimp only at h;cases e:qbt S0 i row with|error er=>rw[e]at h;cases h|ok S1 =>rw[e]at h;have:=qr3 (jn_step j e) h;rw[AE]at this;exact this
def qxu:Jn [] []:=⟨λx=>⟨(λh=>nomatch h),(λ⟨_,h,_⟩=>nomatch h)⟩,Dp,Ez,(λ_ h=>nomatch h),(λ_ h=>nomatch h)⟩
noncomputable def hd (rs:List RR)(k:Nat):Nat:=(qak (rs.take k)).length
def hd_le {rs:List RR}{j k:Nat}(h:j<=k):hd rs j<=hd rs k:=by unfold hd qak;obtain⟨d,rfl⟩:∃d,k=j+d:=⟨k-j,by lia⟩;rw[List.take_add,Bc,Ag];lia
section
variable {rs:List RR}(g:GT rs){n:Nat}(hn:n<=(qak rs).length)
include g hn
end
theorem qhy:∀l:List RR,(qak l).length=(l.map exR).sum+l.length:=by
 intro l
 induction l with
 |nil=>rfl
 |cons r l ih =>
  have:qak (r::l)=qck r++qak l:=Bt;rw[this,Ag,ih,A6,DL,Au,qfc,Au];have:(qcq r).length=exR r:=by
   unfold qcq exR;simp only[Ag,Ac];have:(qdx r.name r.still).length=stN r.still:=by cases r.still <;>rfl
   lia
  lia
def qqs {a:List Str}(h:Lng a):JoinOk (wS "\n") a=true/\Txt.join (wS "\n") a=qco a:=by
 constructor
 .unfold JoinOk;rw[StrLaws.joinFits (B:=200) (λp b=>(h.c p b).1) (by have:=h.n;rw[show (wS "\n").length=1 by decide +kernel];show a.length*200+a.length*1<=16777216;lia)];rfl
 .show AH.Str.glued _ _=_;rw[Eh,newl];rfl
theorem qn5 {a:List Rw7}(h:∀b∈a,qc6 b)(n:a.length<=100):Lng (a.map qaw):=by
 refine⟨by rw[Ac];exact n,λl hl=>?_,λe=>?_⟩
 .obtain⟨b,c,rfl⟩:=AS.mp hl;have:=qjm (h b c);exact⟨by lia,this.2.1⟩
 .cases a with
  |nil=>cases e
  |cons r t =>rw[A6]at e;injection e with e1 _;have:=(qjm (h r Am)).2.2;rw[e1]at this;exact this En
def spNm9:Sp:=λvs H Q _=>∃x:Str,vs=[.str x]/\x.length<=2000/\Q (.bl (nmB x)) H
def spWt9:Sp:=λvs H Q _=>∃(x:Str)(m:Nat),vs=[.str x,.int (m:Int)]/\(m=40\/m=20\/m=3)/\∀H',Same H H'->Q (.bl (due x (m:Int))) H'
def spGd9:Sp:=λvs H Q _=>∃(p:Addr)(ws:List Str),vs=[.ref p]/\H p=some (.lst (ws.map V.str))/\ws≠[]/\ws.length<=1000/\(∀x∈ws,x.length<=2000)/\∀H',Same H H'->Q (.bl (qc5 ws).isSome) H'
def OkW (b:Nat)(z:Str):Prop:=z.cps.size<=b/\10∉z.cps.toList
noncomputable def qr4 (c d:Nat):Str:=⟨#[48+c,48+d]⟩
noncomputable def qr5 (c:Nat):Str:=⟨#[48+c]⟩
noncomputable def qc1 (m:Nat):List Str:=(B4 m).map λi:Nat=>nS (1+(i:Int))
def qxv:∀c d:Fin 10,(qc1 40).contains (qr4 c.val d.val)=due (qr4 c.val d.val) 40/\(qc1 20).contains (qr4 c.val d.val)=due (qr4 c.val d.val) 20/\(qc1 3).contains (qr4 c.val d.val)=due (qr4 c.val d.val) 3:=En
def qxw:∀c:Fin 10,(qc1 40).contains (qr5 c.val)=due (qr5 c.val) 40/\(qc1 20).contains (qr5 c.val)=due (qr5 c.val) 20/\(qc1 3).contains (qr5 c.val)=due (qr5 c.val) 3:=En
def qo4:((qc1 40).all λx=>decide (x.cps.size=1\/x.cps.size=2) && x.cps.toList.all fig)=true/\((qc1 20).all λx=>(qc1 40).contains x)=true/\((qc1 3).all λx=>(qc1 40).contains x)=true:=En
def qxx {x:Str}{m:Int}(h:due x m=true)(hm:((ts m).length:Int)<=2):(x.cps.size=1\/x.cps.size=2)/\x.cps.toList.all fig=true:=by unfold due wnm at h;simp only[AD,decide_eq_true_eq]at h;obtain⟨⟨⟨h1,h2⟩,a,_⟩,_⟩:=h;exact⟨by lia,a⟩
def num_in (x:Str){m:Nat}(f:m=40\/m=20\/m=3):(qc1 m).contains x=due x (m:Int):=by
 by_cases c:(x.cps.size=1\/x.cps.size=2)/\x.cps.toList.all fig=true
 .obtain⟨a,j⟩:=c;have g:∀n∈x.cps.toList,48<=n/\n<=57:=λn i=>by have:=Be.mp j n i;unfold fig at this;simpa using this
  rw[<- A7]at a;rcases a with a|a
  .obtain⟨n,b⟩:=List.length_eq_one_iff.mp a;have:=g n (by rw[b];exact Ai.mpr Z);have ex:x=qr5 (n-48):=str_ext (by rw[b];show [n]=[48+(n-48)];rw[show 48+(n-48)=n by lia]);have h:=qxw ⟨n-48,by lia⟩;rw[ex];rcases f with rfl|rfl|rfl
   .exact h.1
   .exact h.2.1
   .exact h.2.2
  .obtain⟨n,n',b⟩:∃n n',x.cps.toList=[n,n']:=by
    match h:x.cps.toList,a with
    | [n,n'],_=>exact⟨n,n',Z⟩
   have h1:=g n (by rw[b];exact Am)
   have h2:=g n' (by rw[b];exact Ar _ (Ai.mpr Z))
   have ex:x=qr4 (n-48) (n'-48):=str_ext (by rw[b];show [n,n']=[48+(n-48),48+(n'-48)];rw[show 48+(n-48)=n by lia,show 48+(n'-48)=n' by lia])
   have h:=qxv ⟨n-48,by lia⟩ ⟨n'-48,by lia⟩
   rw[ex]
   rcases f with rfl|rfl|rfl
   .exact h.1
   .exact h.2.1
   .exact h.2.2
 .have k:due x (m:Int)=false:=by
   cases e:due x (m:Int) with|false=>rfl|true=>exact absurd (qxx e (by rcases f with rfl|rfl|rfl <;>decide +kernel)) c
  have d:(qc1 40).contains x=false:=by
   cases e:(qc1 40).contains x with|false=>rfl|true =>have:=Be.mp qo4.1 x (AY.mp e);simp only[AD,decide_eq_true_eq]at this;exact absurd this c
  rw[k]
  rcases f with rfl|rfl|rfl
  .exact d
  .cases e:(qc1 20).contains x with
   |false=>rfl
   |true=>rw[Be.mp qo4.2.1 x (AY.mp e)]at d;cases d
  .cases e:(qc1 3).contains x with
   |false=>rfl
   |true=>rw[Be.mp qo4.2.2 x (AY.mp e)]at d;cases d
def not_az9 (c:Nat):(!(!(AH.Str.occurrences az ⟨#[c]⟩ 0 az.length 1).isEmpty)) = !low c:=by
 rw[PyProof.Rows.empty_one az c,qs7,Bool.not_not];have e:(c∈(B4 26).map (λj=>97+j))↔(97<=c/\c<=122):=by
  constructor
  .intro h;obtain⟨j,a,rfl⟩:=AS.mp h;have:=Dj.mp a;lia
  .intro h;exact AS.mpr ⟨c-97,Dj.mpr (by lia),by lia⟩
 unfold low;rw[<- Bool.decide_and,decide_eq_decide.mpr e]
noncomputable def strV:V->V
 |.int j=>.str (nS j)
 |_=>.non
noncomputable def nmV9:V->V
 |.str x=>.bl (nmB x)
 |_=>.non
def qxy {p G:Hp->Prop}{R:Prop}(m:(∀x,p x->G x)->R)(l:∀x,p x->G x):R:=m l
def useGd {p G:Hp->Option V->Prop}{R:Prop}(m:(∀x y,p x y->G x y)->R)(l:∀x y,p x y->G x y):R:=m l
def qxz {ws:List Str}(h:ws.length≠10/\ws.length≠3/\ws.length≠6/\ws.length≠4):qc5 ws=none:=by
 have:=qee h;rw[qxh]at this;cases e:qc5 ws with|none=>rfl|some r=>rw[e]at this;cases this
theorem ten {ws:List Str}(h:ws.length=10):∃a b c d e f g i j k,ws=[a,b,c,d,e,f,g,i,j,k]:=by
 match ws,h with
 | [a,b,c,d,e,f,g,i,j,k],_=>exact⟨a,b,c,d,e,f,g,i,j,k,Z⟩
theorem six {ws:List Str}(h:ws.length=6):∃a b c d e f,ws=[a,b,c,d,e,f]:=by
 match ws,h with
 | [a,b,c,d,e,f],_=>exact⟨a,b,c,d,e,f,Z⟩
theorem four {ws:List Str}(h:ws.length=4):∃a b c d,ws=[a,b,c,d]:=by
 match ws,h with
 | [a,b,c,d],_=>exact⟨a,b,c,d,Z⟩
theorem three {ws:List Str}(h:ws.length=3):∃a b c,ws=[a,b,c]:=by
 match ws,h with
 | [a,b,c],_=>exact⟨a,b,c,Z⟩
def qo5 {α:Type}{c:Prop}[Decidable c](x:α):(if c then some x else none).isSome=decide c:=by by_cases h:c <;>simp[h]
def qr6 {ws h:List Str}{f:Str}(e:ws=f::h)(i:f=wS "still")(g:ws.length=4):(qc5 ws).isSome=(ws.drop 1).all nmB:=by obtain⟨a,b,c,d,rfl⟩:=four g;injection e with e1 _;subst e1 i;rw[qkg,qo5];simp[C3,and_assoc]
def qid {ws s:List Str}{h:Str}(e:ws=h::s)(q:¬(h=wS "term" /\ ws.length=10))(t:¬(h=wS "longer" /\ ws.length=6))(r:¬(h=wS "still" /\ ws.length=4))(m:¬((h=wS "ends" \/ h=wS "anew" \/ h=wS "yields")/\ws.length=3)):(qc5 ws).isSome=false:=by
 by_cases l:ws.length=10
 .obtain⟨a,b,c,d,u,f,g,i,j,k,rfl⟩:=ten l;injection e with e1 _;subst e1;rw[qib,if_neg (λz=>q ⟨z.1,Z⟩)];rfl
 by_cases o:ws.length=6
 .obtain⟨a,b,c,d,u,f,rfl⟩:=six o;injection e with e1 _;subst e1;rw[qkf,if_neg (λz=>t ⟨z.1,Z⟩)];rfl
 by_cases p:ws.length=4
 .obtain⟨a,b,c,d,rfl⟩:=four p;injection e with e1 _;subst e1;rw[qkg,if_neg (λz=>r ⟨z.1,Z⟩)];rfl
 by_cases n:ws.length=3
 .obtain⟨a,b,c,rfl⟩:=three n;injection e with e1 _;subst e1;rw[qhq];split
  .rw[if_neg (λz=>m ⟨.inl z,Z⟩),if_neg (λz=>m ⟨.inr (.inl z),Z⟩),if_neg (λz=>m ⟨.inr (.inr z),Z⟩)];rfl
  .rfl
 rw[qxz ⟨l,n,o,p⟩];rfl
def qmn {ws k:List Str}{d:Str}(e:ws=d::k)(l:d=wS "ends" \/ d=wS "anew" \/ d=wS "yields")(j:ws.length=3):(qc5 ws).isSome=(ws.drop 1).all nmB:=by
 obtain⟨a,b,c,rfl⟩:=three j;injection e with e1 _;subst e1;rw[qhq];have:(if a=wS "ends" then some (Rw7.ends b c) else if a=wS "anew" then some (.anew b c) else if a=wS "yields" then some (.yields b c) else none).isSome=true:=by
  by_cases g:a=wS "ends"
  .rw[if_pos g];rfl
  .rw[if_neg g];by_cases f:a=wS "anew"
   .rw[if_pos f];rfl
   .rw[if_neg f];rcases l with z|z|z
    .exact absurd z g
    .exact absurd z f
    .rw[if_pos z];rfl
 by_cases z:nmB b=true/\nmB c=true
 .rw[if_pos z,this];simp[z.1,z.2]
 .rw[if_neg z];symm;show ([b,c].all nmB)=false;cases h:nmB b with
  |false=>simp[h]
  |true =>
   cases i:nmB c with|false=>simp[h,i]|true=>exact absurd ⟨h,i⟩ z
def qu0 {b:Bool}(h:(!b)=true):b=false:=by cases b <;>simp_all
def qu1 {b:Bool}(h:¬(!b)=true):b=true:=by cases b <;>simp_all
def nd_t {x y:Str}(h:(!decide (V.str x=V.str y))=true):¬x=y:=λz=>by rw[z]at h;simp at h
def nd_f {x y:Str}(h:¬(!decide (V.str x=V.str y))=true):x=y:=by
 by_cases z:x=y
 .exact z
 .rw[decide_eq_false (λq=>z (V.str.inj q))]at h;exact absurd rfl h
def inL2 {d a b:Str}:inV (.str d) ([a,b].map V.str)=decide (d=a\/d=b):=by rw[qbp,List.contains_eq_mem];simp only[An,Aq,or_false]
def eq2S (a b c d:Str):qhb [V.str a,V.str b] [V.str c,V.str d]=decide (a=c/\b=d):=by show (decide (a=c) && (decide (b=d) && true))=_;rw[Bool.and_true,<- Bool.decide_and]
def qqt {ws j:List Str}{g a b c d e f:Str}(h:ws=g::j)(k:g=wS "longer")(i:ws=[a,b,c,d,e,f]):(qc5 ws).isSome=(due d 20 && decide (e=wS "times") && due f 3 && [b,c].all nmB):=by subst i;injection h with e1 _;subst e1 k;rw[qkf,qo5];simp only[true_and,C3,List.all_nil,Bool.and_true,Bool.decide_and,Bool.decide_eq_true];cases due d 20 <;>cases due f 3 <;>cases nmB b <;>cases nmB c <;>simp
def qu2 {ws h:List Str}{e a x b w c o d y m u:Str}(f:ws=e::h)(i:e=wS "term")(g:ws=[a,x,b,w,c,o,d,y,m,u]):(qc5 ws).isSome=(decide (b=wS "of" /\ c=wS "due") && decide (d=wS "from" \/ d=wS "behind") && due m 40 && qbu.contains u && [x,w,o,y].all nmB):=by subst g;injection f with e1 _;subst e1 i;rw[qib,qo5];simp only[true_and,C3,List.all_nil,Bool.and_true,Bool.decide_and,Bool.decide_eq_true];cases due m 40 <;>cases qbu.contains u <;>cases nmB x <;>cases nmB w <;>cases nmB o <;>cases nmB y <;>simp[Bool.and_assoc]
def qe6 (z:List Rw7):(qbc z).length=z.length:=by unfold qbc;rw[Ac,Ac]
def spRuO (a:Adr):Sp:=λvs H Q E=>∃(x:Addr)(rs:List RR)(As:List RA)(os:List Nat)(y:Str),vs=[.ref x,.str y]/\BkAt a H x rs As os/\(∀(j:Nat)(A:RA),qan rs y=some j->As[j]?=some A->Q (.ref A.p) H)/\(qan rs y=none->OutE a (.term y) H E)
def alg {H a:Hp}{p:Addr}{o:HO}(h:upd H p o=a)(n:H p=none):Same H a/\a p=some o:=by subst h;exact⟨zc n,qi⟩
theorem qx0:∀{rs:List RR}{As:List RA}{i:Nat}{a:Key×V},(dcR rs As)[i]?=some a->∃r A,rs[i]?=some r/\As[i]?=some A/\a.2=.ref A.p
 |r::rs,A::As,0,a,h=>by cases h;exact⟨r,A,Z,Z,Z⟩
 |r::rs,A::As,i+1,a,h=>qx0 (rs:=rs) (As:=As) h
 | [],_,_,_,h=>by cases h
 |_::_,[],_,_,h=>by cases h
def spTrs (a:Adr):Sp:=λvs H Q _=>∃(A:RA)(r:RR),vs=[.ref A.p]/\RuX a.k8 H A r/\RrOk r/\∀H',Same H H'->Q (.str (qaw (qbl r))) H'
def spRsh (a:Adr):Sp:=λvs H Q _=>∃(A:RA)(r:RR),vs=[.ref A.p]/\RuX a.k8 H A r/\RrOk r/\∀(q:Addr)(H':Hp),H q=none->Same H H'->H' q=some (.lst (qbc (qck r)))->Q (.ref q) H'
def spShw (a:Adr):Sp:=λvs H Q _=>∃(x:Addr)(rs:List RR)(As:List RA)(os:List Nat),vs=[.ref x]/\BkAt a H x rs As os/\(∀r∈rs,RrOk r)/\(qak rs).length<=100/\∀H',Same H H'->Q (.str (qco ((qak rs).map qaw))) H'
def qn6 (r:RR)(h:RrOk r):∀y∈r.ends++r.anew++r.yields,qb1 y:=λy a=>by
 obtain⟨_,c,b,_⟩:=h.kin;rcases Az.mp a with q|q
 .rcases Az.mp q with q|q
  .exact c y q
  .exact b y q
 .exact h.yl y q
def gk_tup3 {K:Ae}{i j k:Nat}:∀(x:V)(σ':L2.St)(H':Hp)(R a:L2.St->Hp->Prop),(∀σ3 H3,R σ3 H3->a σ3 H3)->qto K 3 (qld (qf4 i) (qld (qf4 j) (qld (qf4 k) gNil))) x σ' H' R->qto K 3 (qld (qf4 i) (qld (qf4 j) (qld (qf4 k) gNil))) x σ' H' a:=qwm λxs σ' H' R a h z=>by obtain⟨d,b,e,g,f,c,n,m,o,l,z⟩:=z;exact⟨d,b,e,g,f,c,n,m,o,l,h _ _ z⟩
def qtg {p G:Hp->Option V->Prop}{R:Prop}(m:(∀x a,p x a->G x a)->R)(l:∀x a,p x a->G x a):R:=m l
def joinW {a:Rw7}(h:qc6 a)(hl:(qat a).length<=10):JoinOk (wS " ") (qat a)=true/\Txt.join (wS " ") (qat a)=qaw a:=by
 constructor
 .unfold JoinOk;rw[StrLaws.joinFits (B:=200) (λp b=>A3 (qjl h p b).2 Ez) (by rw[show (wS " ").length=1 by decide +kernel];show (qat a).length*200+(qat a).length*1<=16777216;lia)];rfl
 .show AH.Str.glued _ _=_;rw[Eh,qkm];rfl
def qk9 (x:Str):CF++x=x:=str_ext (by rw[qdv];rfl)
def qx1 {r:RR}(h:RrOk r):qc6 (qbl r):=qo3 (rs:=[r]) (λz hz=>by rw[Ai.mp hz];exact h) _ (B0.mpr ⟨r,Ai.mpr Z,by rw[qfc];exact Am⟩)
theorem qx2 {r:RR}(h:RrOk r):∃(d:Bool)(y:Str),qbl r=.term r.name r.who r.owes d y r.many r.unit/\((r.base=none/\d=false/\r.opens=some y)\/(r.base=some y/\d=true)):=by
 unfold qbl;cases e:r.base with
 |some y=>exact⟨true,y,Z,.inr ⟨Z,Z⟩⟩
 |none =>obtain⟨o,a⟩:=h.bo e;exact⟨false,o,by rw[a];rfl,.inl ⟨Z,Z,a⟩⟩
noncomputable def qgf (rs:List RR):List Str:=rs.flatMap qah
def spActK (a:Adr):Sp:=λvs H Q _=>∃(x:Addr)(rs:List RR)(As:List RA)(os:List Nat),vs=[.ref x]/\BkAt a H x rs As os/\Bn 100 rs/\(Sts.onceL (qgf rs)).length≠1/\(Sts.onceL (qgf rs)).length<64/\∀(q:Addr)(H':Hp)(ss:List Str),H q=none->Same H H'->ss.Perm (Sts.onceL (qgf rs))->ss.Pairwise leS->H' q=some (.lst (ss.map V.str))->Q (.ref q) H'
def qx3 {r:RR}{n:Nat}(h:r.ends.length<=n/\r.anew.length<=n/\r.longer.length<=n/\r.yields.length<=n):(qah r).length<=3*n+4:=by
 have h1:r.opens.toList.length<=1:=by cases r.opens <;>simp
 have h2:(stL r.still).length<=2:=by cases r.still <;>simp[stL]
 unfold qah;simp only[Ag,Ac,AU];lia
theorem tups_of {H J:Hp}{us:List V}{ts:List (List V)}(h:Tups H us ts)(k:∀b t,H b=some (.tup t)->J b=some (.tup t)):Tups J us ts:=by
 induction h with
 |nil=>exact .nil
 |cons h _ ih=>exact .cons (k _ _ h) ih
def qn7 {rs:List RR}{i:Nat}{r:RR}(h:rs[i]?=some r):qgf (rs.take (i+1))=qgf (rs.take i)++qah r:=by unfold qgf;rw[CV,h,Bc];simp[Bt]
theorem qjq {rs:List RR}{n:Nat}(h:Bn n rs):(qgf rs).length<=rs.length*(3*n+4):=by
 induction rs with
 |nil=>exact B7 _
 |cons r rs ih =>have:=ih λq a=>h q (Ar _ a);have h1:=qx3 (h r Am);show (qah r++qgf rs).length<=(rs.length+1)*_;rw[Ag,Nat.add_mul];lia
def spKin2:Sp:=λvs H Q _=>∃(p:Addr)(r:RR),vs=[.ref p]/\LR H p r/\r.ends.length<=1000/\r.anew.length<=1000/\r.longer.length<=1000/\∀(q:Addr)(H':Hp),H q=none->Same H H'->H' q=some (.lst ((qah r).map V.str))->Q (.ref q) H'
def spKp2:Sp:=λvs H Q _=>∃(p:Addr)(c:Int)(ws:List Str),vs=[.ref p,.int c]/\H p=some (.lst (ws.map V.str))/\ws.Nodup/\(∀x∈ws,qb1 x)/\ws.length<=100/\∀(q:Addr)(H':Hp)(ws':List Str),Same H H'->H' q=some (.lst (ws'.map V.str))->ws'.length=ws.length->ws'.Nodup->(∀x∈ws',qb1 x)->Q (.ref q) H'
noncomputable def qjr:List Str:=[wS "term",wS "of",wS "due",wS "from",wS "behind",wS "times",wS "days",wS "weeks",wS "court",wS "ends",wS "anew",wS "longer",wS "still",wS "yields"]
def qx4:∀x∈qjr,qb1 x:=by
 intro x hx;apply qbb.mp
 revert x
 decide +kernel
structure WsOk (n:Nat)(ws:List Str):Prop where
 l:ws.length=n
 nd:ws.Nodup
 ok:∀x∈ws,qb1 x
def WsOk.put {n:Nat}{ws:List Str}(h:WsOk n ws){i:Nat}(g:i<ws.length){x:Str}(d:x∉ws)(ox:qb1 x):WsOk n (ws.take i++[x]++ws.drop (i+1)):=by
 have nd:=h.nd;rw[<- C1 i ws,Cy g]at nd;obtain⟨a,b,c⟩:=AO.mp nd;obtain⟨b1,j⟩:=AM.mp b;refine⟨?_,?_,λz hz=>?_⟩
 .rw[Ag,Ag,AZ,BN,AU,<- h.l];lia
 .rw[AE];refine AO.mpr ⟨a,AM.mpr ⟨λz=>d (Cr z),j⟩,λy f z hz e=>?_⟩;rcases An.mp hz with q|q
  .exact d (by rw[<- q,<- e];exact CW f)
  .exact c y f z (Ar _ q) e
 .rcases Az.mp hz with q|q
  .rcases Az.mp q with q|q
   .exact h.ok z (CW q)
   .rw[Ai.mp q];exact ox
  .exact h.ok z (Cr q)
def qap {a b:Nat}{x y:Str}(c:OkW a x)(d:OkW b y):OkW (a+b) (x++y):=by
 refine⟨?_,λh=>?_⟩
 .have:=qay x y;exact A3 (BW this) (Nat.add_le_add c.1 d.1)
 .rw[qdv]at h;exact(Az.mp h).elim c.2 d.2
def qgx {x:Str}(h:qb1 x):OkW 8 x:=⟨(qdi h).2,(qdi h).1 10 (.inr Z)⟩
def qeo {a b:Nat}{x:Str}(h:OkW a x)(l:a<=b):OkW b x:=⟨A3 h.1 l,h.2⟩
instance {b:Nat} {x:Str}:Decidable (OkW b x):=by unfold OkW;exact inferInstance
def qr7 {m:Int}(a:1<=m)(b:m<=40):OkW 2 (nS m):=⟨(qge a b).2.2.2.1,(qge a b).2.2.1 10 (.inr Z)⟩
def pk9 {xs:List Str}{n:Nat}(c:Int)(l:n<=xs.length)(h:0<n):∃z∈xs,atI (xs.map V.str) (c % (n:Int))=some (.str z):=by
 obtain⟨j,e,a⟩:=md c n h;have a:j<xs.length:=by lia
 exact⟨xs[j],By a,by rw[e];exact qbh (by rw[Ak,Al a];rfl)⟩
def pn9 {xs:List Str}{j:Nat}(h:j<xs.length):∃z∈xs,atI (xs.map V.str) (j:Int)=some (.str z):=⟨xs[j],By h,qbh (by rw[Ak,Al h];rfl)⟩
def ow_at (c:Int):∃o:Nat,o<3/\atI [V.int 0,V.int 0,V.int 0,V.int 0,V.int 0,V.int 0,V.int 1,V.int 2] (c % 8)=some (.int (o:Int)):=by
 obtain⟨j,e,hj⟩:=md c 8 Ez;rw[show (8:Int)=((8:Nat):Int) from Z,e];rcases (by lia:j=0\/j=1\/j=2\/j=3\/j=4\/j=5\/j=6\/j=7) with rfl|rfl|rfl|rfl|rfl|rfl|rfl|rfl
 .exact⟨0,Ez,Z⟩
 .exact⟨0,Ez,Z⟩
 .exact⟨0,Ez,Z⟩
 .exact⟨0,Ez,Z⟩
 .exact⟨0,Ez,Z⟩
 .exact⟨0,Ez,Z⟩
 .exact⟨1,Ez,Z⟩
 .exact⟨2,Ez,Z⟩
def odd3 (c:Int):∃s:Str,OkW 2 s/\atI [V.str (Aa "0"),V.str (Aa "41"),V.str (Aa "05")] (c % 3)=some (.str s):=by
 obtain⟨j,e,hj⟩:=md c 3 Ez;rw[show (3:Int)=((3:Nat):Int) from Z,e];rcases (by lia:j=0\/j=1\/j=2) with rfl|rfl|rfl
 .exact⟨_,En,Z⟩
 .exact⟨_,En,Z⟩
 .exact⟨_,En,Z⟩
def useV2 {p G:Option V->Option V->Prop}{R:Prop}(m:(∀x y,p x y->G x y)->R)(l:∀x y,p x y->G x y):R:=m l
def LX (H:Hp)(A:RA)(r:RR):Prop:=∃sv us,LR1 H A.p r A.pe A.pa A.pl A.py sv us
def LX.lr {H:Hp}{A:RA}{r:RR}(h:LX H A r):LR H A.p r:=by obtain⟨a,us,h⟩:=h;exact⟨_,_,_,_,a,us,h⟩
def LX.keep {S:List Addr}{H H':Hp}{A:RA}{r:RR}(h:LX H A r)(k:KeepT S H H')(n:∀z∈own A,z∉S):LX H' A r:=by obtain⟨v,us,h⟩:=h;exact⟨v,us,k _ _ (.inl (n _ (by simp[own]))) h.hq,k _ _ (.inl (n _ (by simp[own]))) h.he,k _ _ (.inl (n _ (by simp[own]))) h.ha,k _ _ (.inl (n _ (by simp[own]))) h.hl,qb8 h.tl k,h.hs.keep k,k _ _ (.inl (n _ (by simp[own]))) h.hy⟩
def LX.same {H H':Hp}{A:RA}{r:RR}(h:LX H A r)(s:Same H H'):LX H' A r:=h.keep (S:=[]) (KeepT.of s) (λ_ _=>Aq)
structure St9 (H:Hp)(d:Addr)(rs:List RR)(As:List RA):Prop where
 hd:H d=some (.lst (As.map λA=>.ref A.p))
 ln:As.length=rs.length
 nd:(d::As.flatMap own).Nodup
 nn:(rs.map RR.name).Nodup
 ru:∀(i:Nat)(r:RR)(A:RA),rs[i]?=some r->As[i]?=some A->LX H A r
def St9.same {H H':Hp}{d:Addr}{rs:List RR}{As:List RA}(s:St9 H d rs As)(z:Same H H'):St9 H' d rs As:=⟨z _ _ s.hd,s.ln,s.nd,s.nn,λi r A a b=>(s.ru i r A a b).same z⟩
def St9.chg {H H':Hp}{d:Addr}{rs:List RR}{As:List RA}{j:Nat}{r r':RR}{A:RA}(s:St9 H d rs As)(h:rs[j]?=some r)(f:As[j]?=some A)(k:KeepT (own A) H H')(x:LX H' A r')(m:r'.name=r.name):St9 H' d (rs.set j r') As:=by
 have nd:=AM.mp s.nd;have mem:∀z∈own A,z∈As.flatMap own:=λz hz=>B0.mpr ⟨A,At f,hz⟩;refine⟨?_,by rw[C7];exact s.ln,s.nd,?_,λi l B a b=>?_⟩
 .exact k _ _ (.inl λz=>nd.1 (mem _ z)) s.hd
 .have e:(rs.set j r').map RR.name=rs.map RR.name:=by
   rw[List.map_set,m]
   apply Bz
   intro i
   rw[Cn,Ak]
   by_cases c:j=i
   .subst c;rw[if_pos Z,h,if_pos (by rw[Ac];exact(Ah.mp h).1)];rfl
   .rw[if_neg c]
  rw[e];exact s.nn
 .rw[Cn]at a;by_cases c:j=i
  .subst c;rw[if_pos Z]at a;split at a
   .cases a;rw[f]at b;cases b;exact x
   .cases a
  .rw[if_neg c]at a;exact(s.ru i l B a b).keep k λz hz g=>qxi nd.2 b f (Ba c) hz g
def St9.snoc {H H':Hp}{d:Addr}{rs:List RR}{As:List RA}{r:RR}{A:RA}(s:St9 H d rs As)(k:KeepT [d] H H')(hd:H' d=some (.lst ((As.map λA=>V.ref A.p)++[V.ref A.p])))(x:LX H' A r)(nm:qan rs r.name=none)(nd:(own A).Nodup)(n:∀z∈own A,z≠d/\z∉As.flatMap own):St9 H' d (rs++[r]) (As++[A]):=by
 have l:=AM.mp s.nd;refine⟨by rw[Av];exact hd,by rw[Ag,Ag,s.ln];rfl,?_,?_,λi o B g f=>?_⟩
 .rw[Bc,AM,Az,AO];have e:[A].flatMap own=own A:=by simp
  rw[e];exact⟨λz=>z.elim l.1 λq=>(n d q).1 Z,l.2,nd,λa h b j q=>(n b j).2 (q ▸ h)⟩
 .rw[Av,AO];exact⟨s.nn,by simp,λa h b j q=>qc7.mp nm (by rw[<- Ai.mp j,<- q];exact h)⟩
 .by_cases c:i<rs.length
  .rw[AT c]at g;rw[AT (by rw[s.ln];exact c)]at f;refine(s.ru i o B g f).keep k λz hz m=>l.1 ?_;rw[<- Ai.mp m];exact B0.mpr ⟨B,At f,hz⟩
  .rw[AN (by lia)]at g;rw[AN (by rw[s.ln];lia),s.ln]at f;have l1:i-rs.length<1:=(Ah.mp g).1;rw[show i-rs.length=0 by lia]at g f;cases g;cases f;exact x
def St9.inn {H:Hp}{d:Addr}{rs:List RR}{As:List RA}(st:St9 H d rs As):∀z∈d::As.flatMap own,H z≠none:=λz hz e=>by
 rcases An.mp hz with rfl|hz
 .rw[st.hd]at e;cases e
 .obtain⟨h,g,c⟩:=B0.mp hz;obtain⟨f,b⟩:=AL g;have i:f<rs.length:=by rw[<- st.ln];exact(Ah.mp b).1
  obtain⟨v',us',a⟩:=st.ru f _ h (Al i) b;simp only[own,An,Aq,or_false]at c;rcases c with rfl|rfl|rfl|rfl|rfl
  .rw[a.hq]at e;cases e
  .rw[a.he]at e;cases e
  .rw[a.ha]at e;cases e
  .rw[a.hl]at e;cases e
  .rw[a.hy]at e;cases e
def spOf9:Sp:=λvs H Q _=>∃(d:Addr)(x:Str)(rs:List RR)(As:List RA),vs=[.ref d,.str x]/\St9 H d rs As/\(∀(j:Nat)(A:RA),qan rs x=some j->As[j]?=some A->Q (.ref A.p) H)/\(qan rs x=none->Q .non H)
def spTr49:Sp:=λvs H Q _=>∃(pc pn pk:Addr)(x:Str)(m:Nat)(c0 c1 c2:Int)(names kinds:List Str),vs=[.ref pc,.str x,.ref pn,.ref pk,.int (m:Int)]/\H pc=some (.lst [.int c0,.int c1,.int c2])/\H pn=some (.lst (names.map V.str))/\H pk=some (.lst (kinds.map V.str))/\WsOk 4 names/\WsOk 26 kinds/\qb1 x/\1<=m/\m<=4/\∀(s:Str)(H':Hp),Same H H'->OkW 100 s->Q (.str s) H'
def spRw49 (K:Ae):Sp:=λvs H Q _=>∃(l pn pk:Addr)(k:Nat)(ns:List Int)(names kinds:List Str),vs=[.ref l,.int (k:Int),.ref pn,.ref pk]/\SqL K H l (ns.map V.int)/\k<=100/\H pn=some (.lst (names.map V.str))/\H pk=some (.lst (kinds.map V.str))/\WsOk 4 names/\WsOk 26 kinds/\∀(s:Str)(H':Hp),Same H H'->OkW 100 s->Q (.str s) H'
def useP {p G R:Prop}(m:(p->G)->R)(l:p->G):R:=m l
theorem row_ok:∀{ws:List Str}{e:Rw7},qc5 ws=some e->qc6 e:=by
 have f:∀{x:Str}{m:Int},due x m=true->1<=nv x/\nv x<=m:=λh=>by unfold due at h;simp only[AD,decide_eq_true_eq]at h;exact h.2
 have un:∀{u:Str},qbu.contains u=true->u∈qbu:=λh=>AY.mp h;intro ws e h
 match ws,h with
 | [a,x,b,w,c,o,d,y,m,u],h =>
  rw[qib]at h;split at h
  .rename_i z;cases h;exact⟨qbb.mp z.2.1,qbb.mp z.2.2.2.1,qbb.mp z.2.2.2.2.2.1,qbb.mp z.2.2.2.2.2.2.2.1,f z.2.2.2.2.2.2.2.2.1,un z.2.2.2.2.2.2.2.2.2⟩
  .cases h
 | [a,x,k],h =>
  rw[qhq]at h;split at h
  .rename_i z;split at h
   .cases h;exact⟨qbb.mp z.1,qbb.mp z.2⟩
   .split at h
    .cases h;exact⟨qbb.mp z.1,qbb.mp z.2⟩
    .split at h
     .cases h;exact⟨qbb.mp z.1,qbb.mp z.2⟩
     .cases h
  .cases h
 | [a,x,k,u,t,n],h =>
  rw[qkf]at h;split at h
  .rename_i z;cases h;exact⟨qbb.mp z.2.1,qbb.mp z.2.2.1,f z.2.2.2.1,f z.2.2.2.2.2⟩
  .cases h
 | [a,x,k,l],h =>
  rw[qkg]at h;split at h
  .rename_i z;cases h;exact⟨qbb.mp z.2.1,qbb.mp z.2.2.1,qbb.mp z.2.2.2⟩
  .cases h
structure Rk (r:RR):Prop where
 nm:qb1 r.name
 wh:qb1 r.who
 kn:∀x∈qah r,qb1 x
 ba:∀y,r.base=some y->qb1 y
 bo:r.base=none->∃o,r.opens=some o
 bn:∀y,r.base=some y->r.opens=none
 yl:∀y∈r.yields,qb1 y/\y≠r.name
 mn:1<=r.many/\r.many<=40
 un:r.unit∈qbu
 lg:∀t∈r.longer,(1<=t.2.1/\t.2.1<=20)/\1<=t.2.2/\t.2.2<=3
 kd:(qah r).Nodup
 l2:r.longer.length<=2
 yn:r.yields.Nodup
def rk_new {x w o:Str}{d:Bool}{y:Str}{m:Int}{u:Str}(ok:qc6 (.term x w o d y m u))(c:¬(d=false/\o=y)):Rk (qhr x w o d y m u):=by
 obtain⟨e,b,f,h,a,g⟩:=ok;cases d with|true=>exact⟨e,b,(λz hz=>by simp[qah,qhr,stL]at hz;rw[hz];exact f),(λz hz=>by cases hz;exact h),(λhz=>nomatch hz),(λ_ _=>rfl),(λ_ hz=>nomatch hz),a,g,(λ_ hz=>nomatch hz),(by simp[qah,qhr,stL]),B7 _,.nil⟩|false=>exact⟨e,b,(λz hz=>by simp[qah,qhr,stL]at hz;rcases hz with rfl|rfl;exact f;exact h),(λz hz=>nomatch hz),(λhz=>⟨_,Z⟩),(λ_ hz=>nomatch hz),(λ_ hz=>nomatch hz),a,g,(λ_ hz=>nomatch hz),(by simp[qah,qhr,stL,show o≠y from λz=>c ⟨Z,z⟩]),B7 _,.nil⟩
def rk_more {r:RR}{f:Rw7}(k:Rk r)(t:isT f=false)(ok:qc6 f)(u:qew r f=false):Rk (qcj r f):=by
 have h:=qki r t (qxt u);unfold qew at u;rw[CZ]at u;have i:∀z∈kin f,z∉qah r:=λz hz hk=>by have:=DW.mp u.1 z hz;exact this (AY.mpr hk)
 have n:(kin f).Nodup:=by
  cases f with|still x a b =>have:=u.2;unfold qoz at this;rw[CZ]at this;have j:a≠b:=of_decide_eq_false this.2;simp[kin,j]|_=>simp[kin]
 have kn:∀x∈qah (qcj r f),qb1 x:=λx g=>by
  rcases Az.mp (h.mem_iff.mp g) with g|g
  .exact k.kn x g
  .cases f with
   |term=>cases t
   |ends a b=>cases Ai.mp g;exact ok.2
   |anew a b=>cases Ai.mp g;exact ok.2
   |longer a b c d=>cases Ai.mp g;exact ok.2.1
   |still a b c =>
    simp only[kin,An,Aq,or_false]at g;rcases g with rfl|rfl
    .exact ok.2.1
    .exact ok.2.2
   |yields=>cases g
 have kd:(qah (qcj r f)).Nodup:=h.nodup_iff.mpr (AO.mpr ⟨k.kd,n,λa l b m e=>i b m (e ▸ l)⟩);cases f with
 |term=>cases t
 |longer a b c d =>
  refine⟨k.nm,k.wh,kn,k.ba,k.bo,k.bn,k.yl,k.mn,k.un,λz hz=>?_,kd,?_,k.yn⟩
  .rcases Az.mp hz with hz|hz
   .exact k.lg z hz
   .cases Ai.mp hz;exact ok.2.2
  .have:=of_decide_eq_false u.2;have:=k.l2;show (r.longer++[_]).length<=2;rw[Ag,AU];lia
 |ends=>exact⟨k.nm,k.wh,kn,k.ba,k.bo,k.bn,k.yl,k.mn,k.un,k.lg,kd,k.l2,k.yn⟩
 |anew=>exact⟨k.nm,k.wh,kn,k.ba,k.bo,k.bn,k.yl,k.mn,k.un,k.lg,kd,k.l2,k.yn⟩
 |still=>exact⟨k.nm,k.wh,kn,k.ba,k.bo,k.bn,k.yl,k.mn,k.un,k.lg,kd,k.l2,k.yn⟩
 |yields=>exact k
noncomputable def nY:List Rw7->Nat
 | []=>0
 |.yields _ _::t=>nY t+1
 |_::t=>nY t
theorem qmo:∀a b:List Rw7,nY (a++b)=nY a+nY b
 | [],b=>(DF _).symm
 |row::a,b=>by have:=qmo a b;cases row <;>simp only[Bj,nY] <;>lia
theorem ex_more {r:RR}{c:Rw7}(t:isT c=false)(u:qew r c=false):exR (qcj r c)+nY [c]=exR r+1:=by
 cases c with
 |term=>cases t
 |still x a b =>
  unfold qew qoz at u;rw[CZ,CZ]at u;have e:r.still=none:=by
   cases e:r.still with|none=>rfl|some z=>rw[e]at u;exact absurd u.2.1 (λq=>nomatch q)
  unfold exR qcj;rw[e];simp only[stN,nY]
 |_=>simp only[exR,qcj,nY,Ag,AU] <;>lia
theorem qo6:∀{rs:List RR}{j:Nat}{r r':RR},rs[j]?=some r->((rs.set j r').map exR).sum+exR r=(rs.map exR).sum+exR r'
 |q::rs,0,r,r',h=>by cases h;simp only[List.set_cons_zero,A6,DL];lia
 |q::rs,j+1,r,r',h=>by have:=qo6 (rs:=rs) (j:=j) (r':=r') h;simp only[List.set_cons_succ,A6,DL];lia
 | [],_,_,_,h=>by cases h
structure Gr1 (P:List Rw7)(S:List RR):Prop where
 rk:∀r∈S,Rk r
 yn:∀r∈S,r.yields=[]
 sz:(qak S).length+nY P=P.length
 nn:(S.map RR.name).Nodup
 l6:S.length<=6
theorem qx5 {P:List Rw7}{S p:List RR}{i:Nat}{k:Rw7}(g:Gr1 P S)(ok:qc6 k)(h:qbt S i k=.ok p):Gr1 (P++[k]) p:=by
 have sz:=g.sz;rw[qhy]at sz;cases n:isT k with
 |true =>
  cases k with
  |term x w o d y m u =>
   have h:qei S i x w o d y m u=.ok p:=h;cases pn:qan S x with
   |some j=>rw[qht (by rw[pn];rfl)]at h;cases h
   |none =>
    by_cases c:S.length=6\/(d=false/\o=y)
    .rw[qfp pn c]at h;cases h
    .rw[qex pn c]at h;cases h;have l6:=g.l6;refine⟨λr f=>?_,λr f=>?_,?_,?_,?_⟩
     .rcases Az.mp f with f|f
      .exact g.rk r f
      .cases Ai.mp f;exact rk_new ok (λz=>c (.inr z))
     .rcases Az.mp f with f|f
      .exact g.yn r f
      .cases Ai.mp f;rfl
     .rw[qhy,qmo,Av,List.sum_append,Ag,Ag];show _+(exR (qhr x w o d y m u)+0)+(_+1)+(_+0)=_+1;have:exR (qhr x w o d y m u)=0:=rfl;lia
     .rw[Av];refine AO.mpr ⟨g.nn,AM.mpr ⟨Aq,Dp⟩,λa t b A e=>?_⟩;cases Ai.mp A;rw[e]at t;exact qc7.mp pn t
     .rw[Ag,AU];lia
  |_=>cases n
 |false =>
  rw[qd8 n]at h;cases pn:qan S (qaz k) with
  |none=>rw[qgb pn]at h;cases h
  |some q =>
   obtain⟨r,f,en⟩:=qa4 pn;have v:=At f;cases u:qew r k with
   |true=>rw[qgc pn f u]at h;cases h
   |false =>
    rw[qey pn f u]at h;cases h;refine⟨λs l=>?_,λs l=>?_,?_,by rw[qfb f (qe5 r k)];exact g.nn,by rw[C7];exact g.l6⟩
    .rcases BH l with l|rfl
     .exact g.rk s l
     .exact rk_more (g.rk r v) n ok u
    .rcases BH l with l|rfl
     .exact g.yn s l
     .have:=g.yn r v;cases k <;>exact this
    .have e1:=ex_more n u;have e2:=qo6 (r':=qcj r k) f;rw[qhy,qmo,C7,Ag,AU];lia
theorem qth:∀{a P:List Rw7}{S0 S:List RR}{i:Nat},Gr1 P S0->(∀row∈a,qc6 row)->qai S0 i (a.map some)=.ok S->Gr1 (P++a) S
 | [],P,S0,S,i,j,_,h=>by cases h;rw[Bm];exact j
 |row::a,P,S0,S,i,j,ok,h=>by
  rw[A6,qbg]at h;by_cases c:i=40
  .rw[if_pos c]at h;cases h
  .rw[if_neg c]at h;dsimp only at h;cases e:qbt S0 i row with|error er=>rw[e]at h;cases h|ok S1 =>rw[e]at h;have:=qth (qx5 j (ok _ Am) e) (λz hz=>ok z (Ar _ hz)) h;rw[AE]at this;exact this
structure Gr2 (S:List RR)(Q:List Rw7)(rs:List RR):Prop where
 rk:∀r∈rs,Rk r
 yo:∀r∈rs,∀y∈r.yields,∃s∈rs,s.name=y/\s.owes=r.owes
 sz:(qak rs).length<=(qak S).length+nY Q
 nn:rs.map RR.name=S.map RR.name
theorem qx6 {S:List RR}{Q:List Rw7}{rs A:List RR}{i:Nat}{p:Rw7}(g:Gr2 S Q rs)(ok:qc6 p)(h:qb0 rs i p=.ok A):Gr2 S (Q++[p]) A:=by
 have sz:=g.sz;have same:A=rs->Gr2 S (Q++[p]) A:=λe=>by rw[e];exact⟨g.rk,g.yo,by rw[qmo];lia,g.nn⟩
 cases p with
 |term x w o d y m u =>
  cases pn:qan rs x with
  |none=>rw[qny pn]at h;cases h;exact same rfl
  |some j =>
   obtain⟨r,f,_⟩:=qa4 pn;rw[qgd pn f]at h;cases L:r.base with
   |none=>rw[L]at h;cases h;exact same rfl
   |some z =>
    rw[L]at h;dsimp only at h;split at h
    .cases h;exact same rfl
    .cases h
 |yields x y =>
  cases pn:qan rs x with
  |none=>rw[qnz pn]at h;cases h;exact same rfl
  |some j =>
   obtain⟨r,f,_⟩:=qa4 pn;have K:=At f;rw[qhu pn]at h;cases F:qan rs y with
   |none=>rw[qgt F]at h;cases h
   |some l =>
    obtain⟨s,t,N⟩:=qa4 F;by_cases c:y=r.name\/y∈r.yields\/s.owes≠r.owes
    .rw[qen F f t c]at h;cases h
    .rw[qfq F f t c]at h;cases h;have k:=g.rk r K;have P:∀s∈rs,∃G∈rs.set j {r with yields:=r.yields++[y]},G.name=s.name/\G.owes=s.owes:=λs t=>by
      obtain⟨n,H⟩:=AL t;by_cases e:j=n
      .subst e;rw[f]at H;cases H;exact⟨_,At (Cj (Ah.mp f).1),Z,Z⟩
      .exact⟨s,At (by rw[CS e];exact H),Z,Z⟩
     refine⟨λq v=>?_,λq v z hz=>?_,?_,(qfb (r':={r with yields:=r.yields++[y]}) f Z).trans g.nn⟩
     .rcases BH v with v|rfl
      .exact g.rk q v
      .refine⟨k.nm,k.wh,k.kn,k.ba,k.bo,k.bn,λz hz=>?_,k.mn,k.un,k.lg,k.kd,k.l2,?_⟩
       .rcases Az.mp hz with hz|hz
        .exact k.yl z hz
        .cases Ai.mp hz;exact⟨ok.2,λe=>c (.inl e)⟩
       .refine AO.mpr ⟨k.yn,AM.mpr ⟨Aq,Dp⟩,λa I b M e=>?_⟩;cases Ai.mp M;rw[e]at I;exact c (.inr (.inl I))
     .have D:∀s∈rs,s.name=z->s.owes=q.owes->∃s∈rs.set j {r with yields:=r.yields++[y]},s.name=z/\s.owes=q.owes:=λs t O J=>by
       obtain⟨G,C,B,E⟩:=P s t
       exact⟨G,C,B.trans O,E.trans J⟩
      rcases BH v with v|rfl
      .obtain⟨s,C,B,E⟩:=g.yo q v z hz;exact D s C B E
      .rcases Az.mp hz with hz|hz
       .obtain⟨s,C,B,E⟩:=g.yo r K z hz;exact D s C B E
       .cases Ai.mp hz;exact D s (At t) N (Decidable.not_not.mp λe=>c (.inr (.inr e)))
     .have J:=qo6 (r':={r with yields:=r.yields++[y]}) f;have e3:exR {r with yields:=r.yields++[y]}=exR r+1:=by simp only[exR,Ag,AU];lia
      rw[qhy]at sz |-;rw[qmo,C7];show _<=_+(_+(0+1));lia
 |ends=>cases h;exact same rfl
 |anew=>cases h;exact same rfl
 |longer=>cases h;exact same rfl
 |still=>cases h;exact same rfl
theorem qti {S:List RR}:∀{a Q:List Rw7}{b rs:List RR}{i:Nat},Gr2 S Q b->(∀row∈a,qc6 row)->qar b i a=.ok rs->Gr2 S (Q++a) rs
 | [],Q,b,rs,i,g,_,h=>by cases h;rw[Bm];exact g
 |row::a,Q,b,rs,i,g,ok,h=>by
  rw[qeg]at h;cases e:qb0 b i row with|error er=>rw[e]at h;cases h|ok r2 =>rw[e]at h;have:=qti (qx6 g (ok _ Am) e) (λz hz=>ok z (Ar _ hz)) h;rw[AE]at this;exact this
theorem qo7:∀{a:List (Option Rw7)}{S0 S:List RR}{i:Nat},qai S0 i a=.ok S->a=(a.filterMap id).map some
 | [],_,_,i,_=>rfl
 |o::a,S0,S,i,h=>by
  rw[qbg]at h;by_cases c:i=40
  .rw[if_pos c]at h;cases h
  .rw[if_neg c]at h;cases o with
   |none=>cases h
   |some b =>
    dsimp only at h;cases e:qbt S0 i b with|error er=>rw[e]at h;cases h|ok S1 =>rw[e]at h;rw[Df];exact congrArg (some b :: ·) (qo7 h)
theorem qtj:∀{l:List Nat}{n:Nat},n∈l->n<=l.sum
 |a::l,n,h=>by
  rw[DL];rcases An.mp h with rfl|h
  .lia
  .have:=qtj h;lia
theorem gt_read {f:List Str}{rs:List RR}(l40:f.length<=40)(h:qdo f=.ok rs):GT rs/\∃(S:List RR)(b:List Rw7),qd6 f=b.map some/\(∀c∈b,qc6 c)/\qai [] 0 (b.map some)=.ok S/\qar S 0 b=.ok rs:=by
 unfold qdo at h;cases e:qai [] 0 (qd6 f) with
 |error er=>rw[e]at h;cases h
 |ok S =>
  rw[e]at h;dsimp only at h;have p:=qo7 e;have lo:(qd6 f).length=f.length:=by unfold qd6;rw[Ac]
  have ok:∀c∈(qd6 f).filterMap id,qc6 c:=λc a=>by obtain⟨o,q,n⟩:=List.mem_filterMap.mp a;unfold qd6 at q;obtain⟨l,_,m⟩:=AS.mp q;have n:o=some c:=n;rw[n]at m;exact row_ok m
  generalize (qd6 f).filterMap id=b at *;rw[p]at e lo;rw[Ac]at lo;have j:=qr3 qxu e;have g:=qth (P:=[]) (S0:=[]) ⟨(λ_ h=>nomatch h),(λ_ h=>nomatch h),Z,Dp,Ez⟩ ok e;rw[Bi]at j g;have d:=qti (Q:=[]) ⟨g.rk,(λr a y i=>by rw[g.yn r a]at i;cases i),Nat.le_add_right _ _,Z⟩ ok h;rw[Bi]at d;have u:(qak rs).length<=40:=by have:=d.sz;have:=g.sz;lia
  have t:qxk S b:=λr a=>by obtain⟨c,w,v,s⟩:=(j.nm r.name).mp (Di a);exact⟨c,w,v,s⟩
  have l6:rs.length<=6:=by have:=congrArg DR d.nn;rw[Ac,Ac]at this;rw[this];exact g.l6
  refine⟨⟨λr a=>?_,λr a=>(d.rk r a).kd,λr a=>(d.rk r a).l2,by rw[d.nn];exact g.nn,l6,qtc h g.nn t,λr a=>⟨(d.rk r a).yn,λy i=>⟨((d.rk r a).yl y i).2,d.yo r a y i⟩⟩,u⟩,S,b,p,ok,e,h⟩;have k:=d.rk r a;have:exR r<=40:=by have m:=qhy rs;have:exR r<=(rs.map exR).sum:=qtj (Di a);lia
  unfold exR at this;exact⟨k.nm,k.wh,k.kn,k.ba,k.bo,k.bn,λy i=>(k.yl y i).1,k.mn,k.un,k.lg,by lia,by lia,by lia,by lia⟩
noncomputable def bsT (d:Bool)(y:Str):Option Str:=if d=true then some y else none
def Bs (P:List Rw7)(S:List RR):Prop:=∀x w o d y m u,Rw7.term x w o d y m u∈P->∃r∈S,r.name=x/\r.base=bsT d y
def more_bs (r:RR)(a:Rw7):(qcj r a).base=r.base:=by cases a <;>rfl
theorem bs_step {P:List Rw7}{S j:List RR}{i:Nat}{c:Rw7}(b:Bs P S)(h:qbt S i c=.ok j):Bs (P++[c]) j:=by
 cases l:isT c with
 |true =>
  cases c with
  |term x w o d y m u =>
   have h:qei S i x w o d y m u=.ok j:=h;unfold qei at h;split at h
   .cases h
   .split at h
    .cases h
    .cases h;intro v C o' d' A z B a;rcases Az.mp a with a|a
     .obtain⟨r,k,f⟩:=b _ _ _ _ _ _ _ a;exact⟨r,Bk _ k,f⟩
     .cases Ai.mp a;exact⟨_,AI _ (Ai.mpr Z),Z,Z⟩
  |_=>cases l
 |false =>
  rw[qd8 l]at h;cases pn:qan S (qaz c) with
  |none=>rw[qgb pn]at h;cases h
  |some q =>
   obtain⟨r,g,en⟩:=qa4 pn;cases u:qew r c with
   |true=>rw[qgc pn g u]at h;cases h
   |false =>
    rw[qey pn g u]at h;cases h;intro v C o' d' A z B a;rcases Az.mp a with a|a
    .obtain⟨s,k,f,t⟩:=b _ _ _ _ _ _ _ a;obtain⟨n,p⟩:=AL k;by_cases e:q=n
     .subst e;rw[g]at p;cases p;exact⟨_,At (Cj (Ah.mp g).1),by rw[qe5];exact f,by rw[more_bs];exact t⟩
     .exact⟨s,At (by rw[CS e];exact p),f,t⟩
    .cases Ai.mp a;cases l
def Bs.did {P:List Rw7}{S rs:List RR}(b:Bs P S)(d:SetDid S rs):Bs P rs:=λx w o dd y m u j=>by
 obtain⟨r,g,f,h⟩:=b _ _ _ _ _ _ _ j;obtain⟨n,i⟩:=AL g;have a:=congrArg (λl=>l[n]?) d.nm;have c:=congrArg (λl=>l[n]?) d.ba;simp only[Ak,i,CP]at a c;cases e:rs[n]? with|none=>rw[e]at a;cases a|some s =>rw[e]at a c;exact⟨s,At e,(A9 a).trans f,(A9 c).trans h⟩
theorem Bs.get {P:List Rw7}{rs:List RR}(b:Bs P rs)(h:(rs.map RR.name).Nodup){x w o:Str}{d:Bool}{y:Str}{m:Int}{u:Str}(g:Rw7.term x w o d y m u∈P):∃(j:Nat)(r:RR),qan rs x=some j/\rs[j]?=some r/\r.base=bsT d y:=by obtain⟨r,e,c,f⟩:=b _ _ _ _ _ _ _ g;obtain⟨n,a⟩:=AL e;exact⟨n,r,by rw[<- c];exact qef h a,a,f⟩
def WsR (ws:List Str):Rw7->Prop
 |.term x w o d y m u=>∃sm,ws=[wS "term",x,wS "of",w,wS "due",o,fbS d,y,sm,u]/\due sm 40=true/\nv sm=m
 |.ends x k=>ws=[wS "ends",x,k]
 |.anew x k=>ws=[wS "anew",x,k]
 |.longer x k u t=>∃su st,ws=[wS "longer",x,k,su,wS "times",st]/\due su 20=true/\nv su=u/\due st 3=true/\nv st=t
 |.still x k l=>ws=[wS "still",x,k,l]
 |.yields x y=>ws=[wS "yields",x,y]
theorem qqu:∀{ws:List Str}{e:Rw7},qc5 ws=some e->WsR ws e:=by
 intro ws e h
 match ws,h with
 | [a,x,b,w,c,o,d,y,m,u],h =>
  rw[qib]at h;split at h
  .rename_i z;cases h;obtain⟨rfl,_,rfl,_,rfl,_,hd,_,f,_⟩:=z;refine⟨m,?_,f,Z⟩;have:d=fbS (decide (d=wS "behind")):=by
    unfold fbS;rcases hd with rfl|rfl
    .rw[if_neg En]
    .rw[if_pos En]
   rw[<- this]
  .cases h
 | [a,x,k],h =>
  rw[qhq]at h;split at h
  .split at h
   .rename_i z;cases h;subst z;rfl
   .split at h
    .rename_i z;cases h;subst z;rfl
    .split at h
     .rename_i z;cases h;subst z;rfl
     .cases h
  .cases h
 | [a,x,k,u,t,n],h =>
  rw[qkf]at h;split at h
  .rename_i z;cases h;obtain⟨rfl,_,_,g,rfl,i⟩:=z;exact⟨u,n,Z,g,Z,i,Z⟩
  .cases h
 | [a,x,k,l],h =>
  rw[qkg]at h;split at h
  .rename_i z;cases h;obtain⟨rfl,_⟩:=z;rfl
  .cases h
def qo8 {x:Str}{m:Int}(h:due x m=true)(a:((ts m).length:Int)<=2):PySem.intText? x=some (nv x)/\x.length<=640:=by obtain⟨h1,b⟩:=qxx h a;exact⟨qwi b (by lia) (by lia),by show x.cps.size<=640;lia⟩
theorem role_ws {ws:List Str}{c:Rw7}(h:qc5 ws=some c)(t:isT c=false):∃d:Str,atI (ws.map V.str) 0=some (.str d)/\atI (ws.map V.str) 1=some (.str (qaz c))/\(d=wS "yields" ↔ ∃x y,c=.yields x y)/\(d≠wS "yields" -> qg6 (ws.map V.str) (some 2) (some (4-(if (!decide (V.str d=V.str (wS "still")))=true then 1 else 0)))=(kin c).map V.str):=by
 have w:=qqu h;have sl:∀{d x y:Str}{r:List Str},d≠wS "still" -> qg6 ((d::x::y::r).map V.str) (some 2) (some (4-(if (!decide (V.str d=V.str (wS "still")))=true then 1 else 0)))=[V.str y]:=λ{d x y r} n=>by rw[decide_eq_false (λz=>n (V.str.inj z))];show qg6 _ (some ((2:Nat):Int)) (some ((3:Nat):Int))=_;rw[cut2 _ 2 3 (by simp) (by simp)];rfl
 cases c with
 |term=>cases t
 |ends x k=>cases w;exact⟨_,Z,Z,⟨λz=>absurd z En,λ⟨_,_,z⟩=>nomatch z⟩,λ_=>sl En⟩
 |anew x k=>cases w;exact⟨_,Z,Z,⟨λz=>absurd z En,λ⟨_,_,z⟩=>nomatch z⟩,λ_=>sl En⟩
 |longer x k u v=>obtain⟨a,b,e,_⟩:=w;cases e;exact⟨_,Z,Z,⟨λz=>absurd z En,λ⟨_,_,z⟩=>nomatch z⟩,λ_=>sl En⟩
 |still x k l =>cases w;refine⟨_,Z,Z,⟨λz=>absurd z En,λ⟨_,_,z⟩=>nomatch z⟩,λ_=>?_⟩;rw[decide_eq_true Z];show qg6 _ (some ((2:Nat):Int)) (some ((4:Nat):Int))=_;rw[cut2 _ 2 4 (by simp) (by simp)];rfl
 |yields x y=>cases w;exact⟨_,Z,Z,⟨λ_=>⟨x,y,Z⟩,λ_=>rfl⟩,λn=>absurd Z n⟩
def qu3 (e:Er)(H:Hp)(Q:V->Hp->Prop):Prop:=∀(t:Addr)(H':Hp),Same H H'->H' t=some (.tup [.str (erW e),(erF e).2])->Q (.ref t) H'
def spTe9:Sp:=λvs H Q _=>∃(pw d:Addr)(i:Nat)(ws:List Str)(rs:List RR)(As:List RA)(x w o:Str)(dd:Bool)(y:Str)(m:Int)(u:Str),vs=[.ref pw,.ref d,.int (i:Int)]/\H pw=some (.lst (ws.map V.str))/\qc5 ws=some (.term x w o dd y m u)/\St9 H d rs As/\rs.length<=6/\(∀rs',qei rs i x w o dd y m u=.ok rs'->∀H' As',KeepT (d::As.flatMap own) H H'->Frs H As As'->St9 H' d rs' As'->Q .non H')/\∀e,qei rs i x w o dd y m u=.error e->qu3 e H Q
def spRl9:Sp:=λvs H Q _=>∃(pw d:Addr)(i:Nat)(ws:List Str)(rs:List RR)(As:List RA)(row:Rw7),vs=[.ref pw,.ref d,.int (i:Int)]/\H pw=some (.lst (ws.map V.str))/\qc5 ws=some row/\isT row=false/\St9 H d rs As/\Bn 100 rs/\pw∉d::As.flatMap own/\(∀rs',qhs rs i row=.ok rs'->∀H',KeepT (d::As.flatMap own) H H'->St9 H' d rs' As->Q .non H')/\∀e,qhs rs i row=.error e->qu3 e H Q
def spTi9:Sp:=λvs H Q _=>∃(pw d:Addr)(i:Nat)(ws:List Str)(rs:List RR)(As:List RA)(row:Rw7),vs=[.ref pw,.ref d,.int (i:Int)]/\H pw=some (.lst (ws.map V.str))/\qc5 ws=some row/\St9 H d rs As/\Bn 100 rs/\(qan rs (qaz row)).isSome=true/\(∀x w o dd y m u,row=.term x w o dd y m u->∃(j:Nat)(r:RR),qan rs x=some j/\rs[j]?=some r/\r.base=bsT dd y)/\(∀rs',qb0 rs i row=.ok rs'->∀H',KeepT (d::As.flatMap own) H H'->St9 H' d rs' As->Q .non H')/\∀e,qb0 rs i row=.error e->qu3 e H Q
def qg2 {H:Hp}{x y:Addr}{o:HO}(h:H x=none)(g:H y=some o):x≠y:=λz=>by rw[z,g]at h;cases h
def qx7 {A:RA}(h:(own A).Nodup):A.p≠A.pe/\A.p≠A.pa/\A.p≠A.pl/\A.p≠A.py/\A.pe≠A.pa/\A.pe≠A.pl/\A.pe≠A.py/\A.pa≠A.pl/\A.pa≠A.py/\A.pl≠A.py:=by simp only[own,AM,An,Aq,or_false,not_or]at h;obtain⟨⟨a,b,c,d⟩,⟨e,f,g⟩,⟨i,j⟩,k,_⟩:=h;exact⟨a,b,c,d,e,f,g,i,j,k⟩
def St9.on5 {H:Hp}{d:Addr}{rs:List RR}{As:List RA}(s:St9 H d rs As){j:Nat}{A:RA}(a:As[j]?=some A):(own A).Nodup:=qrx (AM.mp s.nd).2 a
def qjs {A:RA}{As:List RA}{j:Nat}{d:Addr}{H H':Hp}(a:As[j]?=some A)(k:KeepT (own A) H H'):KeepT (d::As.flatMap own) H H':=k.sub λz hz=>Ar _ (qk7 a z hz)
section
variable {H:Hp}{d:Addr}{rs:List RR}{As:List RA}{j:Nat}{r:RR}{A:RA}
def St9.ends (s:St9 H d rs As)(c:rs[j]?=some r)(b:As[j]?=some A)(k:Str):St9 (upd H A.pe (.lst (r.ends.map V.str++[.str k]))) d (rs.set j {r with ends:=r.ends++[k]}) As/\KeepT (d::As.flatMap own) H (upd H A.pe (.lst (r.ends.map V.str++[.str k]))):=by obtain⟨i,us,h⟩:=s.ru j r A c b;obtain⟨g,n2,n3,n4,l,f,e,n8,n9,n10⟩:=qx7 (s.on5 b);have a:KeepT (own A) H (upd H A.pe (.lst (r.ends.map V.str++[.str k]))):=KeepT.put (by simp[own]) h.he (λ_ z=>nomatch z);refine⟨s.chg c b a ⟨i,us,(qp g).trans h.hq,by rw[qi,Av];rfl,(qp (Ba l)).trans h.ha,(qp (Ba f)).trans h.hl,qb8 h.tl a,h.hs.keep a,(qp (Ba e)).trans h.hy⟩ Z,qjs b a⟩
def St9.anew (s:St9 H d rs As)(c:rs[j]?=some r)(b:As[j]?=some A)(k:Str):St9 (upd H A.pa (.lst (r.anew.map V.str++[.str k]))) d (rs.set j {r with anew:=r.anew++[k]}) As/\KeepT (d::As.flatMap own) H (upd H A.pa (.lst (r.anew.map V.str++[.str k]))):=by obtain⟨i,us,h⟩:=s.ru j r A c b;obtain⟨n1,e,n3,n4,l,n6,n7,f,g,n10⟩:=qx7 (s.on5 b);have a:KeepT (own A) H (upd H A.pa (.lst (r.anew.map V.str++[.str k]))):=KeepT.put (by simp[own]) h.ha (λ_ z=>nomatch z);refine⟨s.chg c b a ⟨i,us,(qp e).trans h.hq,(qp l).trans h.he,by rw[qi,Av];rfl,(qp (Ba f)).trans h.hl,qb8 h.tl a,h.hs.keep a,(qp (Ba g)).trans h.hy⟩ Z,qjs b a⟩
def St9.yields (s:St9 H d rs As)(e:rs[j]?=some r)(b:As[j]?=some A)(k:Str):St9 (upd H A.py (.lst (r.yields.map V.str++[.str k]))) d (rs.set j {r with yields:=r.yields++[k]}) As/\KeepT (d::As.flatMap own) H (upd H A.py (.lst (r.yields.map V.str++[.str k]))):=by obtain⟨l,us,h⟩:=s.ru j r A e b;obtain⟨n1,n2,n3,g,n5,n6,f,n8,i,c⟩:=qx7 (s.on5 b);have a:KeepT (own A) H (upd H A.py (.lst (r.yields.map V.str++[.str k]))):=KeepT.put (by simp[own]) h.hy (λ_ z=>nomatch z);refine⟨s.chg e b a ⟨l,us,(qp g).trans h.hq,(qp f).trans h.he,(qp i).trans h.ha,(qp c).trans h.hl,qb8 h.tl a,h.hs.keep a,by rw[qi,Av];rfl⟩ Z,qjs b a⟩
def St9.longer (s:St9 H d rs As)(f:rs[j]?=some r)(b:As[j]?=some A){us:List V}(hl:H A.pl=some (.lst us)){t:Addr}{k:Str}{u n:Int}(m:H t=some (.tup [.str k,.int u,.int n])):St9 (upd H A.pl (.lst (us++[.ref t]))) d (rs.set j {r with longer:=r.longer++[(k,u,n)]}) As/\KeepT (d::As.flatMap own) H (upd H A.pl (.lst (us++[.ref t]))):=by obtain⟨o,us',h⟩:=s.ru j r A f b;have e:=h.hl;rw[hl]at e;cases e;obtain⟨n1,n2,g,n4,n5,i,n7,l,n9,c⟩:=qx7 (s.on5 b);have a:KeepT (own A) H (upd H A.pl (.lst (us++[.ref t]))):=KeepT.put (by simp[own]) h.hl (λ_ z=>nomatch z);refine⟨s.chg f b a ⟨o,us++[.ref t],(qp g).trans h.hq,(qp i).trans h.he,(qp l).trans h.ha,qi,?_,h.hs.keep a,(qp (Ba c)).trans h.hy⟩ Z,qjs b a⟩;show Tups _ _ ((r.longer++[(k,u,n)]).map qql);rw[Av];exact qb8 (h.tl.snoc (show H t=some (.tup (qql (k,u,n))) from m)) a
def St9.still (s:St9 H d rs As)(e:rs[j]?=some r)(b:As[j]?=some A){c:V}(hq:H A.p=some (.lst (qm4 r A.pe A.pa A.pl c A.py))){t:Addr}{k l:Str}(m:H t=some (.tup [.str k,.str l])):St9 (upd H A.p (.lst ((qm4 r A.pe A.pa A.pl c A.py).set 10 (.ref t)))) d (rs.set j {r with still:=some (k,l)}) As/\KeepT (d::As.flatMap own) H (upd H A.p (.lst ((qm4 r A.pe A.pa A.pl c A.py).set 10 (.ref t)))):=by obtain⟨sv',us,h⟩:=s.ru j r A e b;obtain⟨n,g,f,i,n5,n6,n7,n8,n9,n10⟩:=qx7 (s.on5 b);have a:KeepT (own A) H (upd H A.p (.lst ((qm4 r A.pe A.pa A.pl c A.py).set 10 (.ref t)))):=KeepT.put (by simp[own]) h.hq (λ_ z=>nomatch z);refine⟨s.chg e b a ⟨.ref t,us,qi,(qp (Ba n)).trans h.he,(qp (Ba g)).trans h.ha,(qp (Ba f)).trans h.hl,qb8 h.tl a,⟨t,Z,a _ _ (.inr ⟨_,Z⟩) m⟩,(qp (Ba i)).trans h.hy⟩ Z,qjs b a⟩
end
def qx8 {rs:List RR}{j:Nat}{r:RR}(h:rs[j]?=some r):rs.set j r=rs:=by
 apply Bz;intro i;rw[Cn];by_cases c:j=i
 .subst c;rw[if_pos Z,h,if_pos (Ah.mp h).1]
 .rw[if_neg c]
def unf_kin {r:RR}{a:Rw7}(h:∀z∈kin a,z∉qah r):qew r a=qoz r a:=by unfold qew;rw[DW.mpr (λz hz c=>h z hz (AY.mp c)),Bool.false_or]
def unf_one {r:RR}{a:Rw7}{z:Str}(h:z∈kin a)(c:z∈qah r):qew r a=true:=by unfold qew;rw[Ej.mpr ⟨z,h,AY.mpr c⟩,Bool.true_or]
theorem qx9:∀{a P:List Rw7}{S0 S:List RR}{i:Nat},Bs P S0->qai S0 i (a.map some)=.ok S->Bs (P++a) S
 | [],P,S0,S,i,j,h=>by cases h;rw[Bm];exact j
 |row::a,P,S0,S,i,j,h=>by
  rw[A6,qbg]at h;by_cases c:i=40
  .rw[if_pos c]at h;cases h
  .rw[if_neg c]at h;dsimp only at h;cases e:qbt S0 i row with|error er=>rw[e]at h;cases h|ok S1 =>rw[e]at h;have:=qx9 (bs_step j e) h;rw[AE]at this;exact this
def qya {a:List Str}{e:Er}(h:qai [] 0 (qd6 a)=.error e):qdo a=.error e:=by unfold qdo;rw[h]
def Fnd9 (ls:List Str)(v:V)(H:Hp):Prop:=∃(e:Er)(t:Addr),v=.ref t/\qdo ls=.error e/\H t=some (.tup [.str (erW e),(erF e).2])
def Fnd9.same {a:List Str}{v:V}{H H':Hp}(h:Fnd9 a v H)(s:Same H H'):Fnd9 a v H':=by obtain⟨e,t,b,c,d⟩:=h;exact⟨e,t,b,c,s _ _ d⟩
structure Go1 (ls:List Str)(pr d:Addr)(i:Nat)(H:Hp)(S:List RR)(As:List RA):Prop where
 rd:qai [] 0 ((qd6 ls).take i)=.ok S
 st:St9 H d S As
 np:pr∉d::As.flatMap own
 l6:S.length<=6
 bn:Bn i S
structure Go2 (pr d:Addr)(S:List RR)(rows:List Rw7)(i:Nat)(H:Hp)(rs:List RR)(As:List RA):Prop where
 se:qar S 0 (rows.take i)=.ok rs
 st:St9 H d rs As
 np:pr∉d::As.flatMap own
 bn:Bn (40+i) rs
 sd:SetDid S rs
def Go1.next {f:List Str}{b d:Addr}{i:Nat}{H H':Hp}{S e:List RR}{As a:List RA}{c:Rw7}{k:List V}(g:Go1 f b d i H S As)(l:(qd6 f)[i]?=some (some c))(j:i≠40)(m:H b=some (.lst k))(h:qbt S i c=.ok e)(fr:Frs H As a)(st:St9 H' d e a):Go1 f b d (i+1) H' e a:=by
 have did:=qkq h;refine⟨?_,st,λz=>?_,did.len g.l6,did.bn g.bn⟩
 .rw[(qfy g.rd l).2,qgv j h];rfl
 .rcases An.mp z with q|q
  .exact g.np (by rw[q];exact Am)
  .rcases fr b q with q|q
   .exact g.np (Ar _ q)
   .rw[m]at q;cases q
def Go2.next {e d:Addr}{S:List RR}{a:List Rw7}{i:Nat}{H H':Hp}{rs b:List RR}{As:List RA}{c:Rw7}(g:Go2 e d S a i H rs As)(k:a[i]?=some c)(h:qb0 rs i c=.ok b)(st:St9 H' d b As):Go2 e d S a (i+1) H' b As:=by obtain⟨f,j⟩:=qiu h;refine⟨?_,st,g.np,j _ g.bn,⟨f.nm.trans g.sd.nm,f.ba.trans g.sd.ba⟩⟩;rw[(qfr g.se k).2,qfa h];rfl
def spDu9:Sp:=λvs H Q _=>∃(pr d:Addr)(ls:List Str),vs=[.ref pr,.ref d]/\H pr=some (.lst (ls.map V.str))/\H d=some (.lst [])/\pr≠d/\ls.length<=40/\(∀l∈ls,OkW 200 l)/\(∀rs,qdo ls=.ok rs->∀H' As,St9 H' d rs As->Q .non H')/\∀e,qdo ls=.error e->∀(t:Addr)(H':Hp),H' t=some (.tup [.str (erW e),(erF e).2])->Q (.ref t) H'
noncomputable def fR (rs:List RR):Nat->Option Nat:=bo (bsR rs)
noncomputable def nmL (rs:List RR)(is:List Nat):List V:=(is.map (nm (rs.map RR.name))).map V.str
def spCl9:Sp:=λvs H Q _=>∃(d po:Addr)(rs:List RR)(As:List RA)(os:List Nat)(k:Nat),vs=[.ref d,.str (nm (rs.map RR.name) k),.ref po]/\St9 H d rs As/\rs.length<=6/\qgw rs/\H po=some (.lst (nmL rs os))/\(∀j∈os,j<rs.length)/\k<rs.length/\∀(q t:Addr)(H':Hp)(is:List Nat)(o:Option Nat)(b:Bool),Same H H'->H' q=some (.lst (nmL rs is))->H' t=some (.tup [.ref q,.bl b])->Ch (fR rs) is o->is.Nodup->(∀j∈is,j<rs.length/\j∉os)->(is++o.toList)[0]?=some k->(b=false->∀j,o=some j->j∈os)->(b=true->∃j,o=some j/\j∈is)->Q (.ref t) H'
def spOr9:Sp:=λvs H Q _=>∃(d:Addr)(rs:List RR)(As:List RA),vs=[.ref d]/\St9 H d rs As/\rs.length<=6/\qgw rs/\(∀(q:Addr)(H':Hp)(os:List Nat),Same H H'->H' q=some (.lst (nmL rs os))->Hg (fR rs) rs.length os->(∀j∈os,j<rs.length)->Q (.ref q) H')/\((∀os,¬Hg (fR rs) rs.length os)->∀H',Same H H'->Q .non H')
def spIr9:Sp:=λvs H Q _=>∃(t l d:Addr)(rs:List RR)(As:List RA)(r:List Nat),vs=[.ref t,.ref d]/\H t=some (.tup [.str (wS "ring"),.ref l,.bl true])/\H l=some (.lst (nmL rs r))/\St9 H d rs As/\qgw rs/\Rg (fR rs) rs.length r/\rs.length<=6/\∀H',Same H H'->Q (.bl true) H'
def spIb9 (a:Adr):Sp:=λvs H Q _=>∃(d po:Addr)(ls:List Str)(rs:List RR)(As:List RA)(os:List Nat),vs=[.str (qco ls),.ref d,.ref po]/\Lng ls/\qdo ls=.ok rs/\GT rs/\St9 H d rs As/\H po=some (.lst (nmL rs os))/\Hg (fR rs) rs.length os/\∀H',Same H H'->Q (.bl true) H'
def Rg.closed {f:Nat->Option Nat}{n:Nat}{r:List Nat}(h:Rg f n r):∀k,k∈r->∃j,f k=some j/\j∈r:=λk hk=>by obtain⟨i,a⟩:=AL hk;have l:=(Ah.mp a).1;have lt:(i+1) % r.length<r.length:=Nat.mod_lt _ (by lia);exact⟨r[(i+1) % r.length],by rw[h.nx i k a,Al lt],By lt⟩
def hg_rg {f:Nat->Option Nat}{n:Nat}{r a:List Nat}(h:Hg f n a)(g:Rg f n r):False:=by obtain⟨k,hk⟩:=List.exists_mem_of_ne_nil r g.ne;exact h.no (S:=(· ∈ r)) g.closed (g.lt k hk) hk
def ring_no {f:Nat->Option Nat}{n i:Nat}{d a:List Nat}{j:Nat}(h:Hg f i d)(w:i<n)(ch:Ch f a (some j))(o:∀k∈a,k∉d)(s:j∈a)(u:(a++[j])[0]?=some i):∀b,¬Hg f n b:=λb g=>by
 obtain⟨q,p,v,t⟩:=g.pre i w;have e:=h.uniq v;subst e;have x:i∈a:=by
  cases a with|nil=>cases s|cons z a=>cases u;exact Am
 refine t.no (S:=(· ∈ a)) (λk hk=>⟨o k hk,?_⟩) i rfl x;obtain⟨m,r⟩:=AL hk;have e:=ch m k r;have l:=(Ah.mp r).1;by_cases c:m+1<a.length
 .rw[AT c,Al c]at e;exact⟨_,e,By c⟩
 .rw[AN (by lia),show m+1-a.length=0 by lia]at e;exact⟨j,e,s⟩
def qu4 {rs:List RR}(g:GT rs){p:List Nat}(h:Hg (fR rs) rs.length p)(n:rs≠[]):∃a∈qgf rs,∃b∈qgf rs,a≠b:=by
 have i:0<rs.length:=List.length_pos_iff.mpr n;obtain⟨k,hk,ek⟩:∃k,k<rs.length/\fR rs k=none:=by
  refine Decidable.byContradiction λz=>?_;refine h.no (S:=λk=>k<rs.length) (λk hk=>?_) i i;cases e:fR rs k with|none=>exact absurd ⟨k,hk,e⟩ z|some j =>have m:=qtd g.nn g.l6;have:=m.ok k j e;rw[Ac]at this;exact⟨j,Z,this⟩
 have f:=Al hk;have c:=At f;have d:=qjk g.ba f;generalize rs[k]=r at f c d;rw[show bo (bsR rs) k=none from ek]at d;have q:r.base=none:=by
  cases e:r.base with|none=>rfl|some y=>rw[e]at d;cases d
 obtain⟨o,l⟩:=(g.ok r c).bo q;have kd:=g.kd r c;refine⟨r.owes,B0.mpr ⟨r,c,by unfold qah;simp⟩,o,B0.mpr ⟨r,c,by unfold qah;simp[l]⟩,λz=>?_⟩;unfold qah at kd;rw[l,<- z]at kd;exact(AO.mp (AO.mp kd).1).2.2 r.owes (by simp) r.owes (by simp) rfl
def hd_next {rs:List RR}{k:Nat}{r:RR}(h:rs[k]?=some r):hd rs (k+1)=hd rs k+(qck r).length:=by unfold hd qak;rw[qbr h,Bc,Ag];simp[Bt]
def gjoin9 {a:List Str}(n:a.length<=100)(c:∀l∈a,OkW 200 l):JoinOk (wS "\n") a=true/\Txt.join (wS "\n") a=qco a:=by
 constructor
 .unfold JoinOk;rw[StrLaws.joinFits (B:=200) (λp b=>(c p b).1) (by rw[show (wS "\n").length=1 by decide +kernel];show a.length*200+a.length*1<=16777216;lia)];rfl
 .show AH.Str.glued _ _=_;rw[Eh,newl];rfl
def qyb:qco []=wS "" := by decide +kernel
def qyc {a:List Str}(n:a.length<=100)(c:∀l∈a,OkW 200 l)(h:qco a≠wS ""):Lng a:=⟨n,c,λe=>h (by rw[e];decide +kernel)⟩
def qyd (r:RR):(qah r).length<=(qck r).length+2:=by
 rw[qfc];unfold qah qcq;have h1:r.opens.toList.length<=1:=by cases r.opens <;>simp
 have h2:(stL r.still).length<=(qdx r.name r.still).length+1:=by cases r.still <;>simp[stL,qdx]
 simp only[Ag,Ac,Au,Bu];lia
theorem qn8:∀rs:List RR,(qgf rs).length<=(qak rs).length+2*rs.length
 | []=>A0 _
 |r::rs=>by have:=qn8 rs;have h:=qyd r;show (qah r++qgf rs).length<=(qck r++qak rs).length+2*(rs.length+1);rw[Ag,Ag];lia
def once_sz {rs:List RR}(g:GT rs){f:List Nat}(h:Hg (fR rs) rs.length f):(Sts.onceL (qgf rs)).length≠1/\(Sts.onceL (qgf rs)).length<64:=by
 constructor
 .by_cases c:rs=[]
  .rw[c];decide
  .obtain⟨x,b,y,d,e⟩:=qu4 g h c;have a:[x,y].Nodup:=by simp[e]
   have:=a.length_le_of_subset (l₂:=Sts.onceL (qgf rs)) (λz hz=>by
     rcases An.mp hz with q|q
     .rw[q];exact(Sts.onceL_mem _ _).mpr b
     .rw[Ai.mp q];exact(Sts.onceL_mem _ _).mpr d)
   have l2:[x,y].length=2:=rfl;lia
 .have:=Sts.onceL_le (qgf rs);have h2:=qn8 rs;have h3:=g.ln;have h4:=g.l6;lia
section
variable {P:AK}{w:World}{K:Ae}{mg:Str->Option Value}{base:Heap}{a:Adr}
set_option maxHeartbeats 4000000
theorem qr8 (T:Txt K mg a):FnOk P w K mg base CX0 1 a.lI a.mF ["sign"] spFig:=by
 refine T.dI.fn.ok qro (λvs H Q E h=>?_) (λcdv A outer s H vs Q E hr h=>?_)
 .obtain⟨_,rfl,_⟩:=h
  all_goals rfl
 .obtain⟨c,rfl,k⟩:=h;refine⟨_,(qh (qk (qpf qh3 qh3 zi (pv 0) zi))),?_⟩;refine(nmc Z ⟨_,_,Z,Z,(nmc Z ?_)⟩);have b:Q (.bl (fig c)) H:=k;unfold fig at b;show if (!decide ((⟨#[c]⟩:Str).cps.toList<(Aa "0").cps.toList))=true then _ else _;rw[le_0];by_cases d:48<=c
  .rw[decide_eq_true d,CD]at b;rw[decide_eq_true d];refine qby ⟨_,_,Z,Z,?_⟩;show Q (.bl (!decide ((Aa "9").cps.toList<(⟨#[c]⟩:Str).cps.toList))) H;rw[le_9];exact b
  .rw[decide_eq_false d,Cg]at b;rw[decide_eq_false d];exact qa9 b
theorem qjt (T:Txt K mg a):FnOk P w K mg base CX0 2 a.rC a.pL ["text","most_figures"] spWn:=by
 refine T.bG.fn.ok qjf (λvs H Q E h=>?_) (λcdv A outer s H vs Q E t h=>?_)
 .obtain⟨_,_,rfl,_⟩:=h
  all_goals rfl
 .obtain⟨x,m,rfl,hx,k⟩:=h;refine⟨_,(qe (ze (qe0 (qlh qlg qlg qg (zg qa5 (by rfl) T.kH qa2 (qb (pv 0) qf qc)) (pv 1))) (qh (qk qdr)) qad)
   (qe (ze (qe0 (zh (zg (qjz Z) (by rfl) T.fS ql9 (qb (qd1 (N:=["sign"]) (js:=[none]) (XN:=["text","most_figures"]) (xs:=qab qdm) Z Z Z En (qoi (pv 0)) (λ_ _ _ _ _ _=>(qaj (i:=0) (show BY (["sign"]:List Str) from by decide +kernel) Z (Ay Z) (C8 Z))) (λ_ _ _ _ _ _=>qcf) (λ_ _ _ _ _ _=>(zf (qr8 T) (t.mono Ez) Z T.dI.mgx T.dI.fn.kp T.dI.bd .nil qam (qb (pv 0) qf qc)))) qf qi1)))) (qh (qk qdr)) qad)
   (qh (qk (pe_or (qcb qav (pv 0) zi (qac _)) (qe1 (qlc (qcd B6 PySem.F.slot_str_startswith PySem.F.type_str_startswith qmy (pv 0) (qb zi qf qj))))))))),?_⟩
  have hz:x.length<=A4:=fits (by lia);refine(nmc Z ⟨_,_,Z,⟨hz,Z⟩,(iic Z Z (nmc Z ?_))⟩);have g:=k H (Same.refl H);unfold wnm at g;refine qba (λc=>?_) (λc=>?_)
  .have r:1<=(x.cps.size:Int):=of_decide_eq_true c;refine(nmc Z (iic Z Z (nmc Z ?_)));refine qba (λd=>?_) (λd=>?_)
   .have l:decide ((x.cps.size:Int)<=m)=false:=nbF d;have d':=of_decide_eq_false l;rw[decide_eq_false d',Dm,Cg]at g;exact g
   .have l:decide ((x.cps.size:Int)<=m)=true:=nbT d;have d':=of_decide_eq_true l;refine(nmc Z ⟨_,Z,?_⟩);refine qbi (λv=>match v with | .str y=>.bl (fig (y.cps.getD 0 0))|_=>.non) (λσ'=>∃v,σ'=[v]) qlp ?_ ?_ (λv σ' H' R u sm n q=>?_) qcx λp B=>?_
    .rw[Ac,A7];exact hz
    .exact⟨none,Z⟩
    .obtain⟨c,hc,rfl⟩:=AS.mp u;obtain⟨v0,rfl⟩:=n;exact(nmc Z ⟨c,Z,q _ ⟨_,Z⟩⟩)
    refine⟨p,x.cps.toList.map fig,Z,SqL.of (by rw[qi,AV,AV];rfl),(nmc Z ?_)⟩;have f:=k _ (zc (o:=.lst ((x.cps.toList.map λc=>V.str ⟨#[c]⟩).map λv=>match v with | .str y=>.bl (fig (y.cps.getD 0 0))|_=>.non)) B);unfold wnm at f;rw[decide_eq_true (show 1<=x.cps.size by lia),decide_eq_true d',CD,CD]at f;show if (!((x.cps.toList.map fig).all λb=>b))=true then _ else _;rw[DZ];show if (!(x.cps.toList.all fig))=true then _ else _;cases e:x.cps.toList.all fig with
    |false =>rw[e]at f;exact qby f
    |true =>
     rw[e,CD]at f;refine qa9 (nmc Z ⟨Z,(nmc Z ?_)⟩);show if decide (V.str x=V.str (Aa "0"))=true then _ else _;unfold Wri.plain at f;by_cases j:x=Aa "0"
     .rw[decide_eq_true j,Bool.true_or]at f;rw[decide_eq_true (congrArg V.str j)];exact qby f
     .rw[decide_eq_false j,Bool.false_or]at f;rw[decide_eq_false λz=>j (V.str.inj z)];refine qa9 (nmc Z ⟨Z,_,_,Z,Z,(nmc Z ?_)⟩);show Q (.bl (!Txt.startswith x (Aa "0"))) _;rw[starts0];exact f
  .have r:¬1<=(x.cps.size:Int):=λz=>c (decide_eq_true z);rw[decide_eq_false (show ¬1<=x.cps.size by lia),Cg,Cg]at g;exact(nmc Z (qby g))
theorem qye (T:Txt K mg a):FnOk P w K mg base CX0 3 a.lN a.rO ["text","most"] qxb:=by
 refine T.bH.fn.ok qqf (λvs H Q E h=>?_) (λcdv A outer s H vs Q E p h=>?_)
 .obtain⟨_,_,rfl,_⟩:=h
  all_goals rfl
 .obtain⟨x,m,rfl,hx,m1,l,k,j⟩:=h;refine⟨_,(qe (ze (qe0 (zh (zf (qjt T) (p.mono Ez) Z T.bG.mgx T.bG.fn.kp T.bG.bd .nil qam (qb (pv 0) (qb (zg qa5 (by rfl) T.kH qa2 (qb (qax qb3 (by rfl) T.kP qcl (qb (pv 1) qf qc)) qf zn)) qf zn) qc)))) (qh (qk qas)) qad)
   (qe (qz (i:=2) qqf.nd Z (Ay Z) (qax qh6 (by rfl) T.kZ qeb (qb (pv 0) qf qc)))
   (qh (qk (qea (qlh qlg qlg qg (pv 2) (pv 1)) (pv 2) qas))))),?_⟩
  have n:(ts m).length<=62:=ts_len (by lia) Ez l;refine(nmc Z (nmc Z ⟨_,Z,log_ok 62 En (by lia) l,_,_,Z,⟨fits (A3 n Ez),Z⟩,x,_,Z,by lia,λb c=>?_⟩));refine(nmc Z ?_);show if (!wnm x ((ts m).length:Nat))=true then _ else _;cases e:wnm x ((ts m).length:Nat) with
  |false=>exact qby (j (by unfold due;rw[e];rfl) b c)
  |true =>
   have g:=e;unfold wnm at g;simp only[AD,decide_eq_true_eq]at g;obtain⟨⟨o,g2⟩,q,g4⟩:=g;refine qa9 (nmc Z ⟨_,_,Z,qwi q o (by lia),(by show x.cps.size<=640;lia),(nmc Z (iic Z Z (nmc Z ?_)))⟩);refine qba (λd=>?_) (λd=>?_)
   .refine(nmc Z (iic Z Z (nmc Z ?_)));refine qba (λf=>?_) (λf=>?_)
    .exact(nmc Z (k (by unfold due;rw[e,d,f];rfl) b c))
    .exact j (by unfold due;rw[e,d,Bool.eq_false_iff.mpr f];rfl) b c
   .exact(nmc Z (qa9 (j (by unfold due;rw[e,Bool.eq_false_iff.mpr d];rfl) b c)))
theorem qr9 (T:Txt K mg a):FnOk P w K mg base CX0 1 a.fT a.pY ["self","names"] (spIL K):=by
 refine T.fE.fn.ok qrp (λvs H Q E h=>?_) (λcdv A outer s H vs Q E hr h=>?_)
 .obtain⟨_,_,_,_,_,rfl,_⟩:=h
  all_goals rfl
 .obtain⟨x,C,l,c,r,rfl,B,hl,v,G,k⟩:=h;refine⟨_,(qe (zd (qhe T.bA Z T.kR (qb (pv 0) (qb (qax qe3 (by rfl) T.gA qdn (qb (pv 1) qf qc)) qf zn) qc)))
   (qh (qi4 (pv 0) (qax qe3 (by rfl) T.gA qdn (qb (pv 1) qf qc)) Z))),?_⟩
  have n:∀{p:Addr},H p=none->p≠x:=λD z=>by rw[z,B]at D;cases D
  refine(nmc Z (nmc Z ⟨l,c,Z,.inl hl,λi g=>?_⟩));have q:upd H i (.lst c) x=some (exO x C none true):=by rw[qp (Ba (n g))];exact B
  refine⟨x,C,none,[.ref i],r,Z,q,v.xc,fits (show 1<=100000 by decide),?_⟩;have u:SqL K (upd H i (.lst c)) l c:=(zc g).seq hl;refine(nmc Z ⟨l,c,Z,.inl u,λf m=>?_⟩);have d:H f=none:=(zc g).free m;have n31:f≠i:=λz=>by rw[z,qi]at m;cases m
  have y:upd (upd H i (.lst c)) f (.lst c) x=some (exO x C none true):=by rw[qp (Ba (n d))];exact q
  refine(nmc Z ⟨x,C,true,Z,v.set G,.inl ⟨y,λdx hd=>?_⟩⟩);have j:H dx=none:=((zc g).trans (zc m)).free hd;have t:f≠dx:=λz=>by rw[<- z,qi]at hd;cases hd
  exact k dx f _ j d (λb o F e=>by rw[qp F,qp (qaf e j),qp (qaf e d),qp (qaf e g)];exact e) qi (by rw[qp (n j)];exact qi) (by rw[qp (n d),qp t];exact qi)
theorem qu5 (T:Txt K mg a):FnOk P w K mg base (CX1 P w) 3 a.nV a.rK ["name","bases","taken"] (spUn7 a):=by
 refine okX T.dB.fn qh8 (λvs H Q E h=>?_) (λcdv A outer s H vs Q E hr h=>?_)
 .obtain⟨_,_,_,_,_,_,_,rfl,_⟩:=h
  all_goals rfl
 .obtain⟨d,t,kvs,c,bs,x,u,rfl,hd,ht,p,D,hk,Y,k,kx⟩:=h;refine⟨_,(qe (qz (i:=3) qh8.nd Z (Ay Z) (zj qf))
   (qe (qz (i:=4) qh8.nd Z (Ay Z) (pv 0))
   (qe (qpd B3.leaving (PW.pt (qdq (qu qct (pv 4) qas (qac _)) (qdz (qu qcc (pv 4) (pv 2) (by with_unfolding_all rfl))))) (qe (ze (qu qdj (pv 4) (pv 3) (by with_unfolding_all rfl)) (qh (qdu Z (Takes.at qbo) (qep T.gM.xc T.fE.ty (qr9 T) (hr.mono Ez) Z T.gR T.gM.kp T.fE.bd .nil qam (qb (qdd qft (pv 3) (qcu (qcd AJ PySem.F.slot_list_index PySem.F.type_list_index quc (pv 3) (qb (pv 4) qf qc))) qgh) qf zp)))) qad)
   (qe (zd (qcd AJ AQ AR qbd (pv 3) (qb (pv 4) qf qc)))
   (qh (qz (i:=4) qh8.nd Z (Ay Z) (qiz (qf8 hr) (pv 1) (pv 4) (λ_ _=>rfl)))))))
   (qh (qk (pv 3)))))),?_⟩
  refine⟨qem,λq C=>?_⟩;obtain⟨s0,X⟩:=alc (o:=.lst []) C;generalize upd H q _=H0 at s0 X |-;refine(nmc Z ?_);refine⟨λm σ' H'=>Same H H'/\∃(g:List Nat)(o:Option Nat),σ'=[some (.str (nm c u)),some (.ref d),some (.ref t),some (.ref q),some (qhp c o)]/\H' q=some (.lst ((g.map (nm c)).map V.str))/\Ch (bo bs) g o/\g.Nodup/\(∀j∈g,j<c.length/\j∉x)/\(∀j,o=some j->j<c.length)/\(g++o.toList)[0]?=some u/\m+g.length=7,⟨7,s0,[],some u,Z,X,(λi k e=>by cases e),.nil,(λj l=>absurd l Aq),(λj e=>by cases e;exact hk),Z,Z⟩,?_⟩;rintro m σ' H' ⟨v,g,o,rfl,n,ch,nd,lt,lo,st,hm⟩;cases o with
  |none=>exact(nmc Z ⟨Z,(nmc Z (qda Z (qa9 (nmc Z (k q H' g none C v n ch nd lt st (λj z=>nomatch z))))))⟩)
  |some j =>
   have l:=lo j rfl;dsimp only[qhp];refine(nmc Z ⟨Z,(nmc Z (qeu (λz=>nomatch z) (nmc Z (nmc Z ⟨_,_,Z,.inl (SqL.of (v _ _ ht)),Z,qa1 _,(nmc Z ?_)⟩))))⟩);show if (!inV (.str (nm c j)) ((x.map (nm c)).map V.str))=true then _ else _;rw[qbp];cases O:(x.map (nm c)).contains (nm c j) with
   |true=>exact qa9 (nmc Z (k q H' g (some j) C v n ch nd lt st (λi z=>by cases z;exact(qgq p.nd D l).mp O)))
   |false =>
    have nj:j∉x:=λz=>by rw[(qgq p.nd D l).mpr z]at O;cases O
    have ln:=qmf nd λk hk=>(lt k hk).1;have sm:=p.sm;obtain⟨m,rfl⟩:∃f,m=f+1:=⟨m-1,by lia⟩;have r:∀k∈g,k<c.length:=λk hk=>(lt k hk).1;refine qby ⟨λσ' H'=>Same H H'/\∃(g:List Nat)(o:Option Nat),σ'=[some (.str (nm c u)),some (.ref d),some (.ref t),some (.ref q),some (qhp c o)]/\H' q=some (.lst ((g.map (nm c)).map V.str))/\Ch (bo bs) g o/\g.Nodup/\(∀j∈g,j<c.length/\j∉x)/\(∀j,o=some j->j<c.length)/\(g++o.toList)[0]?=some u/\m+g.length=7,λσ2 H2 z=>⟨m,Cc m,z⟩,?_⟩;refine(nmc Z (nmc Z ⟨_,_,Z,.inl (SqL.of n),Z,qa1 _,(nmc Z ?_)⟩));show if (inV (.str (nm c j)) ((g.map (nm c)).map V.str))=true then _ else _;rw[qbp];cases ep:(g.map (nm c)).contains (nm c j) with
    |true =>
     have R:=(qgq p.nd r l).mp ep;obtain⟨B,g1,g2,g3⟩:=nm_ix p.nd r l nd R;have ld:((g.map (nm c)).map V.str).drop B=((g.drop B).map (nm c)).map V.str:=by rw[List.map_drop,List.map_drop]
     refine qby (nmc Z (nmc Z ⟨.inl ⟨Z,_,SqL.of n⟩,(nmc Z ⟨q,_,_,B,Z,Z,n,g2,g3,(nmc Z ⟨_,_,Z,SqL.of n,λp5 h5=>?_⟩)⟩)⟩));have li:B<g.length:=(Ah.mp g1).1;rw[qme _ _ (by rw[Ac,Ac];lia),ld];obtain⟨N,U⟩:=alc (o:=.lst (((g.drop B).map (nm c)).map V.str)) h5;generalize upd H' p5 _=H5 at N U |-;refine⟨fits (show 1<=100000 by decide),λy M=>⟨y,a.kC,p5,_,_,Z,qi,SqL.of (zc M _ _ U),T.gM,qm T.nW Ez,λS l1 H6 I J kp o1 G W=>⟨Z,?_⟩⟩⟩;have s6:Same H5 H6:=qbk M kp;have aa:S≠y:=λz=>by rw[z,qi]at I;cases I
     have ac:l1≠y:=λz=>by rw[z,qi]at J;cases J
     exact⟨y,_,some S,Z,o1,⟨_,G⟩,T.yE,kx y S l1 _ _ (qao (v.trans (N.trans s6)) ((v.trans N).free M)) qi ((qp aa).trans G) ((qp ac).trans W) (ch_rg ch nd r g1)⟩
    |false =>
     have R:j∉g:=λz=>by rw[(qgq p.nd r l).mpr z]at ep;cases ep
     have lz:((g.map (nm c)).map V.str).length<=90000:=by rw[Ac,Ac];lia
     refine qa9 (nmc Z ⟨.inl ⟨Z,_,SqL.of n⟩,(nmc Z ⟨_,_,_,Z,Z,n,qcz lz,?_⟩)⟩);have L:Same H (upd H' q (.lst ((g.map (nm c)).map V.str++[V.str (nm c j)]))):=qao v C;have h2:upd H' q (.lst ((g.map (nm c)).map V.str++[V.str (nm c j)])) q=some (.lst (((g++[j]).map (nm c)).map V.str)):=by rw[qi,Av,Av];rfl
     generalize upd H' q _=H2 at L h2 |-;refine(nmc Z (nmc Z ⟨d,_,Z,(Y j l) ▸ DGet.k (k:=.inr (nm c j)) (L _ _ hd),?_⟩));refine⟨L,g++[j],bo bs j,Z,h2,ch.snoc,?_,λi hi=>?_,λi e=>p.ok j i e,?_,by rw[Ag,AU];lia⟩
     .rw[AO];exact⟨nd,AM.mpr ⟨Aq,.nil⟩,λa ha b hb e=>R (by rw[<- Ai.mp hb,<- e];exact ha)⟩
     .rcases Az.mp hi with z|z
      .exact lt i z
      .rw[Ai.mp z];exact⟨l,nj⟩
     .have e:(g++[j])[0]?=some u:=st;rw[AT (by rw[Ag,AU];lia)];exact e
theorem qmp (T:Txt K mg a):FnOk P w K mg base (CX1 P w) 4 a.r6 a.mR ["rules"] (spHa7 a):=by
 refine okX T.dF.fn qcm (λvs H Q E h=>?_) (λcdv A outer s H vs Q E hr h=>?_)
 .obtain⟨_,_,_,_,rfl,_⟩:=h
  all_goals rfl
 .obtain⟨J,us,f,bs,rfl,N,m,S,k,kx⟩:=h;refine⟨_,(qe (qz (i:=1) qcm.nd Z (Ay Z) qlm)
   (qe (qch B3.leaving Z (qbn (pv 0)) (qaj (i:=2) qcm.nd Z (Ay Z)) (qh (qof (qf8 hr) (pv 1) (qaq (pv 2) Z) (qaq (pv 2) Z) Z)))
   (qe (qz (i:=3) qcm.nd Z (Ay Z) (zj qf))
   (qe (qch B3.leaving Z (qbn (pv 0)) (qaj (i:=2) qcm.nd Z (Ay Z)) (qh (qij (i:=3) qcm.nd Z (Ay Z) (qlu Z (by rfl) T.gA (by rfl) T.nJ qdn (qb (qes (qu5 T) (hr.mono Ez) Z T.dB.mgx T.dB.fn.kp T.dB.bd .nil (Takes.at qbo) (qb (qaq (pv 2) Z) (qb (pv 1) (qb (pv 3) qf qc) qc) qbe)) qf zn)) qio)))
   (qh (qk (pv 3))))))),?_⟩
  refine λd hd=>?_;obtain⟨s0,h0⟩:=alc (o:=.dK []) hd;generalize upd H d _=H0 at s0 h0 |-;have sm:=S.sm;refine(nmc Z ⟨_,Z,⟨_,SqL.of (s0 _ _ N)⟩,qds (K:=K) (a:=J) (xs:=us) (λi σ H'=>Same H H'/\∃(v:Option V)(kvs:List (Key×V)),σ=[some (.ref J),some (.ref d),v,none]/\H' d=some (.dK kvs)/\kvs.length<=i/\∀k<i,qek kvs (.inr (nm f k))=some (qhp f (bo bs k)))
   ⟨s0,none,[],Z,h0,A0 _,λk hk=>absurd hk (CQ _)⟩ (λi σ H' _ h=>SqL.of (h.1 _ _ N)) ?_ ?_⟩)
  .rintro i x σ H' B ⟨l,v,kvs,rfl,n,hl,M⟩;have X:i<f.length:=by rw[<- m.1];exact(Ah.mp B).1
   obtain⟨p,dx,fs,rfl,I,Y,r3⟩:=(m.2 i x B).same l;refine(nmc Z (flc (I) (T.k9) (qm T.kA Ez) (r3) (nmc Z (nmc Z (flc (I) (T.k9) (qm T.kA Ez) (Y) ⟨d,_,Z,DPut.k (k:=.inr (nm f i)) n (by rw[Bl];lia),?_⟩)))));exact⟨qao l hd,_,_,Z,qi,A3 (qg9 _ _ _) (DG hl),dic_put S.nd X M⟩
  .rintro σ H1 ⟨l,v,kvs,rfl,n,hl,M⟩;rw[m.1]at M;refine⟨qem,λt C=>?_⟩;have U:=l.trans (zc (o:=.lst []) C);have h2:=zc (o:=.lst []) C _ _ n;have u:=qi (H:=H1) (a:=t) (o:=.lst []);have nt:=l.free C;have aa:d≠t:=λz=>by rw[<- z,n]at C;cases C
   generalize upd H1 t _=H2 at U h2 u |-;refine(nmc Z ⟨_,Z,⟨_,SqL.of (U _ _ N)⟩,qds (K:=K) (a:=J) (xs:=us) (λi σ H'=>Same H H'/\H' d=some (.dK kvs)/\(∃g:List Nat,H' t=some (.lst ((g.map (nm f)).map V.str))/\g.Nodup/\(∀j∈g,j<f.length)/\Od (bo bs) g/\(∀j,j<i->j∈g)/\Hg (bo bs) i g)/\∃v:Option V,σ=[some (.ref J),some (.ref d),v,some (.ref t)])
    ⟨U,h2,⟨[],u,.nil,(λj r=>absurd r Aq),(λp k e=>by cases e),(λj r=>absurd r (CQ _)),.zero⟩,_,Z⟩ (λi σ H' _ h=>SqL.of (h.1 _ _ N)) ?_ ?_⟩)
   .rintro i x σ H' B ⟨l,n,⟨g,u,nd,q,od,F,G⟩,v,rfl⟩;have X:i<f.length:=by rw[<- m.1];exact(Ah.mp B).1
    obtain⟨p,dx,fs,rfl,I,Y,r3⟩:=(m.2 i x B).same l;refine(nmc Z (nmc Z (flc (I) (T.k9) (qm T.kA Ez) (Y) (nmc Z (nmc Z ⟨_,_,_,f,bs,g,i,Z,n,u,S,q,X,M,λq1 H3 D o n1 z1 e1 ch O y R W=>?_,kx.same l⟩)))));refine⟨_,_,Z,SqL.of e1,λq2 ac=>?_⟩;have er:((D.map (nm f)).map V.str).reverse=((D.reverse.map (nm f)).map V.str):=by rw[List.map_reverse,List.map_reverse]
    rw[er];have L:=z1.trans (zc (o:=.lst ((D.reverse.map (nm f)).map V.str)) ac);have e2:=qi (H:=H3) (a:=q2) (o:=.lst ((D.reverse.map (nm f)).map V.str));generalize upd H3 q2 _=H4 at L e2 |-;have lo:=qmf nd q;have li:=qmf O λk hk=>(y k hk).1;refine⟨_,_,_,_,Z,Z,L _ _ u,e2,fits (by rw[Ac,Ac,Ac,Ac,Dh];lia),?_⟩;refine⟨qao (l.trans L) nt,(qp aa).trans (L _ _ n),⟨g++D.reverse,?_,?_,λj r=>?_,od_app od ch W,λj r=>?_,.succ G (qrt ch (λj r=>(y j r).2) R W)⟩,_,Z⟩
    .rw[qi,Av,Av]
    .rw[AO];exact⟨nd,List.pairwise_reverse.mpr (O.imp Ba),λa ha b hb e=>(y b (CG.mp hb)).2 (e ▸ ha)⟩
    .rcases Az.mp r with z|z
     .exact q j z
     .exact(y j (CG.mp z)).1
    .by_cases c:j=i
     .rw[c];exact ch_hd R W
     .exact Az.mpr (.inl (F j (by lia)))
   .rintro σ H' ⟨l,n,⟨g,u,nd,q,od,F,G⟩,v,rfl⟩;rw[m.1]at F G;exact(nmc Z (k t H' g nt l u nd q od F G))
theorem qk1 (T:Txt K mg a):FnOk P w K mg base CX0 1 a.lZ a.pA ["sign"] spLow:=by
 refine T.bL.fn.ok qkz (λvs H Q E h=>?_) (λcdv A outer s H vs Q E hr h=>?_)
 .obtain⟨_,rfl,_⟩:=h
  all_goals rfl
 .obtain⟨c,rfl,k⟩:=h;refine⟨_,(qh (qk (qpf qh3 qh3 zi (pv 0) zi))),?_⟩;refine(nmc Z ⟨_,_,Z,Z,(nmc Z ?_)⟩);have b:Q (.bl (low c)) H:=k;unfold low at b;show if (!decide ((⟨#[c]⟩:Str).cps.toList<(Aa "a").cps.toList))=true then _ else _;rw[le_a];by_cases d:97<=c
  .rw[decide_eq_true d,CD]at b;rw[decide_eq_true d];refine qby ⟨_,_,Z,Z,?_⟩;show Q (.bl (!decide ((Aa "z").cps.toList<(⟨#[c]⟩:Str).cps.toList))) H;rw[le_z];exact b
  .rw[decide_eq_false d,Cg]at b;rw[decide_eq_false d];exact qa9 b
theorem qyf (T:Txt K mg a):FnOk P w K mg base CX0 2 a.fZ a.pH ["thing"] spNmG:=by
 refine T.dS.fn.ok qw7 (λvs H Q E h=>?_) (λcdv A outer s H vs Q E n h=>?_)
 .obtain⟨_,rfl,_⟩:=h
  all_goals rfl
 .obtain⟨x,rfl,r,k⟩:=h;refine⟨_,(qe (ze (qe0 (zh (zg qff (by rfl) T.kK qae (qb (pv 0) (qb (qdy (v:=.ty "str") Z T.kP qcl Z) qf qc) qc)))) (qh (qk qdr)) qad)
   (qe (ze (qe0 (qlh qlg qlg qg (zg qa5 (by rfl) T.kH qa2 (qb (pv 0) qf qc)) (qbs (v:=.int 8) Z T.rU.choose_spec ⟨_,Z⟩))) (qh (qk qdr)) qad)
   (qh (qk (zg (qjz Z) (by rfl) T.fS ql9 (qb (qd1 (N:=["sign"]) (js:=[none]) (XN:=["thing"]) (xs:=qab qk4) Z Z Z En (qoi (pv 0)) (λ_ _ _ _ _ _=>(qaj (i:=0) (show BY (["sign"]:List Str) from by decide +kernel) Z (Ay Z) (C8 Z))) (λ_ _ _ _ _ _=>qcf) (λ_ _ _ _ _ _=>(zf (qk1 T) (n.mono Ez) Z T.bL.mgx T.bL.fn.kp T.bL.bd .nil qam (qb (pv 0) qf qc)))) qf qi1)))))),?_⟩
  have hz:x.length<=A4:=fits (A3 r Ez);refine(nmc Z ⟨_,_,_,_,Z,.str _,qfu,(nmc Z (qa9 ?_))⟩);refine(nmc Z ⟨_,_,Z,⟨hz,Z⟩,(iic Z Z (nmc Z ?_))⟩);have e:=k H (Same.refl H);unfold nmB at e;refine qba (λc=>?_) (λc=>?_)
  .have m:1<=(x.cps.size:Int):=of_decide_eq_true c;refine(iic Z Z (nmc Z ?_));refine qba (λd=>?_) (λd=>?_)
   .have j:decide ((x.cps.size:Int)<=8)=false:=by
     cases q:decide ((x.cps.size:Int)<=8) with|false=>rfl|true =>have f:(!decide ((x.cps.size:Int)<=8))=true:=d;rw[q]at f;cases f
    have d':=of_decide_eq_false j
    rw[decide_eq_false (show ¬x.cps.size<=8 by lia),Dm,Cg]at e
    exact e
   .have j:decide ((x.cps.size:Int)<=8)=true:=by
     cases q:decide ((x.cps.size:Int)<=8) with|true=>rfl|false =>have f:¬(!decide ((x.cps.size:Int)<=8))=true:=d;rw[q]at f;exact absurd rfl f
    have d':=of_decide_eq_true j
    refine(nmc Z ⟨_,Z,?_⟩)
    refine qbi (λv=>match v with | .str y=>.bl (low (y.cps.getD 0 0))|_=>.non) (λσ'=>∃v,σ'=[v]) qlp ?_ ?_ (λv σ' H' R t sm l q=>?_) qcx λp u=>?_
    .rw[Ac,A7];exact hz
    .exact⟨none,Z⟩
    .obtain⟨c,hc,rfl⟩:=AS.mp t;obtain⟨v0,rfl⟩:=l;exact(nmc Z ⟨c,Z,q _ ⟨_,Z⟩⟩)
    refine⟨p,x.cps.toList.map low,Z,SqL.of (by rw[qi,AV,AV];rfl),?_⟩
    have g:=k _ (zc (o:=.lst ((x.cps.toList.map λc=>V.str ⟨#[c]⟩).map λv=>match v with | .str y=>.bl (low (y.cps.getD 0 0))|_=>.non)) u)
    unfold nmB at g
    rw[decide_eq_true (show 1<=x.cps.size by lia),decide_eq_true (show x.cps.size<=8 by lia),CD,CD]at g
    show Q (.bl ((x.cps.toList.map low).all λb=>b)) _
    rw[DZ]
    exact g
  .have m:¬1<=(x.cps.size:Int):=λz=>c (decide_eq_true z);rw[decide_eq_false (show ¬1<=x.cps.size by lia),Cg,Cg]at e;exact(nmc Z (qby e))
theorem qsa (T:Txt K mg a):FnOk P w K mg base (CX1 P w) 5 a.fH a.nB ["self","rules"] (spBIG a):=by
 refine okX T.nP.fn qmb (λvs H Q E h=>?_) (λcdv A outer s H vs Q E hr h=>?_)
 .obtain⟨_,_,_,_,_,rfl,_⟩:=h
  all_goals rfl
 .obtain⟨x,dx,O,rs,As,rfl,hx,l,j,nn,l6,aa,ru,k,kx⟩:=h;refine⟨_,(qe (qd4 (pv 0) (qes (qmp T) (hr.mono Ez) Z T.dF.mgx T.dF.fn.kp T.dF.bd .nil (Takes.at qbo) (qb (pv 1) qf qc)) Z)
   (qe (qd4 (pv 0) qlm Z)
   (qh (qch B3.leaving Z (qbn (pv 1)) (qaj (i:=2) qmb.nd Z (Ay Z)) (qh (qof (qf8 hr) (qaq (pv 0) Z) (qaq (pv 2) Z) (pv 2) Z)))))),?_⟩
  have wr:=qtd nn l6;have sm:=l6;have ac:=rus_of j aa ru;refine(nmc Z ⟨_,_,_,_,Z,l,ac,wr,λc L X no s1 e1 nd C od Y hg=>?_,kx⟩);have x1:=s1 _ _ hx;refine(nmc Z ⟨_,_,_,_,Z,x1,T.kO,qm T.kY Ez,Ez,?_⟩);rw[put1];have D:c≠x:=λz=>by rw[z,hx]at no;cases no
  have M:SameBut x H (upd L x (.ins a.kL dx [(Aa "order",.ref c)])):=(SameBut.of s1).set;have U:=qi (H:=L) (a:=x) (o:=.ins a.kL dx [(Aa "order",.ref c)]);have S:=(qp (o:=.ins a.kL dx [(Aa "order",.ref c)]) D).trans e1;generalize upd L x _=H2 at M U S |-;refine λd hd=>?_;obtain⟨J,d3⟩:=alc (o:=.dK []) hd;have x3:=J _ _ U;have g:d≠x:=λz=>by rw[z,U]at hd;cases hd
  have ad:c≠d:=λz=>by rw[<- z,S]at hd;cases hd
  have ae:=M.free g hd;refine(nmc Z ⟨_,_,_,_,Z,x3,T.kO,qm T.kY Ez,(show 1<1000 by decide),?_⟩);rw[put2 _ _ En];have I:SameBut x H (upd (upd H2 d (.dK [])) x (.ins a.kL dx (bfs c d))):=(M.trans (SameBut.of J)).set;have x4:=qi (H:=upd H2 d (.dK [])) (a:=x) (o:=.ins a.kL dx (bfs c d));have o4:=(qp (o:=.ins a.kL dx (bfs c d)) D).trans (J _ _ S);have d4:=(qp (o:=.ins a.kL dx (bfs c d)) g).trans d3;generalize upd (upd H2 d (.dK [])) x _=H4 at I x4 o4 d4 |-;have G:O≠x:=λz=>by rw[z,hx]at l;cases l
  have rule:∀{H':Hp}{i:Nat}{y:V},SameBut x H H'->(As.map λA=>V.ref A.p)[i]?=some y->∃r A,rs[i]?=some r/\As[i]?=some A/\y=.ref A.p/\∃v,H' A.p=some (.ins a.k8 A.dx (rlR A r v)):=λ{H' i y} b e=>by
   rw[Ak]at e;cases B:As[i]? with
   |none=>rw[B]at e;cases e
   |some A =>rw[B]at e;cases e;have N:=(Ah.mp B).1;rw[j]at N;obtain⟨v,us,h⟩:=ru _ _ A (Al N) B;refine⟨_,A,Al N,Z,Z,v,b _ _ (λz=>?_) h.hx⟩;have m:=h.hx;rw[z,hx]at m;injection m with m;injection m with _ _ h5;cases h5
  refine(nmc Z ⟨_,Z,⟨_,SqL.of (I _ _ G l)⟩,qds (K:=K) (a:=O) (xs:=As.map λA=>.ref A.p) (λi σ H'=>SameBut x H H'/\H' x=some (.ins a.kL dx (bfs c d))/\H' c=some (.lst ((X.map (nm (rs.map RR.name))).map V.str))/\H' d=some (.dK (dcR (rs.take i) (As.take i)))/\∃R:Option V,σ=[some (.ref x),some (.ref O),R])
   ⟨I,x4,o4,(by rw[List.take_zero,List.take_zero];exact d4),none,Z⟩ (λi σ H' _ h=>SqL.of (h.1 _ _ G l)) ?_ ?_⟩)
  .rintro i y σ H' hy ⟨u,q,W,t,R,rfl⟩;obtain⟨r,A,f,hA,rfl,v,r1⟩:=rule u hy;have hi:i<rs.length:=(Ah.mp f).1;have lt:(As.take i).length=(rs.take i).length:=by rw[AZ,AZ,j]
   have ep:qgi (dcR (rs.take i) (As.take i)) (.inr r.name) (.ref A.p)=dcR (rs.take (i+1)) (As.take (i+1)):=by
    rw[qbr f,qbr hA,qmh r A lt];refine qlk _ ?_;rw[qgr _ lt,qc7.mpr]
    .rfl
    .intro z;rw[List.map_take]at z;have F:=nn;rw[<- C1 i (rs.map RR.name),AO]at F;refine F.2.2 _ z r.name ?_ rfl;rw[<- List.map_drop,Cy hi,A6];rw[Al hi]at f;cases f;exact Am
   refine(nmc Z (nmc Z (flc (q) (T.kO) (qm T.kY Ez) (rfl) (nmc Z (flc (r1) (T.k9) (qm T.kA Ez) (rfl) ⟨d,_,Z,DPut.k (k:=.inr r.name) t (by rw[Bl,qji lt,AZ];lia),?_⟩)))));rw[ep];exact⟨λb o n e=>by rw[qp (qaf e ae)];exact u b o n e,(qp g.symm).trans q,(qp ad).trans W,qi,_,Z⟩
  .rintro σ H' ⟨u,q,W,t,R,rfl⟩;rw[Ac,j,B8,B5 (BW j)]at t;rw[Ac]at C;exact k H' X u ⟨dx,c,d,q,W,t⟩ ⟨nd,C,od,(by rw[Ac]at Y;exact Y),by rw[Ac]at hg;exact hg⟩
theorem qu6 (T:Txt K mg a):FnOk P w K mg base CX0 1 a.nA a.mS ["text"] spLnG:=by
 refine T.bU.fn.ok quo (λvs H Q E h=>?_) (λcdv A outer s H vs Q E hr h=>?_)
 .obtain⟨_,rfl,_⟩:=h
  all_goals rfl
 .obtain⟨b,rfl,hl,k⟩:=h;refine⟨_,(qh (qk (qea (pt_valS (pv 0)) (qcd B6 Dy Dz qi5 (pv 0) (qb zi qf qj)) (zj qf)))),?_⟩;have ll:(qco b).length<=20100:=qxl hl;refine(nmc Z ⟨_,Z,fits (by lia),?_⟩);by_cases c:b=[]
  .subst c;refine iteF' En ⟨qem,λq f=>?_⟩;exact k q _ f (zc f) qi
  .have es:BU (qco b) (wS "\n")=b:=by rw[newl];exact qlt 10 c λp d=>(hl.c p d).2
   have e:=qfv (qco b) 10;rw[<- newl]at e;have hn:=hl.n;refine iteT' (decide_eq_true (text_ne hl c)) (nmc Z ⟨Z,_,_,Z,Z,Z,fits (by lia),fits (by rw[es];lia),fits (A3 e (by lia)),λp d=>?_⟩);rw[es];exact k p _ d (zc d) qi
theorem qu7 (T:Txt K mg a):FnOk P w K mg base CX0 4 a.mM a.nC ["word","asked"] spValG:=by
 refine T.bZ.fn.ok qup (λvs H Q E h=>?_) (λcdv A outer s H vs Q E g h=>?_)
 .obtain⟨_,_,rfl,_⟩:=h
  all_goals rfl
 .obtain⟨l,q,rfl,ok,i,k⟩:=h;refine⟨_,(qe (ze (zh (zg qff (by rfl) T.kK qae (qb (pv 1) (qb (qdy (v:=.ty "int") Z T.kZ qeb Z) qf qc) qc))) (qh (qk (zf (qye T) (g.mono Ez) Z T.bH.mgx T.bH.fn.kp T.bH.bd .nil qam (qb (pv 0) (qb (pv 1) qf qc) qc)))) qad)
   (qe (ze (qu qav (pv 1) zi (qac _)) (qh (qk (qea (zh (zf (qyf T) (g.mono Ez) Z T.dS.mgx T.dS.fn.kp T.dS.bd .nil qam (qb (pv 0) qf qc))) (pv 0) qas))) qad)
   (qe (ze (qu qav (pv 1) zi (qac _)) (qh (qk (qea (qu qdj (pv 0) (qbs (v:=.ref a.fM) Z T.xW Z) (by with_unfolding_all rfl)) (pv 0) qas))) qad)
   (qh (qk (qea (qu qav (pv 0) (pv 1) (qac _)) (pv 0) qas)))))),?_⟩
  cases q with
  |num m =>
   obtain⟨p,n⟩:=ok;unfold qdw at k;dsimp only at k;refine(nmc Z ⟨_,_,_,_,Z,.int _,qha,(nmc Z (qby (nmc Z (nmc Z ⟨_,_,Z,A3 i Ez,p,n,λe b d=>?_,λe b d=>?_⟩))))⟩)
   .have:=k b d;rw[if_pos e]at this;exact this
   .have:=k b d;rw[if_neg (by rw[e];decide)]at this;exact this
  |name =>
   unfold qdw at k;dsimp only at k;refine(nmc Z ⟨_,_,_,_,Z,.str _,qhc,(nmc Z (qa9 (nmc Z ⟨Z,(nmc Z (qcy Z ?_))⟩)))⟩);refine(nmc Z ⟨_,Z,i,λb d=>(nmc Z ?_)⟩);have:=k b d;refine qba (λc=>?_) (λc=>?_)
   .rw[if_pos c]at this;exact(nmc Z this)
   .rw[if_neg c]at this;exact this
  |unit =>
   unfold qdw at k;dsimp only at k;refine(nmc Z ⟨_,_,_,_,Z,.str _,qhc,(nmc Z (qa9 (nmc Z ⟨Z,(nmc Z (qal En (nmc Z ⟨Z,(nmc Z (qcy Z (nmc Z ⟨_,_,Z,.inr (T.tM H),Z,Z,(nmc Z ?_)⟩)))⟩)))⟩)))⟩);show if inV (.str l) (qbu.map V.str)=true then _ else _;rw[qbp];have:=k H (Same.refl H);refine qba (λc=>?_) (λc=>?_)
   .rw[if_pos c]at this;exact(nmc Z this)
   .rw[if_neg c]at this;exact this
  |lit c =>
   obtain⟨o,j⟩:=ok;unfold qdw at k;dsimp only at k;refine(nmc Z ⟨_,_,_,_,Z,.str _,qhc,(nmc Z (qa9 (nmc Z ⟨Z,(nmc Z (qal (λz=>o (V.str.inj z)) (nmc Z ⟨Z,(nmc Z (qal (λz=>j (V.str.inj z)) ?_))⟩)))⟩)))⟩);have:=k H (Same.refl H);refine(nmc Z (nmc Z ⟨Z,(nmc Z (qba (λf=>?_) (λf=>?_)))⟩))
   .rw[if_pos (V.str.inj (of_decide_eq_true f))]at this;exact(nmc Z this)
   .rw[if_neg (λz=>f (decide_eq_true (by rw[z];rfl)))]at this;exact this
theorem okRowOf (T:Txt K mg a):FnOk P w K mg base CX0 5 a.pO a.nM ["line"] spRowG:=by
 refine T.bT.fn.ok qk6 (λvs H Q E h=>?_) (λcdv A outer s H vs Q E hr h=>?_)
 .obtain⟨_,rfl,_⟩:=h
  all_goals rfl
 .obtain⟨l,rfl,hl,k,kn⟩:=h;refine⟨_,(qe (qz (i:=1) qk6.nd Z (Ay Z) (qcd B6 Dy Dz qi5 (pv 0) (qb zi qf qj)))
   (qe (qch Bp Z (pi_tup (qbs (v:=.ref a.bV) Z T.sL Z)) (qaj (i:=2) qk6.nd Z (Ay Z)) (qh (ze (qu qav (zg qa5 (by rfl) T.kH qa2 (qb (pv 1) qf qc)) (zg qa5 (by rfl) T.kH qa2 (qb (pv 2) qf qc)) (qac _)) (qe (qfg (i:=3) qk6.nd Z Z (N:=["word","asked"]) (js:=[none,none]) (XN:=["line","words","form","row"]) (xs:=qab qor) Z Z Z En (pi_zip Z T.sY (qb (pv 1) (qb (pv 2) qf qc) qc)) (λ_ _ _ _ _ _=>(qsy (K:=K) Z (n:=2) Z (qca (qaj (i:=0) (show BY (["word","asked"]:List Str) from by decide +kernel) Z (Ay Z) (C8 Z)) (qca (qaj (i:=1) (show BY (["word","asked"]:List Str) from by decide +kernel) Z (Ay Z) (C8 Z)) qh1)))) (λ_ _ _ _ _ _=>qcf) (λ_ _ _ _ _ _=>(zf (qu7 T) (hr.mono Ez) Z T.bZ.mgx T.bZ.fn.kp T.bZ.bd .nil qam (qb (pv 0) (qb (pv 1) qf qc) qc))))
   (qh (ze (qu qcc qas (pv 3) (by with_unfolding_all rfl)) (qh (qk (pv 3))) qad))) qad)))
   (qh (qk qas)))),?_⟩
  obtain⟨D,r⟩:=qj1 l 32;rw[<- qkm]at D r;have eb:=qfv l 32;rw[<- qkm]at eb;refine(nmc Z ⟨Z,_,_,Z,Z,Z,fits (A3 hl Ez),fits (A3 D (by lia)),fits (A3 eb (by lia)),λp hp=>?_⟩);generalize BU l (wS " ")=ws at D r k kn hp |-;obtain⟨L,G⟩:=alc (o:=.lst (ws.map V.str)) hp;generalize upd H p _=H1 at L G |-;have ft:∀(i:Nat)(v:V),[.ref a.dG,.ref a.dY,.ref a.bI,.ref a.dO,.ref a.dL,.ref a.bQ,.ref a.bX][i]?=some v->∃(f:List Ask)(t:Addr),qmg[i]?=some f/\v=.ref t/\∀H,SqT K H t (f.map askV):=λi v e=>by
   have hi:i<7:=(Ah.mp e).1;rcases (by lia:i=0\/i=1\/i=2\/i=3\/i=4\/i=5\/i=6) with rfl|rfl|rfl|rfl|rfl|rfl|rfl
   .cases e;exact⟨_,_,Z,Z,λH=>T.tF H⟩
   .cases e;exact⟨_,_,Z,Z,λH=>T.sQ H⟩
   .cases e;exact⟨_,_,Z,Z,λH=>T.sN H⟩
   .cases e;exact⟨_,_,Z,Z,λH=>T.yA H⟩
   .cases e;exact⟨_,_,Z,Z,λH=>T.tV H⟩
   .cases e;exact⟨_,_,Z,Z,λH=>T.tQ H⟩
   .cases e;exact⟨_,_,Z,Z,λH=>T.sF H⟩
  refine⟨_,Z,⟨_,T.pT _⟩,qym (K:=K) (a:=a.bV) (xs:=[.ref a.dG,.ref a.dY,.ref a.bI,.ref a.dO,.ref a.dL,.ref a.bQ,.ref a.bX]) (λi σ H'=>Same H1 H'/\(∀j f,j<i->qmg[j]?=some f->qcr ws f=none)/\∃v2 W:Option V,σ=[some (.str l),some (.ref p),v2,W]) ⟨Same.refl H1,λj f C=>absurd C (CQ _),none,none,Z⟩ (λi σ H' _ h=>T.pT _) ?_ ?_⟩
  .rintro i v σ H' hv ⟨b,I,v2,W,rfl⟩;obtain⟨f,t,B,rfl,Y⟩:=ft i v hv;have x:=b _ _ G;have next:qcr ws f=none->∀j g,j<i+1->qmg[j]?=some g->qcr ws g=none:=λe j g C U=>by
    by_cases c:j=i
    .rw[c,B]at U;cases U;exact e
    .exact I j g (by lia) U
   refine(nmc Z ⟨_,_,Z,.inl ⟨_,SqL.of x,Z⟩,(nmc Z ⟨_,_,Z,.inr ⟨_,Y _,Z⟩,Z,(nmc Z ?_)⟩)⟩);rw[Ac,Ac];by_cases d:ws.length=f.length
   .refine qcy (by rw[d]) ?_;refine(nmc Z (nmc Z ⟨_,_,_,_,Z,x,Y _,qwv (zsG ws f) (λσ'=>∃v v',σ'=[v,v']) (SqL.of x) (Y _) (by rw[Ac,Ac,d]) (by rw[zsG_len d,Ac]) (fits (by rw[Ac];lia)) ⟨none,none,Z⟩ (λj y av z t' σ' J RR m u h3 sm aa s4 qq=>?_) (qwm λxs σ' H' RR RR' hh z=>?_) λq H2 nq M S=>?_⟩))
    .obtain⟨v,v',rfl⟩:=s4;rw[Ak]at m u;cases R:ws[j]? with
     |none=>rw[R]at m;cases m
     |some w1 =>
      cases O:f[j]? with
      |none=>rw[O]at u;cases u
      |some qa =>
       rw[R]at m;rw[O]at u;cases m;cases u;have hz:z=(qdw w1 qa).getD .non:=by unfold zsG at h3;rw[Ak,show (ws.zip f)[j]?=some (w1,qa) from List.getElem?_zip_eq_some.mpr ⟨R,O⟩]at h3;exact(A9 h3).symm
       subst hz;exact⟨_,_,Z,SqT.of aa,Z,_,_,Z,_,_,Z,Z,(nmc Z (nmc Z ⟨w1,qa,Z,qxe f (At B) qa (At O),A3 (r _ (At R)) (by lia),λJ2 M=>qq _ _ ⟨_,_,Z⟩ M⟩))⟩
    .obtain⟨x1,y1,G,x2,y2,x,z⟩:=z;exact⟨x1,y1,G,x2,y2,x,⟨z.1,hh _ _ z.2⟩⟩
    .refine(nmc Z ⟨_,_,Z,.inl (SqL.of S),Z,qxd ws f,(nmc Z ?_)⟩);have F:=qs9 d;show if (!inV .non (zsG ws f))=true then _ else _;cases ec:inV .non (zsG ws f) with
     |true =>rw[ec]at F;exact qa9 ⟨b.trans M,next F,_,_,Z⟩
     |false =>
      rw[ec]at F;have X:qjg ws=some (zsG ws f):=by unfold qjg;exact qta B F I
      exact qby (nmc Z (k q H2 _ ((L.trans b).free nq) ((L.trans b).trans M) X S))
   .exact qal (λz=>d (Int.ofNat.inj (V.int.inj z))) ⟨b,next (qa0 d),_,_,Z⟩
  .rintro σ H' ⟨b,I,v2,W,rfl⟩;have X:qjg ws=none:=by unfold qjg;rw[List.findSome?_eq_none_iff];intro f B;obtain⟨j,C⟩:=AL B;exact I j f (by have:=(Ah.mp C).1;exact this) C
   exact kn X H' (L.trans b)
theorem qsb (T:Txt K mg a):FnOk P w K mg base CX0 1 a.fU a.fF ["self","name","who","owes","opens","base","many","unit","still"] (spRlG a):=by
 refine T.xL.fn.ok qrr (λvs H Q E h=>?_) (λcdv A outer s H vs Q E hr h=>?_)
 .obtain⟨_,_,_,_,_,_,_,_,_,_,rfl,_⟩:=h
  all_goals rfl
 .obtain⟨x,dx,b,c,d,f,i,l,m,g,rfl,hx,k⟩:=h;refine⟨_,(qe (qd4 (pv 0) (pv 1) Z)
   (qe (qd4 (pv 0) (pv 2) Z)
   (qe (qd4 (pv 0) (pv 3) Z)
   (qe (qd4 (pv 0) (pv 4) Z)
   (qe (qd4 (pv 0) (pv 5) Z)
   (qe (qd4 (pv 0) (pv 6) Z)
   (qe (qd4 (pv 0) (pv 7) Z)
   (qe (qd4 (pv 0) (pv 8) Z)
   (qe (qd4 (pv 0) (zj qf) Z)
   (qe (qd4 (pv 0) (zj qf) Z)
   (qe (qd4 (pv 0) (zj qf) Z)
   (qh (qd4 (pv 0) (zj qf) Z))))))))))))),?_⟩
  have b0:SameBut x H H:=λ_ _ _ e=>e;have x0:=hx;refine(nmc Z (nmc Z ⟨_,_,_,_,Z,x0,T.k9,qm T.kA Ez,(show 0<1000 by decide),?_⟩));rw[show qdc (Aa "name") b []=(rq1 b) by with_unfolding_all rfl];have b1:SameBut x H (upd H x (.ins a.k8 dx (rq1 b))):=b0.set;have x1:=qi (H:=H) (a:=x) (o:=.ins a.k8 dx (rq1 b));generalize upd H x _=H1 at b1 x1 |-;refine(nmc Z (nmc Z ⟨_,_,_,_,Z,x1,T.k9,qm T.kA Ez,(show 1<1000 by decide),?_⟩));rw[show qdc (Aa "who") c (rq1 b)=(rq2 b c) by with_unfolding_all rfl];have b2:SameBut x H (upd H1 x (.ins a.k8 dx (rq2 b c))):=b1.set;have x2:=qi (H:=H1) (a:=x) (o:=.ins a.k8 dx (rq2 b c));generalize upd H1 x _=H2 at b2 x2 |-;refine(nmc Z (nmc Z ⟨_,_,_,_,Z,x2,T.k9,qm T.kA Ez,(show 2<1000 by decide),?_⟩));rw[show qdc (Aa "owes") d (rq2 b c)=(rq3 b c d) by with_unfolding_all rfl];have b3:SameBut x H (upd H2 x (.ins a.k8 dx (rq3 b c d))):=b2.set;have x3:=qi (H:=H2) (a:=x) (o:=.ins a.k8 dx (rq3 b c d));generalize upd H2 x _=H3 at b3 x3 |-;refine(nmc Z (nmc Z ⟨_,_,_,_,Z,x3,T.k9,qm T.kA Ez,(show 3<1000 by decide),?_⟩));rw[show qdc (Aa "opens") f (rq3 b c d)=(rq4 b c d f) by with_unfolding_all rfl];have b4:SameBut x H (upd H3 x (.ins a.k8 dx (rq4 b c d f))):=b3.set;have x4:=qi (H:=H3) (a:=x) (o:=.ins a.k8 dx (rq4 b c d f));generalize upd H3 x _=H4 at b4 x4 |-;refine(nmc Z (nmc Z ⟨_,_,_,_,Z,x4,T.k9,qm T.kA Ez,(show 4<1000 by decide),?_⟩));rw[show qdc (Aa "base") i (rq4 b c d f)=(rq5 b c d f i) by with_unfolding_all rfl];have b5:SameBut x H (upd H4 x (.ins a.k8 dx (rq5 b c d f i))):=b4.set;have x5:=qi (H:=H4) (a:=x) (o:=.ins a.k8 dx (rq5 b c d f i));generalize upd H4 x _=H5 at b5 x5 |-;refine(nmc Z (nmc Z ⟨_,_,_,_,Z,x5,T.k9,qm T.kA Ez,(show 5<1000 by decide),?_⟩));rw[show qdc (Aa "many") l (rq5 b c d f i)=(rq6 b c d f i l) by with_unfolding_all rfl];have b6:SameBut x H (upd H5 x (.ins a.k8 dx (rq6 b c d f i l))):=b5.set;have x6:=qi (H:=H5) (a:=x) (o:=.ins a.k8 dx (rq6 b c d f i l));generalize upd H5 x _=H6 at b6 x6 |-;refine(nmc Z (nmc Z ⟨_,_,_,_,Z,x6,T.k9,qm T.kA Ez,(show 6<1000 by decide),?_⟩));rw[show qdc (Aa "unit") m (rq6 b c d f i l)=(rq7 b c d f i l m) by with_unfolding_all rfl];have b7:SameBut x H (upd H6 x (.ins a.k8 dx (rq7 b c d f i l m))):=b6.set;have x7:=qi (H:=H6) (a:=x) (o:=.ins a.k8 dx (rq7 b c d f i l m));generalize upd H6 x _=H7 at b7 x7 |-;refine(nmc Z (nmc Z ⟨_,_,_,_,Z,x7,T.k9,qm T.kA Ez,(show 7<1000 by decide),?_⟩));rw[show qdc (Aa "still") g (rq7 b c d f i l m)=(rq8 b c d f i l m g) by with_unfolding_all rfl];have b8:SameBut x H (upd H7 x (.ins a.k8 dx (rq8 b c d f i l m g))):=b7.set;have x8:=qi (H:=H7) (a:=x) (o:=.ins a.k8 dx (rq8 b c d f i l m g));generalize upd H7 x _=H8 at b8 x8 |-;refine⟨qem,λn L=>?_⟩;obtain⟨s8,j⟩:=alc (o:=.lst []) L;have ag:=s8 _ _ x8;have t:n≠x:=λz=>by rw[z,x8]at L;cases L
  have aq:H n=none:=b8.free t L;have af:=b8.trans (SameBut.of s8);generalize upd H8 n _=J8 at s8 j ag af  |-;refine(nmc Z ⟨_,_,_,_,Z,ag,T.k9,qm T.kA Ez,(show 8<1000 by decide),?_⟩);rw[show qdc (Aa "ends") (.ref n) (rq8 b c d f i l m g)=(rq9 b c d f i l m g (.ref n)) by with_unfolding_all rfl];have b9:SameBut x H (upd J8 x (.ins a.k8 dx (rq9 b c d f i l m g (.ref n)))):=af.set;have x9:=qi (H:=J8) (a:=x) (o:=.ins a.k8 dx (rq9 b c d f i l m g (.ref n)));have j:=(qp (o:=.ins a.k8 dx (rq9 b c d f i l m g (.ref n))) t).trans j;generalize upd J8 x _=H9 at b9 x9 j  |-;refine⟨qem,λq F=>?_⟩;obtain⟨s9,p⟩:=alc (o:=.lst []) F;have ah:=s9 _ _ x9;have y:q≠x:=λz=>by rw[z,x9]at F;cases F
  have ar:H q=none:=b9.free y F;have ae:=qaf j F;have j:=s9 _ _ j;have ai:=b9.trans (SameBut.of s9);generalize upd H9 q _=J9 at s9 p ah ai j |-;refine(nmc Z ⟨_,_,_,_,Z,ah,T.k9,qm T.kA Ez,(show 9<1000 by decide),?_⟩);rw[show qdc (Aa "anew") (.ref q) (rq9 b c d f i l m g (.ref n))=(qru b c d f i l m g (.ref n) (.ref q)) by with_unfolding_all rfl];have R:SameBut x H (upd J9 x (.ins a.k8 dx (qru b c d f i l m g (.ref n) (.ref q)))):=ai.set;have W:=qi (H:=J9) (a:=x) (o:=.ins a.k8 dx (qru b c d f i l m g (.ref n) (.ref q)));have p:=(qp (o:=.ins a.k8 dx (qru b c d f i l m g (.ref n) (.ref q))) y).trans p;have j:=(qp (o:=.ins a.k8 dx (qru b c d f i l m g (.ref n) (.ref q))) t).trans j;generalize upd J9 x _=H10 at R W p j |-;refine⟨qem,λpl B=>?_⟩;obtain⟨I,r⟩:=alc (o:=.lst []) B;have S:=I _ _ W;have D:pl≠x:=λz=>by rw[z,W]at B;cases B
  have ao:H pl=none:=R.free D B;have ad:=qaf j B;have Y:=qaf p B;have j:=I _ _ j;have p:=I _ _ p;have O:=R.trans (SameBut.of I);generalize upd H10 pl _=J10 at I r S O j p |-;refine(nmc Z ⟨_,_,_,_,Z,S,T.k9,qm T.kA Ez,(show 10<1000 by decide),?_⟩);rw[show qdc (Aa "longer") (.ref pl) (qru b c d f i l m g (.ref n) (.ref q))=(qqk b c d f i l m g (.ref n) (.ref q) (.ref pl)) by with_unfolding_all rfl];have M:SameBut x H (upd J10 x (.ins a.k8 dx (qqk b c d f i l m g (.ref n) (.ref q) (.ref pl)))):=O.set;have V:=qi (H:=J10) (a:=x) (o:=.ins a.k8 dx (qqk b c d f i l m g (.ref n) (.ref q) (.ref pl)));have r:=(qp (o:=.ins a.k8 dx (qqk b c d f i l m g (.ref n) (.ref q) (.ref pl))) D).trans r;have j:=(qp (o:=.ins a.k8 dx (qqk b c d f i l m g (.ref n) (.ref q) (.ref pl))) t).trans j;have p:=(qp (o:=.ins a.k8 dx (qqk b c d f i l m g (.ref n) (.ref q) (.ref pl))) y).trans p;generalize upd J10 x _=H11 at M V r j p |-;refine⟨qem,λu v=>?_⟩;obtain⟨C,G⟩:=alc (o:=.lst []) v;have U:=C _ _ V;have J:u≠x:=λz=>by rw[z,V]at v;cases v
  have au:H u=none:=M.free J v;have X:=qaf j v;have aa:=qaf p v;have ac:=qaf r v;have j:=C _ _ j;have p:=C _ _ p;have r:=C _ _ r;have N:=M.trans (SameBut.of C);generalize upd H11 u _=J11 at C G U N j p r |-;refine(nmc Z ⟨_,_,_,_,Z,U,T.k9,qm T.kA Ez,(show 11<1000 by decide),?_⟩);rw[show qdc (Aa "yields") (.ref u) (qqk b c d f i l m g (.ref n) (.ref q) (.ref pl))=(qrv b c d f i l m g (.ref n) (.ref q) (.ref pl) (.ref u)) by with_unfolding_all rfl];have ak:SameBut x H (upd J11 x (.ins a.k8 dx (qrv b c d f i l m g (.ref n) (.ref q) (.ref pl) (.ref u)))):=N.set;have am:=qi (H:=J11) (a:=x) (o:=.ins a.k8 dx (qrv b c d f i l m g (.ref n) (.ref q) (.ref pl) (.ref u)));have G:=(qp (o:=.ins a.k8 dx (qrv b c d f i l m g (.ref n) (.ref q) (.ref pl) (.ref u))) J).trans G;have j:=(qp (o:=.ins a.k8 dx (qrv b c d f i l m g (.ref n) (.ref q) (.ref pl) (.ref u))) t).trans j;have p:=(qp (o:=.ins a.k8 dx (qrv b c d f i l m g (.ref n) (.ref q) (.ref pl) (.ref u))) y).trans p;have r:=(qp (o:=.ins a.k8 dx (qrv b c d f i l m g (.ref n) (.ref q) (.ref pl) (.ref u))) D).trans r;generalize upd J11 x _=H12 at ak am G j p r |-;refine k H12 n q pl u ak aq ar ao au am j p r G ?_;simp only[AM,An,Aq,or_false,not_or];exact⟨⟨t.symm,y.symm,D.symm,J.symm⟩,⟨ae,ad,X⟩,⟨Y,aa⟩,ac,not_false,.nil⟩
theorem qqv (T:Txt K mg a):FnOk P w K mg base CX0 1 a.fG a.nN ["self","name"] (spI1 K "name"):=by
 refine T.fY.fn.ok qqg (λvs H Q E h=>?_) (λcdv A outer s H vs Q E hr h=>?_)
 .obtain⟨_,_,_,_,rfl,_⟩:=h
  all_goals rfl
 .obtain⟨x,C,y,d,rfl,c,f,no,k⟩:=h;refine⟨_,(qe (zd (qhe T.bA Z T.kR (qb (pv 0) (qb (pv 1) qf qc) qc)))
   (qh (qi4 (pv 0) (pv 1) Z))),?_⟩
  refine(nmc Z (nmc Z ⟨x,C,none,[y],d,Z,c,f.xc,fits (show 1<=100000 by decide),?_⟩));refine(nmc Z (nmc Z ⟨x,C,true,Z,f.set no,.inl ⟨c,λdx hd=>?_⟩⟩));have g:dx≠x:=λz=>by rw[z,c]at hd;cases hd
  exact k dx _ hd (λb o i e=>by rw[qp i,qp (qaf e hd)];exact e) qi (by rw[qp g];exact qi)
theorem qhz (T:Txt K mg a):FnOk P w K mg base CX0 1 a.fV a.rP ["self","at"] (spI1 K "at"):=by
 refine T.gK.fn.ok qqh (λvs H Q E h=>?_) (λcdv A outer s H vs Q E hr h=>?_)
 .obtain⟨_,_,_,_,rfl,_⟩:=h
  all_goals rfl
 .obtain⟨x,C,y,d,rfl,c,f,no,k⟩:=h;refine⟨_,(qe (zd (qhe T.bA Z T.kR (qb (pv 0) (qb (pv 1) qf qc) qc)))
   (qh (qi4 (pv 0) (pv 1) Z))),?_⟩
  refine(nmc Z (nmc Z ⟨x,C,none,[y],d,Z,c,f.xc,fits (show 1<=100000 by decide),?_⟩));refine(nmc Z (nmc Z ⟨x,C,true,Z,f.set no,.inl ⟨c,λdx hd=>?_⟩⟩));have g:dx≠x:=λz=>by rw[z,c]at hd;cases hd
  exact k dx _ hd (λb o i e=>by rw[qp i,qp (qaf e hd)];exact e) qi (by rw[qp g];exact qi)
theorem qsc (T:Txt K mg a):FnOk P w K mg base (CX1 P w) 3 a.pM a.nQ ["told","at","row"] (spTm a):=by
 refine okX T.bD.fn qfm (λvs H Q E h=>?_) (λcdv A outer s H vs Q E hr h=>?_)
 .obtain⟨_,_,_,_,_,_,_,_,_,_,_,_,rfl,_⟩:=h
  all_goals rfl
 .obtain⟨d,p,i,rs,As,x,w1,o,dd,y,m,u,rfl,st,l6,B,k,kx⟩:=h;refine⟨_,(qe (qz (i:=3) qfm.nd Z (Ay Z) (zr zu (pv 2) qg (λ_ _=>rfl)))
   (qe (ze (qlb (pc_din (qf8 hr) (pv 3) (pv 0))) (qh (qdu Z (Takes.at qbo) (qep T.gJ.xc T.fY.ty (qqv T) (hr.mono Ez) Z T.dU T.gJ.kp T.fY.bd .nil qam (qb (pv 3) qf qc)))) qad)
   (qe (qz (i:=4) qfm.nd Z (Ay Z) (qea (qu qav (zr zu (pv 2) qg (λ_ _=>rfl)) zi (qac _)) (zr zu (pv 2) qg (λ_ _=>rfl)) qas))
   (qe (qz (i:=5) qfm.nd Z (Ay Z) (qea (qu qav (zr zu (pv 2) qg (λ_ _=>rfl)) zi (qac _)) (zr zu (pv 2) qg (λ_ _=>rfl)) qas))
   (qe (qz (i:=6) qfm.nd Z (Ay Z) (qyq T.xY (qsb T) (hr.mono Ez) Z T.sI T.rW (dvs:=[.non]) (.cons Z .nil) qam (qb (pv 3) (qb (zr zu (pv 2) qg (λ_ _=>rfl)) (qb (zr zu (pv 2) qg (λ_ _=>rfl)) (qb (pv 4) (qb (pv 5) (qb (zr zu (pv 2) qg (λ_ _=>rfl)) (qb (zr zu (pv 2) qg (λ_ _=>rfl)) qf zp) zp) qc) qc) zp) zp) qc)))
   (qe (ze (PW.pt (qdb (qu qav (zg qug (by rfl) T.kH qa2 (qb (pv 0) qf qc)) (qbs (v:=.int 6) Z T.xT.choose_spec ⟨_,Z⟩) (qac _)) (qdp (qu qav (qaq (pv 6) Z) (qaq (pv 6) Z) (qac _))))) (qh (qdu Z (Takes.at qbo) (qep T.kM.xc T.gK.ty (qhz T) (hr.mono Ez) Z T.gF T.kM.kp T.gK.bd .nil qam (qb (pv 1) qf qc)))) qad)
   (qh (qof (qf8 hr) (pv 0) (pv 3) (pv 6) Z)))))))),?_⟩
  refine(nmc Z (lxo (B) Z ?_));cases pn:qan rs x with
  |some j =>obtain⟨r,A,_,_,_,_,g⟩:=st.get pn;refine(nmc Z (nmc Z ⟨d,_,Z,g,(nmc Z (qby ?_))⟩));exact(nmc Z ⟨fits (show 1<=100000 by decide),λt J=>⟨t,a.kD,_,_,Z,qi,T.gJ,qm T.mK Ez,λN H9 f kp Y n=>⟨Z,t,_,some N,Z,Y,⟨_,n⟩,T.sX,(kx _ (qht (by rw[pn];rfl))) t N _ (qao (((Same.refl H)).trans (qbk J kp)) (((Same.refl H)).free J)) qi ((qp (λz=>by rw[z,qi]at f;cases f)).trans n)⟩⟩⟩)
  |none =>
   refine(nmc Z (nmc Z ⟨d,_,Z,st.non pn,(nmc Z (qa9 ?_))⟩));cases dd with
   |false =>
    refine(nmc Z (lxo (B) Z ⟨Z,(nmc Z (qcy Z (nmc Z (lxo (B) Z ?_))))⟩));refine(nmc Z (lxo (B) Z ⟨Z,(nmc Z (qal En ?_))⟩));refine(nmc Z (nmc Z (lxo (B) Z (nmc Z (lxo (B) Z (nmc Z (nmc Z (nmc Z (lxo (B) Z (nmc Z (lxo (B) Z (λl dx nx nd ne=>?_))))))))))));refine⟨l,dx,_,_,_,_,_,_,_,_,Z,qi,λO D G pl I b1 ne1 ac ae ak L ah ai ag aa ad=>⟨Z,?_⟩⟩;have keep:Same H (upd (upd H dx (.own l)) l (.ins a.k8 dx [])):=λb u e=>by rw[qp (qaf e nx),qp (qaf e nd)];exact e
    have C:Same H O:=b1.made nx nd;have fe:=keep.free ne1;have fa:=keep.free ac;have fl:=keep.free ae;have fy:=keep.free ak;have f:=C _ _ st.hd;have lk:=qji st.ln;dsimp only[];refine(nmc Z ⟨d,_,Z,f,Z,(nmc Z (qba (λc=>?_) (λc=>?_)))⟩)
    .have c:((dcR rs As).length:Int)=6:=V.int.inj (of_decide_eq_true c);exact(nmc Z ⟨fits (show 1<=100000 by decide),λt J=>⟨t,a.kB,_,_,Z,qi,T.kM,qm T.gB Ez,λN H9 f kp Y n=>⟨Z,t,_,some N,Z,Y,⟨_,n⟩,T.gC,(kx _ (qfp (d:=false) pn (.inl (by lia)))) t N _ (qao ((C).trans (qbk J kp)) ((C).free J)) qi ((qp (λz=>by rw[z,qi]at f;cases f)).trans n)⟩⟩⟩)
    have c6:rs.length≠6:=λz=>c (decide_eq_true (by rw[lk,z];rfl));refine(nmc Z (flc (L) (T.k9) (qm T.kA Ez) (rfl) (nmc Z (flc (L) (T.k9) (qm T.kA Ez) (rfl) ⟨Z,(nmc Z (qba (λU=>?_) (λU=>?_)))⟩))))
    .have U:o=y:=V.str.inj (of_decide_eq_true U);exact(nmc Z ⟨fits (show 1<=100000 by decide),λt J=>⟨t,a.kB,_,_,Z,qi,T.kM,qm T.gB Ez,λN H9 f kp Y n=>⟨Z,t,_,some N,Z,Y,⟨_,n⟩,T.gC,(kx _ (qfp (d:=false) pn (.inr ⟨Z,U⟩))) t N _ (qao ((C).trans (qbk J kp)) ((C).free J)) qi ((qp (λz=>by rw[z,qi]at f;cases f)).trans n)⟩⟩⟩)
    have c7:¬(rs.length=6\/(false=false/\o=y)):=λz=>z.elim c6 λz=>U (decide_eq_true (by rw[z.2]));refine(nmc Z (nmc Z (nmc Z ⟨d,_,Z,DPut.k (k:=.inr x) f (by rw[Bl,lk];lia),?_⟩)));have ep:qgi (dcR rs As) (.inr x) (.ref l)=dcR rs As++[(.inr x,.ref l)]:=qlk _ (by rw[qgr x st.ln,pn];rfl);rw[ep];have X:KeepT [d] O (upd O d (.dK (dcR rs As++[(.inr x,.ref l)]))):=KeepT.put (Ai.mpr Z) f (λ_ z=>nomatch z);have ho:∀z∈own ⟨l,dx,D,G,pl,I⟩,H z=none:=λz hz=>by
     simp only[own,An,Aq,or_false]at hz;rcases hz with rfl|rfl|rfl|rfl|rfl
     .exact nx
     .exact fe
     .exact fa
     .exact fl
     .exact fy
    have S:∀z∈d::As.flatMap own,H z≠none:=λz hz e=>by
     rcases An.mp hz with rfl|hz
     .rw[st.hd]at e;cases e
     .obtain⟨A',af,W⟩:=B0.mp hz;obtain⟨jA,R⟩:=AL af;have lj:jA<rs.length:=by rw[<- st.ln];exact(Ah.mp R).1
      obtain⟨v',am,F⟩:=st.ru jA _ A' (Al lj) R;simp only[own,An,Aq,or_false]at W;rcases W with rfl|rfl|rfl|rfl|rfl
      .rw[F.hx]at e;cases e
      .rw[F.he]at e;cases e
      .rw[F.ha]at e;cases e
      .rw[F.hl]at e;cases e
      .rw[F.hy]at e;cases e
    have nz:∀z∈own ⟨l,dx,D,G,pl,I⟩,z≠d:=λz hz e=>S d Am (e ▸ ho z hz);have ux:RuX a.k8 O ⟨l,dx,D,G,pl,I⟩ (qhr x w1 o false y m u):=⟨.non,[],L,Z,ah,ai,ag,.nil,aa⟩;refine k _ (qex pn c7) _ (As++[⟨l,dx,D,G,pl,I⟩]) ((KeepT.of C).trans (X.sub λz hz=>by rw[Ai.mp hz];exact Am)) (λz hz=>?_) ((st.same C).snoc X qi (ux.keep X λz hz M=>nz z hz (Ai.mp M)) pn (show (own ⟨l,dx,D,G,pl,I⟩).Nodup from ad) λz hz=>⟨nz z hz,λM=>S z (Ar _ M) (ho z hz)⟩);rw[Bc]at hz;rcases Az.mp hz with q|q
    .exact .inl q
    .exact .inr (ho z (by simpa using q))
   |true =>
    refine(nmc Z (lxo (B) Z ⟨Z,(nmc Z (qal En ?_))⟩));refine(nmc Z (lxo (B) Z ⟨Z,(nmc Z (qcy Z (nmc Z (lxo (B) Z ?_))))⟩));refine(nmc Z (nmc Z (lxo (B) Z (nmc Z (lxo (B) Z (nmc Z (nmc Z (nmc Z (lxo (B) Z (nmc Z (lxo (B) Z (λl dx nx nd ne=>?_))))))))))));refine⟨l,dx,_,_,_,_,_,_,_,_,Z,qi,λO D G pl I b1 ne1 ac ae ak L ah ai ag aa ad=>⟨Z,?_⟩⟩;have keep:Same H (upd (upd H dx (.own l)) l (.ins a.k8 dx [])):=λb u e=>by rw[qp (qaf e nx),qp (qaf e nd)];exact e
    have C:Same H O:=b1.made nx nd;have fe:=keep.free ne1;have fa:=keep.free ac;have fl:=keep.free ae;have fy:=keep.free ak;have f:=C _ _ st.hd;have lk:=qji st.ln;dsimp only[];refine(nmc Z ⟨d,_,Z,f,Z,(nmc Z (qba (λc=>?_) (λc=>?_)))⟩)
    .have c:((dcR rs As).length:Int)=6:=V.int.inj (of_decide_eq_true c);exact(nmc Z ⟨fits (show 1<=100000 by decide),λt J=>⟨t,a.kB,_,_,Z,qi,T.kM,qm T.gB Ez,λN H9 f kp Y n=>⟨Z,t,_,some N,Z,Y,⟨_,n⟩,T.gC,(kx _ (qfp (d:=true) pn (.inl (by lia)))) t N _ (qao ((C).trans (qbk J kp)) ((C).free J)) qi ((qp (λz=>by rw[z,qi]at f;cases f)).trans n)⟩⟩⟩)
    have c6:rs.length≠6:=λz=>c (decide_eq_true (by rw[lk,z];rfl));refine(nmc Z (flc (L) (T.k9) (qm T.kA Ez) (rfl) (nmc Z (flc (L) (T.k9) (qm T.kA Ez) (rfl) ⟨Z,(nmc Z (qba (λU=>?_) (λU=>?_)))⟩))))
    .exact nomatch of_decide_eq_true U
    have c7:¬(rs.length=6\/(true=false/\o=y)):=λz=>z.elim c6 λz=>nomatch z.1;refine(nmc Z (nmc Z (nmc Z ⟨d,_,Z,DPut.k (k:=.inr x) f (by rw[Bl,lk];lia),?_⟩)));have ep:qgi (dcR rs As) (.inr x) (.ref l)=dcR rs As++[(.inr x,.ref l)]:=qlk _ (by rw[qgr x st.ln,pn];rfl);rw[ep];have X:KeepT [d] O (upd O d (.dK (dcR rs As++[(.inr x,.ref l)]))):=KeepT.put (Ai.mpr Z) f (λ_ z=>nomatch z);have ho:∀z∈own ⟨l,dx,D,G,pl,I⟩,H z=none:=λz hz=>by
     simp only[own,An,Aq,or_false]at hz;rcases hz with rfl|rfl|rfl|rfl|rfl
     .exact nx
     .exact fe
     .exact fa
     .exact fl
     .exact fy
    have S:∀z∈d::As.flatMap own,H z≠none:=λz hz e=>by
     rcases An.mp hz with rfl|hz
     .rw[st.hd]at e;cases e
     .obtain⟨A',af,W⟩:=B0.mp hz;obtain⟨jA,R⟩:=AL af;have lj:jA<rs.length:=by rw[<- st.ln];exact(Ah.mp R).1
      obtain⟨v',am,F⟩:=st.ru jA _ A' (Al lj) R;simp only[own,An,Aq,or_false]at W;rcases W with rfl|rfl|rfl|rfl|rfl
      .rw[F.hx]at e;cases e
      .rw[F.he]at e;cases e
      .rw[F.ha]at e;cases e
      .rw[F.hl]at e;cases e
      .rw[F.hy]at e;cases e
    have nz:∀z∈own ⟨l,dx,D,G,pl,I⟩,z≠d:=λz hz e=>S d Am (e ▸ ho z hz);have ux:RuX a.k8 O ⟨l,dx,D,G,pl,I⟩ (qhr x w1 o true y m u):=⟨.non,[],L,Z,ah,ai,ag,.nil,aa⟩;refine k _ (qex pn c7) _ (As++[⟨l,dx,D,G,pl,I⟩]) ((KeepT.of C).trans (X.sub λz hz=>by rw[Ai.mp hz];exact Am)) (λz hz=>?_) ((st.same C).snoc X qi (ux.keep X λz hz M=>nz z hz (Ai.mp M)) pn (show (own ⟨l,dx,D,G,pl,I⟩).Nodup from ad) λz hz=>⟨nz z hz,λM=>S z (Ar _ M) (ho z hz)⟩);rw[Bc]at hz;rcases Az.mp hz with q|q
    .exact .inl q
    .exact .inr (ho z (by simpa using q))
theorem qe7 (T:Txt K mg a):FnOk P w K mg base CX0 1 a.fP a.rM ["self","name"] (spI1 K "name"):=by
 refine T.kW.fn.ok qot (λvs H Q E h=>?_) (λcdv A outer s H vs Q E hr h=>?_)
 .obtain⟨_,_,_,_,rfl,_⟩:=h
  all_goals rfl
 .obtain⟨x,C,y,d,rfl,c,f,no,k⟩:=h;refine⟨_,(qe (zd (qhe T.bA Z T.kR (qb (pv 0) (qb (pv 1) qf qc) qc)))
   (qh (qi4 (pv 0) (pv 1) Z))),?_⟩
  refine(nmc Z (nmc Z ⟨x,C,none,[y],d,Z,c,f.xc,fits (show 1<=100000 by decide),?_⟩));refine(nmc Z (nmc Z ⟨x,C,true,Z,f.set no,.inl ⟨c,λdx hd=>?_⟩⟩));have g:dx≠x:=λz=>by rw[z,c]at hd;cases hd
  exact k dx _ hd (λb o i e=>by rw[qp i,qp (qaf e hd)];exact e) qi (by rw[qp g];exact qi)
theorem qh0 (T:Txt K mg a):FnOk P w K mg base CX0 1 a.fX a.hV ["self"] (spAk a):=by
 refine T.fW.fn.ok qhn (λvs H Q E h=>?_) (λcdv A outer s H vs Q E hr h=>?_)
 .obtain⟨_,_,rfl,_⟩:=h
  all_goals rfl
 .obtain⟨A,r,rfl,ru,l1,l2,l3,k⟩:=h;refine⟨_,(qe (qz (i:=1) qhn.nd Z (Ay Z) (zb qcv (zb qcv (zb qcv (zj (qb (qaq (pv 0) Z) qf qbe)) (qaq (pv 0) Z)) (qaq (pv 0) Z)) (qd1 (N:=["row"]) (js:=[none]) (XN:=["self","kinds"]) (xs:=qab qeq) Z Z Z En (qbn (qaq (pv 0) Z)) (λ_ _ _ _ _ _=>(qaj (i:=0) (show BY (["row"]:List Str) from by decide +kernel) Z (Ay Z) (C8 Z))) (λ_ _ _ _ _ _=>qcf) (λ_ _ _ _ _ _=>(zr (qsv (K:=K) Z) (pv 0) qg (λ_ _=>rfl))))))
   (qe (ze (qu qct (qaq (pv 0) Z) qas (qac _)) (qh (zd (qcd AJ AQ AR qbd (pv 1) (qb (qaq (pv 0) Z) qf qbe)))) qad)
   (qe (ze (qu qct (qaq (pv 0) Z) qas (qac _)) (qh (zd (qcd AJ PySem.F.slot_list_extend PySem.F.type_list_extend qrk (pv 1) (qb (qaq (pv 0) Z) qf qbe)))) qad)
   (qh (qk (pv 1)))))),?_⟩
  obtain⟨v,us,u,hs,he,ha,hl,tl,hy⟩:=ru;have lu:us.length=r.longer.length:=by rw[tl.length,Ac]
  refine(nmc Z (flc (u) (T.k9) (qm T.kA Ez) (rfl) ⟨fits (show 1<=100000 by decide),λq1 n1=>?_⟩));obtain⟨R,e1⟩:=alc (o:=.lst [V.str r.owes]) n1;generalize upd H q1 _=H1 at R e1 |-;refine(nmc Z (flc (R _ _ u) (T.k9) (qm T.kA Ez) (rfl) ⟨_,_,_,_,Z,Z,e1,R _ _ he,fits (by rw[Ac];show 1+_<=_;lia),λq2 n2=>?_⟩));obtain⟨s2,e2⟩:=alc (o:=.lst ([V.str r.owes]++r.ends.map V.str)) n2;generalize upd H1 q2 _=H2 at s2 e2 |-;have D:=R.trans s2;refine(nmc Z (flc (D _ _ u) (T.k9) (qm T.kA Ez) (rfl) ⟨_,_,_,_,Z,Z,e2,D _ _ ha,fits (by rw[Ag,Ac,Ac];show 1+_+_<=_;lia),λq3 n3=>?_⟩));obtain⟨s3,e3⟩:=alc (o:=.lst ([V.str r.owes]++r.ends.map V.str++r.anew.map V.str)) n3;generalize upd H2 q3 _=H3 at s3 e3 |-;have d:=D.trans s3;have Y:=tl.same d;refine(nmc Z (flc (d _ _ u) (T.k9) (qm T.kA Ez) (rfl) ⟨_,Z,⟨_,SqL.of (d _ _ hl)⟩,?_⟩));let f:V->V:=λv=>match v with
   |.ref b=>match H3 b with
    |some (.tup [.str y,.int _,.int _])=>.str y
    |_=>.non
   |_=>.non
  refine qbi f (λσ'=>∃v,σ'=[v]) (qbz (K:=K) (SqL.of (d _ _ hl))) (fits (by lia)) ⟨none,Z⟩ (λv σ' H' RR' hv sm s4 q=>?_) qcx λp5 aa=>?_
  .obtain⟨v0,rfl⟩:=s4;obtain⟨j,hj⟩:=AL hv;obtain⟨b,t,rfl,g,J⟩:=Y.get' hj;rw[Ak]at g;cases x:r.longer[j]? with
   |none=>rw[x]at g;cases g
   |some rr =>
    rw[x]at g;cases g;have ef:f (.ref b)=.str rr.1:=by show (match H3 b with|some (.tup [.str y,.int _,.int _])=>V.str y|_=>.non)=_;rw[J];rfl
    have q:=q [some (.ref b)] ⟨_,Z⟩;rw[ef]at q;exact(nmc Z (txo (sm _ _ J) Z q))
  have em:us.map f=(r.longer.map (·.1)).map V.str:=by
   refine Bz λj=>?_;rw[Ak,Ak,Ak];cases x:r.longer[j]? with
   |none=>rw[Bh (by rw[lu];exact BF.mp x)];rfl
   |some rr =>obtain⟨b,g,J⟩:=Y.get (i:=j) (r:=qql rr) (by rw[Ak,x];rfl);rw[g];show some (match H3 b with|some (.tup [.str y,.int _,.int _])=>V.str y|_=>.non)=_;rw[J];rfl
  rw[em];obtain⟨s5,e5⟩:=alc (o:=.lst ((r.longer.map (·.1)).map V.str)) aa;generalize upd H3 p5 _=H5 at s5 e5 |-;refine⟨_,_,_,_,Z,Z,s5 _ _ e3,e5,fits (by simp only[Ag,Ac,Au,Bu];lia),λq n6=>?_⟩;have eb:([V.str r.owes]++r.ends.map V.str++r.anew.map V.str)++(r.longer.map (·.1)).map V.str=([r.owes]++r.ends++r.anew++r.longer.map (·.1)).map V.str:=by simp only[Av,A6,BC]
  rw[eb];generalize eB:[r.owes]++r.ends++r.anew++r.longer.map (·.1)=B;have lB:B.length<=4000:=by rw[<- eB];simp only[Ag,Ac,Au,Bu];lia
  have ek:qah r=B++r.opens.toList++stL r.still:=by unfold qah;rw[eB]
  have W:=d.trans s5;obtain⟨s6,O⟩:=alc (o:=.lst (B.map V.str)) n6;generalize upd H5 q _=H6 at s6 O |-;have l:=W.trans s6;have I:=W.free n6;have G:=l _ _ u;have hs6:=hs.same l;have ho:r.opens=none \/ ∃o,r.opens=some o:=by
   cases r.opens with|none=>exact .inl rfl|some o=>exact .inr ⟨o,Z⟩
  apply useH (p:=λ(S:Hp)=>∃c:List Str,Same H S/\c.length<=4001/\S q=some (.lst (c.map V.str))/\qah r=c++stL r.still)
  .intro U;refine ho.elim (λe=>?_) (λe=>?_)
   .refine(nmc Z (flc (G) (T.k9) (qm T.kA Ez) (rfl) ⟨Z,(nmc Z (qda (by rw[e];rfl) ?_))⟩));have L:∃c:List Str,Same H H6/\c.length<=4001/\H6 q=some (.lst (c.map V.str))/\qah r=c++stL r.still:=⟨B,l,by lia,O,by rw[ek,e];simp⟩;generalize H6=W6 at L |-;exact U W6 L
   .obtain⟨o,e⟩:=e;have X:qev r.opens=.str o:=by rw[e];rfl
    refine(nmc Z (flc (G) (T.k9) (qm T.kA Ez) (rfl) ⟨Z,(nmc Z (qeu (λz=>by rw[X]at z;cases z) ?_))⟩));refine(nmc Z ⟨.inl ⟨Z,_,SqL.of O⟩,(nmc Z (flc (G) (T.k9) (qm T.kA Ez) (rfl) ⟨_,_,_,Z,Z,O,qcz (by rw[Ac];lia),?_⟩))⟩);have L:∃c:List Str,Same H (upd H6 q (.lst (B.map V.str++[qev r.opens])))/\c.length<=4001/\upd H6 q (.lst (B.map V.str++[qev r.opens])) q=some (.lst (c.map V.str))/\qah r=c++stL r.still:=⟨B++[o],qao l I,by rw[Ag];show _+1<=_;lia,by rw[qi,Av,X];rfl,by rw[ek,e];rfl⟩;exact U _ L
  .rintro S ⟨c,M,l7,e7,n⟩;have C:=M _ _ u;have m:=hs.same M;cases es:r.still with
   |none =>rw[es]at m n;cases m;refine(nmc Z (flc (C) (T.k9) (qm T.kA Ez) (rfl) ⟨Z,(nmc Z (qda Z (nmc Z (k q S I M (by rw[n,e7];simp[stL])))))⟩))
   |some sv =>rw[es]at m n;obtain⟨ps,rfl,ac⟩:=m;refine(nmc Z (flc (C) (T.k9) (qm T.kA Ez) (rfl) ⟨Z,(nmc Z (qeu (λz=>nomatch z) ?_))⟩));refine(nmc Z ⟨.inl ⟨Z,_,SqL.of e7⟩,(nmc Z (flc (C) (T.k9) (qm T.kA Ez) (rfl) ⟨_,_,_,_,Z,Z,e7,SqT.of ac,fits (by rw[Ac];show _+2<=_;lia),?_⟩))⟩);exact(nmc Z (k q _ I (qao M I) (by rw[qi,n,Av];rfl)))
theorem qu8 (T:Txt K mg a):FnOk P w K mg base CX0 1 a.hZ a.lY ["row"] spKi:=by
 refine T.dP.fn.ok quq (λvs H Q E h=>?_) (λcdv A outer s H vs Q E hr h=>?_)
 .obtain⟨_,_,rfl,_⟩:=h
  all_goals rfl
 .obtain⟨p,d,rfl,c,e,k⟩:=h;refine⟨_,(qe (ze (qu qav (zr zu (pv 0) qg (λ_ _=>rfl)) zi (qac _)) (qh (qk (zj qf))) qad)
   (qh (qk (qea (qu qav (zr zu (pv 0) qg (λ_ _=>rfl)) zi (qac _)) (qdd qft (pv 0) (qcu qg) (qcu qg)) (qdd qft (pv 0) (qcu qg) (qcu qg)))))),?_⟩
  cases d with|term=>cases e|ends x k =>refine(nmc Z (lxo (c) Z ⟨Z,(nmc Z (qal En ?_))⟩));refine(nmc Z (lxo (c) Z ⟨Z,(nmc Z (qal En (nmc Z ⟨_,Z,_,Z,_,_,Z,SqL.of c,λq b=>?_⟩)))⟩));exact k q _ b (zc b) qi|anew x k =>refine(nmc Z (lxo (c) Z ⟨Z,(nmc Z (qal En ?_))⟩));refine(nmc Z (lxo (c) Z ⟨Z,(nmc Z (qal En (nmc Z ⟨_,Z,_,Z,_,_,Z,SqL.of c,λq b=>?_⟩)))⟩));exact k q _ b (zc b) qi|longer x k u t =>refine(nmc Z (lxo (c) Z ⟨Z,(nmc Z (qal En ?_))⟩));refine(nmc Z (lxo (c) Z ⟨Z,(nmc Z (qal En (nmc Z ⟨_,Z,_,Z,_,_,Z,SqL.of c,λq b=>?_⟩)))⟩));exact k q _ b (zc b) qi|still x k l =>refine(nmc Z (lxo (c) Z ⟨Z,(nmc Z (qal En ?_))⟩));refine(nmc Z (lxo (c) Z ⟨Z,(nmc Z (qcy Z (nmc Z ⟨_,Z,_,Z,_,_,Z,SqL.of c,λq b=>?_⟩)))⟩));exact k q _ b (zc b) qi|yields x y =>refine(nmc Z (lxo (c) Z ⟨Z,(nmc Z (qcy Z ⟨qem,λq b=>k q _ b (zc b) qi⟩))⟩))
theorem qu9 (T:Txt K mg a):FnOk P w K mg base CX0 2 a.rD a.nU ["rule","row"] (spUf a):=by
 refine T.dN.fn.ok qnu (λvs H Q E h=>?_) (λcdv A outer s H vs Q E J h=>?_)
 .obtain⟨_,_,_,_,rfl,_⟩:=h
  all_goals rfl
 .obtain⟨A,r,p,f,rfl,S,l1,Y,l3,X,n,k⟩:=h;refine⟨_,(qe (qz (i:=2) qnu.nd Z (C8 Z) (qf7 (pv 0) T.k9 T.pC (qh0 T) (J.mono Ez) T.fW.bd .nil qam))
   (qe (ze (zh (zg (qt8 Z) (by rfl) T.sR qw6 (qb (qd1 (N:=["kind","taken"]) (js:=[none,some 2]) (XN:=["rule","row","taken"]) (xs:=qab qjd) Z Z Z En (qbn (zf (qu8 T) (J.mono Ez) Z T.dP.mgx T.dP.fn.kp T.dP.bd .nil qam (qb (pv 1) qf qc))) (λ_ _ _ _ _ _=>(qaj (i:=0) (show BY (["kind","taken"]:List Str) from by decide +kernel) Z (Ay Z) (C8 Z))) (λ_ _ _ _ _ _=>qcf) (λ_ _ _ _ _ _=>(qcb (qre (K:=K) Z) (pv 0) (pv 1) (by with_unfolding_all rfl)))) qf qi1))) (qh (qk qdr)) qad)
   (qe (ze (qu qav (zr zu (pv 1) qg (λ_ _=>rfl)) zi (qac _)) (qh (qk (pe_or (qcb qct (qaq (pv 0) Z) qas (qac _)) (qe1 (qcb qav (zr zu (pv 1) qg (λ_ _=>rfl)) (zr zu (pv 1) qg (λ_ _=>rfl)) (qac _)))))) qad)
   (qh (qk (qd9 (qcb qav (zr zu (pv 1) qg (λ_ _=>rfl)) zi (qac _)) (qe1 (qcb qav (zg qa5 (by rfl) T.kH qa2 (qb (qaq (pv 0) Z) qf qbe)) (qbs (v:=.int 2) Z T.rX.choose_spec ⟨_,Z⟩) (qac _))))))))),?_⟩
  have I:=S;obtain⟨v,us,R,hs,he,ha,hl,tl,hy⟩:=S;refine(nmc Z ⟨A.p,A.dx,_,Z,R,Z,A,r,Z,I,l1,Y,l3,λq H1 nq C e1=>?_⟩);have kl:=kin_len r;refine(nmc Z ⟨p,f,Z,C _ _ X,n,λq2 H2 n2 G D=>?_⟩);have O:=C.trans G;refine⟨_,Z,⟨_,SqL.of D⟩,?_⟩;have F:=G _ _ e1;have lk:(kin f).length<=2:=by cases f <;>simp[kin]
  refine qbi (λv=>match v with | .str y=>.bl ((qah r).contains y)|_=>.non) (λσ'=>∃v,σ'=[v,some (.ref q)]) (qbz (K:=K) (SqL.of D)) (fits (by rw[Ac];lia)) ⟨none,Z⟩ (λv σ' H' RR' hv sm s4 m=>?_) qcx λU c=>?_
  .obtain⟨v0,rfl⟩:=s4;obtain⟨y,_,rfl⟩:=AS.mp hv;have m:=m [some (.str y),some (.ref q)] ⟨_,Z⟩;dsimp only at m;refine(nmc Z (nmc Z ⟨_,_,Z,.inl (SqL.of (sm _ _ F)),Z,qa1 _,?_⟩));rw[<- qbp]at m;exact m
  have em:((kin f).map V.str).map (λv=>match v with | .str y=>V.bl ((qah r).contains y)|_=>.non)=((kin f).map λy=>(qah r).contains y).map V.bl:=by rw[AV,AV];rfl
  rw[em];obtain⟨M,B⟩:=alc (o:=.lst (((kin f).map λy=>(qah r).contains y).map V.bl)) c;generalize upd H2 U _=H5 at M B |-;have g:=O.trans M;refine⟨U,_,Z,SqL.of B,(nmc Z ?_)⟩;have c:=g _ _ X;have l:=g _ _ R;have j:=hs.same g;have W:=g _ _ hl;have lu:us.length=r.longer.length:=by rw[tl.length,Ac]
  have d:=k H5 g;unfold qew at d;rw[<- any_map]at d;cases L:(((kin f).map λy=>(qah r).contains y).any λb=>b) with
  |true =>rw[L,Bool.true_or]at d;exact qby d
  |false =>
   rw[L,Bool.false_or]at d;refine qa9 ?_;cases f with
   |term=>cases n
   |ends x k'=>exact(nmc Z (lxo (c) Z ⟨Z,(nmc Z (qal En (nmc Z (lxo (c) Z ⟨Z,(nmc Z (qal En d))⟩))))⟩))
   |anew x k'=>exact(nmc Z (lxo (c) Z ⟨Z,(nmc Z (qal En (nmc Z (lxo (c) Z ⟨Z,(nmc Z (qal En d))⟩))))⟩))
   |yields x k'=>exact(nmc Z (lxo (c) Z ⟨Z,(nmc Z (qal En (nmc Z (lxo (c) Z ⟨Z,(nmc Z (qal En d))⟩))))⟩))
   |longer x k' u t =>refine(nmc Z (lxo (c) Z ⟨Z,(nmc Z (qal En (nmc Z (lxo (c) Z ⟨Z,(nmc Z (qcy Z (nmc Z (flc (l) (T.k9) (qm T.kA Ez) (rfl) ⟨_,_,Z,.inl ⟨_,SqL.of W,Z⟩,Z,?_⟩))))⟩))))⟩));show Q (.bl (decide (V.int (us.length:Int)=V.int 2))) H5;have e:decide (V.int (us.length:Int)=V.int 2)=decide (r.longer.length=2):=decide_eq_decide.mpr ⟨λz=>by have:=V.int.inj z;lia,λz=>by rw[lu,z];rfl⟩;rw[e];exact d
   |still x k' l' =>
    refine(nmc Z (lxo (c) Z ⟨Z,(nmc Z (qcy Z ?_))⟩));cases es:r.still with
    |some sv =>rw[es]at j;obtain⟨ps,rfl,hps⟩:=j;refine(nmc Z (flc (l) (T.k9) (qm T.kA Ez) (rfl) ⟨Z,(nmc Z (qeu (λz=>nomatch z) ?_))⟩));unfold qoz at d;rw[es]at d;exact d
    |none =>rw[es]at j;cases j;refine(nmc Z (flc (l) (T.k9) (qm T.kA Ez) (rfl) ⟨Z,(nmc Z (qda Z (nmc Z (lxo (c) Z (nmc Z (lxo (c) Z ⟨Z,?_⟩))))))⟩));unfold qoz at d;rw[es]at d;have e:decide (V.str k'=V.str l')=decide (k'=l'):=decide_eq_decide.mpr ⟨λz=>V.str.inj z,λz=>by rw[z]⟩;show Q (.bl (decide (V.str k'=V.str l'))) H5;rw[e];exact d
theorem qsd (T:Txt K mg a):FnOk P w K mg base (CX1 P w) 3 a.mV a.rG ["rule","at","row"] (spMo a):=by
 refine okX T.bS.fn qrs (λvs H Q E h=>?_) (λcdv A outer s H vs Q E hr h=>?_)
 .obtain⟨_,_,_,_,_,rfl,_⟩:=h
  all_goals rfl
 .obtain⟨A,r,i,p,D,rfl,ru,nd,l1,l2,l3,b,W,k,kx⟩:=h;refine⟨_,(qe (ze (zh (zf (qu9 T) (hr.mono Ez) Z T.dN.mgx T.dN.fn.kp T.dN.bd .nil qam (qb (pv 0) (qb (pv 2) qf qc) qc))) (qh (qdu Z (Takes.at qbo) (qep T.kM.xc T.gK.ty (qhz T) (hr.mono Ez) Z T.gF T.kM.kp T.gK.bd .nil qam (qb (pv 1) qf qc)))) qad)
   (qh (ze (qu qav (zr zu (pv 2) qg (λ_ _=>rfl)) zi (qac _)) (qh (zd (qcd AJ AQ AR qbd (qaq (pv 0) Z) (qb (zr zu (pv 2) qg (λ_ _=>rfl)) qf zp)))) (qh (ze (qu qav (zr zu (pv 2) qg (λ_ _=>rfl)) zi (qac _)) (qh (zd (qcd AJ AQ AR qbd (qaq (pv 0) Z) (qb (zr zu (pv 2) qg (λ_ _=>rfl)) qf zp)))) (qh (ze (qu qav (zr zu (pv 2) qg (λ_ _=>rfl)) zi (qac _)) (qh (zd (qcd AJ AQ AR qbd (qaq (pv 0) Z) (qb (zm (qb (zr zu (pv 2) qg (λ_ _=>rfl)) (qb (zr zu (pv 2) qg (λ_ _=>rfl)) (qb (zr zu (pv 2) qg (λ_ _=>rfl)) qf zp) zp) zp)) qf zq)))) (qh (ze (qu qav (zr zu (pv 2) qg (λ_ _=>rfl)) zi (qac _)) (qh (qd4 (pv 0) (zm (qb (zr zu (pv 2) qg (λ_ _=>rfl)) (qb (zr zu (pv 2) qg (λ_ _=>rfl)) qf zp) zp)) Z)) qad))))))))),?_⟩
  have B:=ru;refine(nmc Z (nmc Z ⟨A,r,p,D,Z,B,l1,l2,l3,b,W,λX l=>(nmc Z ?_)⟩));cases m:qew r D with
  |true=>exact qby (nmc Z ⟨fits (show 1<=100000 by decide),λN n1=>⟨N,a.kB,_,_,Z,qi,T.kM,qm T.gB Ez,λy H9 I kp o1 L=>⟨Z,N,_,some y,Z,o1,⟨_,L⟩,T.gC,kx m N y _ (qao ((l).trans (qbk n1 kp)) ((l).free n1)) qi ((qp (λz=>by rw[z,qi]at I;cases I)).trans L)⟩⟩⟩)
  |false =>
   refine qa9 ?_;obtain⟨v,us,f,O,g,j,hl,C,G⟩:=B.same l;have b:=l _ _ b;have n:=KeepT.of (S:=own A) l;have lu:us.length=r.longer.length:=by rw[C.length,Ac]
   simp only[own,AM,An,Aq,or_false,not_or]at nd;obtain⟨⟨y,d2,d3,d4⟩,⟨Y,d6,d7⟩,⟨U,d9⟩,aa,_⟩:=nd;cases D with
   |term=>cases W
   |ends x k' =>refine(nmc Z (lxo (b) Z ⟨Z,(nmc Z (qcy Z (nmc Z (flc (f) (T.k9) (qm T.kA Ez) (rfl) ⟨.inl ⟨Z,_,SqL.of g⟩,(nmc Z (lxo (b) Z ⟨_,_,_,Z,Z,g,qcz (by rw[Ac];lia),?_⟩))⟩))))⟩));have d:=KeepT.put (o':=.lst (r.ends.map V.str++[V.str k'])) (show A.pe∈own A by simp[own]) g (λ_ z=>nomatch z);exact k m _ (n.trans d) ⟨v,us,(qp y).trans f,O.keep d,by rw[qi];show _=some (HO.lst ((r.ends++[k']).map V.str));rw[Av];rfl,(qp (Ba Y)).trans j,(qp (Ba d6)).trans hl,qb8 C d,(qp (Ba d7)).trans G⟩
   |anew x k' =>refine(nmc Z (lxo (b) Z ⟨Z,(nmc Z (qal En (nmc Z (lxo (b) Z ⟨Z,(nmc Z (qcy Z (nmc Z (flc (f) (T.k9) (qm T.kA Ez) (rfl) ⟨.inl ⟨Z,_,SqL.of j⟩,(nmc Z (lxo (b) Z ⟨_,_,_,Z,Z,j,qcz (by rw[Ac];lia),?_⟩))⟩))))⟩))))⟩));have d:=KeepT.put (o':=.lst (r.anew.map V.str++[V.str k'])) (show A.pa∈own A by simp[own]) j (λ_ z=>nomatch z);exact k m _ (n.trans d) ⟨v,us,(qp d2).trans f,O.keep d,(qp Y).trans g,by rw[qi];show _=some (HO.lst ((r.anew++[k']).map V.str));rw[Av];rfl,(qp (Ba U)).trans hl,qb8 C d,(qp (Ba d9)).trans G⟩
   |longer x k' u t =>refine(nmc Z (lxo (b) Z ⟨Z,(nmc Z (qal En (nmc Z (lxo (b) Z ⟨Z,(nmc Z (qal En (nmc Z (lxo (b) Z ⟨Z,(nmc Z (qcy Z (nmc Z (flc (f) (T.k9) (qm T.kA Ez) (rfl) ⟨.inl ⟨Z,_,SqL.of hl⟩,(nmc Z (lxo (b) Z (nmc Z (lxo (b) Z (nmc Z (lxo (b) Z ⟨qqj _ _ _,λe R=>?_⟩))))))⟩))))⟩))))⟩))))⟩));obtain⟨c,q⟩:=alc (o:=.tup [V.str k',V.int u,V.int t]) R;generalize upd X e _=H2 at c q |-;have J:=c _ _ hl;refine⟨_,_,_,Z,Z,J,qcz (by lia),?_⟩;have d:=KeepT.put (o':=.lst (us++[V.ref e])) (show A.pl∈own A by simp[own]) J (λ_ z=>nomatch z);have F:=KeepT.of (S:=own A) c;refine k m _ (n.trans (F.trans d)) ⟨v,us++[.ref e],(qp d3).trans (c _ _ f),O.keep (F.trans d),(qp d6).trans (c _ _ g),(qp U).trans (c _ _ j),qi,?_,(qp (Ba aa)).trans (c _ _ G)⟩;show Tups _ _ ((r.longer++[(k',u,t)]).map qql);rw[Av];exact qb8 ((C.same c).snoc q) d
   |still x k' l' =>refine(nmc Z (lxo (b) Z ⟨Z,(nmc Z (qal En (nmc Z (lxo (b) Z ⟨Z,(nmc Z (qal En (nmc Z (lxo (b) Z ⟨Z,(nmc Z (qal En (nmc Z (lxo (b) Z ⟨Z,(nmc Z (qcy Z (nmc Z (lxo (b) Z (nmc Z (lxo (b) Z ⟨fit2 _ _,λe R=>?_⟩))))))⟩))))⟩))))⟩))))⟩));obtain⟨c,q⟩:=alc (o:=.tup [V.str k',V.str l']) R;generalize upd X e _=H2 at c q |-;have M:=c _ _ f;refine(nmc Z ⟨_,_,_,_,Z,M,T.k9,qm T.kA Ez,(show 12<1000 by decide),?_⟩);rw[show qdc (Aa "still") (.ref e) (rlR A r v)=rlR A (qcj r (.still x k' l')) (.ref e) by with_unfolding_all rfl];have d:=KeepT.put (o':=.ins a.k8 A.dx (rlR A (qcj r (.still x k' l')) (.ref e))) (show A.p∈own A by simp[own]) M (λ_ z=>nomatch z);have F:=KeepT.of (S:=own A) c;exact k m _ (n.trans (F.trans d)) ⟨.ref e,us,qi,⟨e,Z,d _ _ (.inr ⟨_,Z⟩) q⟩,(qp (Ba y)).trans (c _ _ g),(qp (Ba d2)).trans (c _ _ j),(qp (Ba d3)).trans (c _ _ hl),qb8 (C.same c) d,(qp (Ba d4)).trans (c _ _ G)⟩
   |yields x k' =>exact(nmc Z (lxo (b) Z ⟨Z,(nmc Z (qal En (nmc Z (lxo (b) Z ⟨Z,(nmc Z (qal En (nmc Z (lxo (b) Z ⟨Z,(nmc Z (qal En (nmc Z (lxo (b) Z ⟨Z,(nmc Z (qal En (k m _ n (B.same l))))⟩))))⟩))))⟩))))⟩))
theorem qva (T:Txt K mg a):FnOk P w K mg base (CX1 P w) 4 a.pU a.mB ["told","at","row"] (spRo a):=by
 refine okX T.bR.fn qur (λvs H Q E h=>?_) (λcdv A outer s H vs Q E l h=>?_)
 .obtain⟨_,_,_,_,_,_,rfl,_⟩:=h
  all_goals rfl
 .obtain⟨d,p,i,rs,As,b,rfl,st,R,bn,e,k,n⟩:=h;refine⟨_,(qh (ze (qu qav (zr zu (pv 2) qg (λ_ _=>rfl)) zi (qac _)) (qh (zd (qes (qsc T) (l.mono Ez) Z T.bD.mgx T.bD.fn.kp T.bD.bd .nil (Takes.at qbo) (qb (pv 0) (qb (pv 1) (qb (pv 2) qf qc) qc) qc)))) (qh (ze (qlb (qh2 (qf8 l) (zr zu (pv 2) qg (λ_ _=>rfl)) (pv 0))) (qh (qdu Z (Takes.at qbo) (qep T.kN.xc T.kW.ty (qe7 T) (l.mono Ez) Z T.gQ T.kN.kp T.kW.bd .nil qam (qb (zr zu (pv 2) qg (λ_ _=>rfl)) qf zp)))) (qh (zd (qes (qsd T) (l.mono Ez) Z T.bS.mgx T.bS.fn.kp T.bS.bd .nil (Takes.at qbo) (qb (qiz (qf8 l) (pv 0) (zr zu (pv 2) qg (λ_ _=>rfl)) (λ_ _=>rfl)) (qb (pv 1) (qb (pv 2) qf qc) qc) zp)))))))),?_⟩;cases c:isT b with
  |true =>
   cases b with|term x w1 o dd y m u=>exact(nmc Z (lxo (e) Z ⟨Z,(nmc Z (qcy Z (nmc Z (nmc Z (nmc Z ⟨d,p,i,rs,As,x,w1,o,dd,y,m,u,Z,st,R,e,k,n⟩)))))⟩))|ends=>cases c|anew=>cases c|longer=>cases c|still=>cases c|yields=>cases c
  |false =>
   have D:∃z,atI (qc9 b) 0=some (.str z)/\z≠wS "term" := by
    cases b with|term=>cases c|ends=>exact⟨_,Z,En⟩|anew=>exact⟨_,Z,En⟩|longer=>exact⟨_,Z,En⟩|still=>exact⟨_,Z,En⟩|yields=>exact⟨_,Z,En⟩
   have q:atI (qc9 b) 1=some (.str (qaz b)):=by cases b <;>rfl
   obtain⟨z0,D,G⟩:=D;rw[qd8 c]at k n;refine(nmc Z (lxo (e) D ⟨Z,(nmc Z (qal (λz=>G (V.str.inj z)) ?_))⟩));cases pn:qan rs (qaz b) with
   |none =>refine(nmc Z (lxo (e) q (nmc Z ⟨d,_,Z,st.non pn,(nmc Z (qby ?_))⟩)));exact(nmc Z (lxo (e) q ⟨fits (show 1<=100000 by decide),λB L=>⟨B,a.kE,_,_,Z,qi,T.kN,qm T.bC Ez,λJ H9 t kp M v=>⟨Z,B,_,some J,Z,M,⟨_,v⟩,T.dR,(n _ (qgb pn)) B J _ (qao (((Same.refl H)).trans (qbk L kp)) (((Same.refl H)).free L)) qi ((qp (λz=>by rw[z,qi]at t;cases t)).trans v)⟩⟩⟩))
   |some j =>obtain⟨r,A,f,C,hn,U,g⟩:=st.get pn;have F:=(AM.mp st.nd).2;obtain⟨O,W,S,b4⟩:=bn r (At f);refine(nmc Z (lxo (e) q (nmc Z ⟨d,_,Z,g,(nmc Z (qa9 ?_))⟩)));refine(nmc Z (nmc Z (lxo (e) q ⟨d,_,Z,g,(nmc Z (nmc Z ⟨A,r,i,p,b,Z,U,qrx F C,O,W,S,e,c,λu H' I N=>?_,λu=>n _ (qgc pn f u)⟩))⟩)));exact k _ (qey pn f u) H' As (I.sub λz hz=>Ar _ (qk7 C z hz)) (λz hz=>.inl hz) (st.chg f C I N (qe5 r b))
theorem qmq (T:Txt K mg a):FnOk P w K mg base (CX1 P w) 3 a.mI a.rL ["told","rule","at","other"] (spSy a):=by
 refine okX T.dD.fn qmc (λvs H Q E h=>?_) (λcdv A outer s H vs Q E F h=>?_)
 .obtain⟨_,_,_,_,_,_,_,_,rfl,_⟩:=h
  all_goals rfl
 .obtain⟨d,i,j,rs,As,r,A,y,rfl,st,bn,n,D,k,x⟩:=h;refine⟨_,(qe (ze (qlb (qh2 (qf8 F) (pv 3) (pv 0))) (qh (qdu Z (Takes.at qbo) (qep T.kN.xc T.kW.ty (qe7 T) (F.mono Ez) Z T.gQ T.kN.kp T.kW.bd .nil qam (qb (pv 3) qf qc)))) qad)
   (qe (ze (PW.pt (qdb (qu qav (pv 3) (qaq (pv 1) Z) (qac _)) (qdb (qu qdj (pv 3) (qaq (pv 1) Z) (by with_unfolding_all rfl)) (qdp (qu qie (qaq (qiz (qf8 F) (pv 0) (pv 3) (λ_ _=>rfl)) Z) (qaq (pv 1) Z) (qac _)))))) (qh (qdu Z (Takes.at qbo) (qep T.kM.xc T.gK.ty (qhz T) (F.mono Ez) Z T.gF T.kM.kp T.gK.bd .nil qam (qb (pv 2) qf qc)))) qad)
   (qh (zd (qcd AJ AQ AR qbd (qaq (pv 1) Z) (qb (pv 3) qf qc)))))),?_⟩
  obtain⟨v,us,u,U,R,W,hl,tl,I⟩:=st.ru j r A n D;have L:=(AM.mp st.nd).2;obtain⟨b1,b2,b3,b4⟩:=bn r (At n);cases pn:qan rs y with
  |none =>refine(nmc Z (nmc Z ⟨d,_,Z,st.non pn,(nmc Z (qby ?_))⟩));exact(nmc Z ⟨fits (show 1<=100000 by decide),λf o=>⟨f,a.kE,_,_,Z,qi,T.kN,qm T.bC Ez,λm J b kp p e=>⟨Z,f,_,some m,Z,p,⟨_,e⟩,T.dR,(x _ (qgt pn)) f m _ (qao (((Same.refl H)).trans (qbk o kp)) (((Same.refl H)).free o)) qi ((qp (λz=>by rw[z,qi]at b;cases b)).trans e)⟩⟩⟩)
  |some l =>
   obtain⟨s,B,q,hB,hn,M,g⟩:=st.get pn;obtain⟨v2,us2,N,_⟩:=M;refine(nmc Z (nmc Z ⟨d,_,Z,g,(nmc Z (qa9 ?_))⟩));refine(nmc Z (nmc Z (flc (u) (T.k9) (qm T.kA Ez) (rfl) ⟨Z,(nmc Z (qba (λc=>?_) (λc=>?_)))⟩)))
   .have c:=V.str.inj (of_decide_eq_true c);exact(nmc Z ⟨fits (show 1<=100000 by decide),λf o=>⟨f,a.kB,_,_,Z,qi,T.kM,qm T.gB Ez,λm J b kp p e=>⟨Z,f,_,some m,Z,p,⟨_,e⟩,T.gC,(x _ (qen pn n q (.inl c))) f m _ (qao (((Same.refl H)).trans (qbk o kp)) (((Same.refl H)).free o)) qi ((qp (λz=>by rw[z,qi]at b;cases b)).trans e)⟩⟩⟩)
   have c1:¬y=r.name:=λz=>c (decide_eq_true (congrArg V.str z));refine(nmc Z (nmc Z (flc (u) (T.k9) (qm T.kA Ez) (rfl) ⟨_,_,Z,.inl (SqL.of I),Z,qa1 _,(nmc Z ?_)⟩)));show if inV (.str y) (r.yields.map V.str)=true then _ else _;rw[qbp];refine qba (λt=>?_) (λt=>?_)
   .exact(nmc Z ⟨fits (show 1<=100000 by decide),λf o=>⟨f,a.kB,_,_,Z,qi,T.kM,qm T.gB Ez,λm J b kp p e=>⟨Z,f,_,some m,Z,p,⟨_,e⟩,T.gC,(x _ (qen pn n q (.inr (.inl (AY.mp t))))) f m _ (qao (((Same.refl H)).trans (qbk o kp)) (((Same.refl H)).free o)) qi ((qp (λz=>by rw[z,qi]at b;cases b)).trans e)⟩⟩⟩)
   have t:¬y∈r.yields:=λz=>t (AY.mpr z);refine(nmc Z (nmc Z ⟨d,_,Z,g,(flc (N) (T.k9) (qm T.kA Ez) (rfl) (nmc Z (flc (u) (T.k9) (qm T.kA Ez) (rfl) ⟨Z,(nmc Z ?_)⟩)))⟩));show if (!decide (V.str s.owes=V.str r.owes))=true then _ else _;by_cases G:s.owes=r.owes
   .refine qda (congrArg V.str G) ?_;refine(nmc Z (flc (u) (T.k9) (qm T.kA Ez) (rfl) ⟨.inl ⟨Z,_,SqL.of I⟩,(nmc Z ⟨_,_,_,Z,Z,I,qcz (by rw[Ac];lia),?_⟩)⟩));have no:=qrx L D;simp only[own,AM,An,Aq,or_false,not_or]at no;obtain⟨⟨m,d2,d3,d4⟩,⟨d5,d6,Y⟩,⟨d8,X⟩,O,_⟩:=no;have C:=KeepT.put (S:=own A) (o':=.lst (r.yields.map V.str++[V.str y])) (show A.py∈own A by simp[own]) I (λ_ z=>nomatch z);refine k _ (qfq pn n q λz=>z.elim c1 λz=>z.elim t λz=>z G) _ (C.sub λz hz=>Ar _ (qk7 D z hz)) (st.chg n D C ⟨v,us,(qp d4).trans u,U.keep C,(qp Y).trans R,(qp X).trans W,(qp O).trans hl,qb8 tl C,?_⟩ Z);rw[qi];show _=some (HO.lst ((r.yields++[y]).map V.str));rw[Av];rfl
   .refine qeu (λz=>G (V.str.inj z)) ?_;exact(nmc Z ⟨fits (show 1<=100000 by decide),λf o=>⟨f,a.kB,_,_,Z,qi,T.kM,qm T.gB Ez,λm J b kp p e=>⟨Z,f,_,some m,Z,p,⟨_,e⟩,T.gC,(x _ (qen pn n q (.inr (.inr G)))) f m _ (qao (((Same.refl H)).trans (qbk o kp)) (((Same.refl H)).free o)) qi ((qp (λz=>by rw[z,qi]at b;cases b)).trans e)⟩⟩⟩)
theorem qm7 (T:Txt K mg a):FnOk P w K mg base (CX1 P w) 4 a.mZ a.lG ["told","at","row"] (spSn a):=by
 refine okX T.bM.fn qif (λvs H Q E h=>?_) (λcdv A outer s H vs Q E D h=>?_)
 .obtain⟨_,_,_,_,_,_,rfl,_⟩:=h
  all_goals rfl
 .obtain⟨d,p,i,rs,As,c,rfl,st,bn,b,L,k,l⟩:=h;refine⟨_,(qe (qz (i:=3) qif.nd Z (Ay Z) (qiz (qf8 D) (pv 0) (zr zu (pv 2) qg (λ_ _=>rfl)) (λ_ _=>rfl)))
   (qe (ze (PW.pt (qdq (qu qav (zr zu (pv 2) qg (λ_ _=>rfl)) zi (qac _)) (qdq (qu qct (qaq (pv 3) Z) qas (qac _)) (qdz (qlb (qh2 (qf8 D) (qaq (pv 3) Z) (pv 0))))))) (qh (qdu Z (Takes.at qbo) (qep T.kN.xc T.kW.ty (qe7 T) (D.mono Ez) Z T.gQ T.kN.kp T.kW.bd .nil qam (qb (qaq (pv 3) Z) qf qbe)))) qad)
   (qh (ze (qu qav (zr zu (pv 2) qg (λ_ _=>rfl)) zi (qac _)) (qh (zd (qes (qmq T) (D.mono Ez) Z T.dD.mgx T.dD.fn.kp T.dD.bd .nil (Takes.at qbo) (qb (pv 0) (qb (pv 3) (qb (pv 1) (qb (zr zu (pv 2) qg (λ_ _=>rfl)) qf zp) qc) qc) qc)))) qad)))),?_⟩
  have U:atI (qc9 c) 1=some (.str (qaz c)):=by cases c <;>rfl
  cases pn:qan rs (qaz c) with
  |none=>rw[pn]at L;cases L
  |some j =>
   obtain⟨r,A,G,R,hn,X,g⟩:=st.get pn;obtain⟨v,us,B,_⟩:=id X;refine(nmc Z (nmc Z (lxo (b) U ⟨d,_,Z,g,?_⟩)));dsimp only[];have n:=KeepT.of (S:=d::As.flatMap own) (Same.refl H);cases c with
   |term x w1 o dd y m u =>
    have e:=qgd (x:=x) (i:=i) (w:=w1) (o:=o) (d:=dd) (y:=y) (m:=m) (u:=u) pn G;rw[e]at k l;refine(nmc Z (lxo (b) Z ⟨Z,(nmc Z (qcy Z ?_))⟩));cases f:r.base with
    |none =>rw[f]at k;refine(nmc Z (flc (B) (T.k9) (qm T.kA Ez) (rfl) ⟨Z,(nmc Z (qda (by rw[f];rfl) (qa9 (nmc Z (lxo (b) Z ⟨Z,(nmc Z (qal En (k _ Z H n st)))⟩)))))⟩))
    |some z =>
     rw[f]at k l;dsimp only at k l;refine(nmc Z (flc (B) (T.k9) (qm T.kA Ez) (rfl) ⟨Z,(nmc Z (qeu (λz=>by rw[f]at z;cases z) ?_))⟩));cases C:qan rs z with
     |none =>
      have q:DGet H d (qev r.base) none:=by rw[f];exact st.non C
      refine(nmc Z (flc (B) (T.k9) (qm T.kA Ez) (rfl) (nmc Z ⟨d,_,Z,q,(nmc Z (qby ?_))⟩)));have W:∀(x d:Addr)(H':Hp),Same H H'->H' x=some (exO x a.kE (some d) false)->H' d=some (exD d [("name",qev r.base)])->E (.ref x) (some d) H':=by rw[f];exact l (.term z) (by rw[C];rfl)
      exact(nmc Z (flc (B) (T.k9) (qm T.kA Ez) (rfl) ⟨fits (show 1<=100000 by decide),λJ N=>⟨J,a.kE,_,_,Z,qi,T.kN,qm T.bC Ez,λM H9 F kp V I=>⟨Z,J,_,some M,Z,V,⟨_,I⟩,T.dR,W J M _ (qao (((Same.refl H)).trans (qbk N kp)) (((Same.refl H)).free N)) qi ((qp (λz=>by rw[z,qi]at F;cases F)).trans I)⟩⟩⟩))
     |some jz =>
      obtain⟨_,O,_,_,_,_,q⟩:=st.get C;have q:DGet H d (qev r.base) (some (.ref O.p)):=by rw[f];exact q
      refine(nmc Z (flc (B) (T.k9) (qm T.kA Ez) (rfl) (nmc Z ⟨d,_,Z,q,(nmc Z (qa9 (nmc Z (lxo (b) Z ⟨Z,(nmc Z (qal En (k _ (by rw[C];rfl) H n st)))⟩))))⟩)))
   |yields x y =>rw[qhu (x:=x) pn]at k l;refine(nmc Z (lxo (b) Z ⟨Z,(nmc Z (qal En (qa9 (nmc Z (lxo (b) Z ⟨Z,(nmc Z (qcy Z ?_))⟩)))))⟩));exact(nmc Z (nmc Z (nmc Z (nmc Z (lxo (b) Z ⟨d,i,j,rs,As,r,A,y,Z,st,bn,G,R,k,l⟩)))))
   |ends x y =>exact(nmc Z (lxo (b) Z ⟨Z,(nmc Z (qal En (qa9 (nmc Z (lxo (b) Z ⟨Z,(nmc Z (qal En (k _ Z H n st)))⟩)))))⟩))
   |anew x y =>exact(nmc Z (lxo (b) Z ⟨Z,(nmc Z (qal En (qa9 (nmc Z (lxo (b) Z ⟨Z,(nmc Z (qal En (k _ Z H n st)))⟩)))))⟩))
   |longer x y u t =>exact(nmc Z (lxo (b) Z ⟨Z,(nmc Z (qal En (qa9 (nmc Z (lxo (b) Z ⟨Z,(nmc Z (qal En (k _ Z H n st)))⟩)))))⟩))
   |still x y z =>exact(nmc Z (lxo (b) Z ⟨Z,(nmc Z (qal En (qa9 (nmc Z (lxo (b) Z ⟨Z,(nmc Z (qal En (k _ Z H n st)))⟩)))))⟩))
theorem qo9 (T:Txt K mg a):FnOk P w K mg base CX0 1 a.fC a.rJ ["self","at"] (spI1 K "at"):=by
 refine T.fD.fn.ok qou (λvs H Q E h=>?_) (λcdv A outer s H vs Q E hr h=>?_)
 .obtain⟨_,_,_,_,rfl,_⟩:=h
  all_goals rfl
 .obtain⟨x,C,y,d,rfl,c,f,no,k⟩:=h;refine⟨_,(qe (zd (qhe T.bA Z T.kR (qb (pv 0) (qb (pv 1) qf qc) qc)))
   (qh (qi4 (pv 0) (pv 1) Z))),?_⟩
  refine(nmc Z (nmc Z ⟨x,C,none,[y],d,Z,c,f.xc,fits (show 1<=100000 by decide),?_⟩));refine(nmc Z (nmc Z ⟨x,C,true,Z,f.set no,.inl ⟨c,λdx hd=>?_⟩⟩));have g:dx≠x:=λz=>by rw[z,c]at hd;cases hd
  exact k dx _ hd (λb o i e=>by rw[qp i,qp (qaf e hd)];exact e) qi (by rw[qp g];exact qi)
theorem qiw (T:Txt K mg a):FnOk P w K mg base (CX1 P w) 7 a.lT a.lW ["text"] (spBkG a):=by
 refine okX T.kS.fn qdg (λvs H Q E h=>?_) (λcdv A outer s H vs Q E m h=>?_)
 .obtain⟨_,rfl,_⟩:=h
  all_goals rfl
 .obtain⟨t,rfl,ah,k,kx⟩:=h;refine⟨_,(qe (qz (i:=1) qdg.nd Z (Ay Z) qlm)
   (qe (qz (i:=2) qdg.nd Z (Ay Z) (zj qf))
   (qe (qch B3.leaving Z (qsx Z T.pZ (qb (zf (qu6 T) (m.mono Ez) Z T.bU.mgx T.bU.fn.kp T.bU.bd .nil qam (qb (pv 0) qf qc)) qf zn)) (qle Z (qca (qaj (i:=3) qdg.nd Z (Ay Z)) (qca (qaj (i:=4) qdg.nd Z (Ay Z)) qh1))) (qe (qz (i:=5) qdg.nd Z (Ay Z) (zf (okRowOf T) (m.mono Ez) Z T.bT.mgx T.bT.fn.kp T.bT.bd .nil qam (qb (pv 4) qf qc)))
   (qe (ze (PW.pt (qdb (qu qav (pv 3) (qbs (v:=.int 40) Z T.y9.choose_spec ⟨_,Z⟩) (qac _)) (qdp (qu qfe (pv 5) qas (qac _))))) (qh (qdu Z (Takes.at qbo) (qep T.kU.xc T.fD.ty (qo9 T) (m.mono Ez) Z T.lM T.kU.kp T.fD.bd .nil qam (qb (pv 3) qf qc)))) qad)
   (qe (zd (qes (qva T) (m.mono Ez) Z T.bR.mgx T.bR.fn.kp T.bR.bd .nil (Takes.at qbo) (qb (pv 1) (qb (pv 3) (qb (pv 5) qf qc) qc) qc)))
   (qh (zd (qcd AJ AQ AR qbd (pv 2) (qb (pv 5) qf qc))))))))
   (qe (qch B3.leaving Z (qsx Z T.pZ (qb (pv 2) qf qc)) (qle Z (qca (qaj (i:=3) qdg.nd Z (Ay Z)) (qca (qaj (i:=5) qdg.nd Z (Ay Z)) qh1))) (qh (zd (qes (qm7 T) (m.mono Ez) Z T.bM.mgx T.bM.fn.kp T.bM.bd .nil (Takes.at qbo) (qb (pv 1) (qb (pv 3) (qb (pv 5) qf qc) qc) qc)))))
   (qh (qk (qwd T.sM (qsa T) (m.mono Ez) Z T.tR T.nP.bd .nil (Takes.at qbo) (qb (qp5 Z (by rfl) T.gA qdn (pv 1)) qf zn)))))))),?_⟩
  refine λd hd=>?_;obtain⟨s0,h0⟩:=alc (o:=.dK []) hd;generalize upd H d _=H0 at s0 h0 |-;refine⟨qem,λq hq=>?_⟩;obtain⟨s1,L⟩:=alc (o:=.lst []) hq;have g:=s1 _ _ h0;generalize upd H0 q _=H1 at s1 L g |-;have dq:d≠q:=λz=>by rw[<- z,h0]at hq;cases hq
  have bc:=s0.trans s1;have aw:=s0.free hq;refine(nmc Z ⟨t,Z,ah,λql H2 ad s2 e2=>?_⟩);have bj:ql≠d:=λz=>by rw[z,g]at ad;cases ad
  have bf:ql≠q:=λz=>by rw[z,L]at ad;cases ad
  have b0:RB a H H2 d q ql t 0 [] [] [] []:=⟨bc.trans s2,e2,⟨s2 _ _ g,Z,by simp,by simp,(λi r A h=>by cases h)⟩,s2 _ _ L,Z,(λj y e=>by cases e),Z,Z,(λr m=>by cases m),Ez,(λr m=>by cases m),(λr m=>by cases m),by simp[Ba dq],by simp[bj],bf,λz hz=>by
   simp only[List.flatMap_nil,An,Aq,or_false]at hz;rcases hz with rfl|rfl
   .exact aw
   .exact hd⟩
  have lo:(qd6 t).length=t.length:=by unfold qd6;rw[Ac]
  have hn:=ah.n;refine⟨_,_,Z,e2,qp2 (K:=K) (a:=ql) (xs:=t.map V.str) (λi σ H'=>(∃rs As rv f,RB a H H' d q ql t i rs As rv f)/\∃Y W X:Option V,σ=[some (.str (qco t)),some (.ref d),some (.ref q),Y,W,X]) ⟨⟨_,_,_,_,b0⟩,none,none,none,Z⟩ (λi σ H' _ h=>by obtain⟨⟨_,_,_,_,b⟩,_⟩:=h;exact SqL.of b.hl) ?_ ?_⟩
  .rintro i v t0 σ H' R ⟨⟨rs,As,rv,f,b⟩,Y,W,X,rfl⟩ ak;rw[Ak]at R;cases el:t[i]? with
   |none=>rw[el]at R;cases R
   |some l =>
   rw[el]at R;cases R;have hi:i<t.length:=(Ah.mp el).1;obtain⟨ll,_⟩:=ah.c l (At el);have ac:(qd6 t)[i]?=some (opR l):=by unfold qd6;rw[Ak,el];rfl
   obtain⟨ra,_⟩:=qfy b.rd ac;obtain⟨st,et⟩:=alc (o:=.tup [V.int i,V.str l]) ak;generalize upd H' t0 _=J0 at st et |-;refine⟨_,_,Z,SqT.of et,Z,_,_,Z,_,_,Z,Z,?_⟩;have x:=qxh (BU l (wS " "));have er:∀{e:Er},qai [] 0 (qd6 t)=.error e->qdo t=.error e:=λh=>by unfold qdo;rw[h]
   refine(nmc Z ⟨l,Z,(by show l.cps.size<=1000;lia),λqr J1 us ag sr M aq=>?_,λM J1 sr=>?_⟩)
   .have N:=(b.same st).same sr;cases G:opR l with
    |none=>unfold opR at G;rw[G]at x;rw[M]at x;cases x
    |some I =>
    have eu:us=qc9 I:=by unfold opR at G;rw[G]at x;rw[M]at x;exact A9 x
    subst eu;rw[G]at ac ra;refine(nmc Z ⟨Z,(nmc Z (qba (λc=>?_) (λc=>?_)))⟩)
    .have c:(i:Int)=40:=V.int.inj (of_decide_eq_true c);exact(nmc Z ⟨fits (show 1<=100000 by decide),λD S=>⟨D,a.kF,_,_,Z,qi,T.kU,qm T.bY Ez,λU H9 g kp o1 C=>⟨Z,D,_,some U,Z,o1,⟨_,C⟩,T.fQ,(kx _ (er (ra.trans (qkp (by lia) _ _)))) D U _ (qao (((b.sm.trans (st.trans sr))).trans (qbk S kp)) (((b.sm.trans (st.trans sr))).free S)) qi ((qp (λz=>by rw[z,qi]at g;cases g)).trans C)⟩⟩⟩)
    have aa:i≠40:=λz=>c (decide_eq_true (by rw[z];rfl));refine(nmc Z ⟨Z,(nmc Z (qal (λz=>nomatch z) ?_))⟩);have bb:qr∉d::As.flatMap own:=λz=>(b.same st).st.inn qr z ag;have bg:qr≠q:=λz=>by rw[z,(b.same st).hq]at ag;cases ag
    refine(nmc Z (nmc Z (nmc Z ⟨d,qr,i,rs,As,I,Z,N.st,N.l6,(λr m=>by obtain⟨g1,g2,g3,g4⟩:=N.bn r m;exact⟨by lia,by lia,by lia,by lia⟩),aq,λau e H3 As' kt fr af=>?_,λe h=>(kx e (er (ra.trans (qmi aa h _)))).same N.sm⟩)));have ar:H3 q=some (.lst rv):=kt _ _ (.inl N.qo) N.hq;have rl:=N.rl;have lr:f.length<=i:=by have:=congrArg DR N.ro;rw[Ac,AZ]at this;lia
    refine(nmc Z ⟨.inl ⟨Z,_,SqL.of ar⟩,(nmc Z ⟨_,_,_,Z,Z,ar,qcz (by lia),?_⟩)⟩);exact⟨⟨_,_,_,_,N.next aq bb bg ac aa e kt fr af⟩,_,_,_,Z⟩
   .have G:opR l=none:=by
     cases G:opR l with|none=>rfl|some I=>unfold opR at G;rw[G]at x;rw[M]at x;cases x
    rw[G]at ac ra
    have sA:=b.sm.trans (st.trans sr)
    refine(nmc Z ⟨Z,(nmc Z (qba (λc=>?_) (λc=>?_)))⟩)
    .have c:(i:Int)=40:=V.int.inj (of_decide_eq_true c);exact(nmc Z ⟨fits (show 1<=100000 by decide),λD S=>⟨D,a.kF,_,_,Z,qi,T.kU,qm T.bY Ez,λU H9 g kp o1 C=>⟨Z,D,_,some U,Z,o1,⟨_,C⟩,T.fQ,(kx _ (er (ra.trans (qkp (by lia) _ _)))) D U _ (qao ((sA).trans (qbk S kp)) ((sA).free S)) qi ((qp (λz=>by rw[z,qi]at g;cases g)).trans C)⟩⟩⟩)
    have aa:i≠40:=λz=>c (decide_eq_true (by rw[z];rfl))
    refine(nmc Z ⟨Z,(nmc Z (qcy Z ?_))⟩)
    exact(nmc Z ⟨fits (show 1<=100000 by decide),λD S=>⟨D,a.kF,_,_,Z,qi,T.kU,qm T.bY Ez,λU H9 g kp o1 C=>⟨Z,D,_,some U,Z,o1,⟨_,C⟩,T.fQ,(kx _ (er (ra.trans (qmj aa _)))) D U _ (qao ((sA).trans (qbk S kp)) ((sA).free S)) qi ((qp (λz=>by rw[z,qi]at g;cases g)).trans C)⟩⟩⟩)
  .rintro σ H' ⟨⟨rs0,As,rv,f,b⟩,Y,W,X,rfl⟩;have bd:=b.rd;have bo:=b.ro;rw[Ac,<- lo,B8]at bd bo;have lr:f.length=t.length:=by rw[<- lo,bo,Ac]
   have rf:qdo t=qar rs0 0 f:=by unfold qdo;rw[bd,bo];dsimp only;rw[qo0]
   have c0:SB a H H' d q 0 rs0 rs0 As rv f:=⟨b.sm,b.st,b.hq,b.rl,b.rr,⟨Z,Z⟩,Z,λr m=>by obtain⟨g1,g2,g3,g4⟩:=b.bn r m;rw[Ac]at g1 g2 g3 g4;exact⟨by lia,by lia,by lia,by lia⟩,b.nm,b.qo,b.fr⟩;refine(nmc Z ⟨_,_,Z,b.hq,qp2 (K:=K) (a:=q) (xs:=rv) (λi σ J=>(∃rs,SB a H J d q i rs0 rs As rv f)/\∃Y W X:Option V,σ=[some (.str (qco t)),some (.ref d),some (.ref q),Y,W,X]) ⟨⟨_,c0⟩,_,_,_,Z⟩ (λi σ J _ h=>by obtain⟨⟨_,b⟩,_⟩:=h;exact SqL.of b.hq) ?_ ?_⟩)
   .rintro i v t0 σ J R ⟨⟨rs,B⟩,Y,W,X,rfl⟩ ak;have hi:i<f.length:=by rw[<- b.rl];exact(Ah.mp R).1
    obtain⟨p,I,rfl,O,_,_,_⟩:=B.rr i v R;obtain⟨st,et⟩:=alc (o:=.tup [V.int i,V.ref p]) ak;generalize upd J t0 _=J0 at st et |-;have F:=B.same st;obtain⟨p2,row2,bq,ae,hp,_,_⟩:=F.rr i _ R;cases bq;rw[O]at ae;cases ae;obtain⟨sa,_⟩:=qfr F.se O;refine⟨_,_,Z,SqT.of et,Z,_,_,Z,_,_,Z,Z,?_⟩;refine(nmc Z (nmc Z (nmc Z ⟨d,p,i,rs,As,I,Z,F.st,(λr m=>by obtain⟨g1,g2,g3,g4⟩:=F.bn r m;exact⟨by lia,by lia,by lia,by lia⟩),hp,F.nm I (At O),λau e H3 kt af=>?_,λe h=>(kx e (rf.trans (sa.trans (qkh h _)))).same F.sm⟩)));exact⟨⟨_,F.next O e kt af⟩,_,_,_,Z⟩
   .rintro σ J ⟨⟨rs,B⟩,Y,W,X,rfl⟩;have se:=B.se;rw[b.rl,B8]at se;have bp:=rf.trans se;obtain⟨kq,ko⟩:=k rs bp;have am:=qtc se b.st.nn b.ht;have l6:rs.length<=6:=by have:=congrArg DR B.sd.nm;rw[Ac,Ac]at this;rw[this];exact b.l6
    refine(nmc Z ⟨d,_,Z,B.st.hd,λqv ax=>?_⟩);rw[qqm B.st.ln];obtain⟨sv,ev⟩:=alc (o:=.lst (As.map λA=>V.ref A.p)) ax;generalize upd J qv _=J1 at sv ev |-;refine λxb dx nx nd ne=>?_;have keep:Same J1 (upd (upd J1 dx (.own xb)) xb (.ins a.kL dx [])):=λb u e=>by rw[qp (qaf e nx),qp (qaf e nd)];exact e
    have ai:=B.sm.trans sv;have ao:=λi r A L h2=>((B.st.ru i r A L h2).same sv);refine⟨xb,dx,qv,rs,As,Z,qi,keep _ _ ev,B.st.ln,B.st.nn,l6,am,λi r A L h2=>(ao i r A L h2).same keep,λH9 os b9 bi bh=>⟨Z,kq xb H9 As os (ai.trans (b9.made nx nd)) ⟨bi,B.st.ln,B.st.nn,l6,λi r A L h2=>(ao i r A L h2).same (b9.made nx nd),bh,am⟩⟩,ko.same (ai.trans keep)⟩
theorem qg3 (T:Txt K mg a):FnOk P w K mg base CX0 1 a.fK a.pF ["self"] (spTn a):=by
 refine T.fA.fn.ok qk0 (λvs H Q E h=>?_) (λcdv A outer s H vs Q E hr h=>?_)
 .obtain⟨_,_,_,_,rfl,_⟩:=h
  all_goals rfl
 .obtain⟨x,rs,As,os,rfl,c,f,l6,k⟩:=h;refine⟨_,(qh (qk (qax (qri Z) (by rfl) T.gA qdn (qb (qaq (pv 0) Z) qf qbe)))),?_⟩;obtain⟨dx,po,pd,d,h2,g⟩:=c;have e:(dcR rs As).map (λb=>L2.kV b.1)=(rs.map RR.name).map V.str:=by rw[show (λb:Key×V=>L2.kV b.1)=L2.kV ∘ Prod.fst from Z,<- AV,qqn f,AV,AV];rfl
  refine(nmc Z (flc (d) (T.kO) (qm T.kY Ez) (rfl) ⟨_,_,Z,g,λl hl=>?_⟩));exact k l _ hl (zc hl) (by rw[qi];exact congrArg (λz=>some (HO.lst z)) e)
theorem qmr (T:Txt K mg a):FnOk P w K mg base CX0 1 a.nF a.pB ["rule"] (spTrs a):=by
 refine T.dH.fn.ok qho (λvs H Q E h=>?_) (λcdv A outer s H vs Q E hr h=>?_)
 .obtain⟨_,_,rfl,_⟩:=h
  all_goals rfl
 .obtain⟨A,r,rfl,ru,j,k⟩:=h;refine⟨_,(qe (qz (i:=1) qho.nd Z (Ay Z) (qea (qu qfe (qaq (pv 0) Z) qas (qac _)) (zj (qb zi (qb (qaq (pv 0) Z) qf qbe) qj)) (zj (qb zi (qb (qaq (pv 0) Z) qf qbe) qj))))
   (qh (qk (qcd B6 CN CO qi7 zi (qb (zb qcv (zb qcv (zj (qb zi (qb (qaq (pv 0) Z) (qb zi (qb (qaq (pv 0) Z) (qb zi (qb (qaq (pv 0) Z) qf qbe) qj) qbe) qj) qbe) qj)) (pv 1)) (zj (qb (qax qb3 (by rfl) T.kP qcl (qb (qaq (pv 0) Z) qf qbe)) (qb (qaq (pv 0) Z) qf qbe) zn))) qf zo))))),?_⟩
  obtain⟨v,us,W⟩:=id ru;have hx:=W.hx;obtain⟨d,y,et,cs⟩:=qx2 j;have B:=qx1 j;rw[et]at B k;apply qtg (p:=λJ z=>Same H J/\∃e,z=some (.ref e)/\J e=some (.lst [.str (fbS d),.str y]))
  .intro m;refine cs.elim (λc=>?_) (λc=>?_)
   .have g:qev r.base=.non:=by rw[c.1];rfl
    have t:qev r.opens=.str y:=by rw[c.2.2];rfl
    have n:=c.2.1;refine(nmc Z (flc (hx) (T.k9) (qm T.kA Ez) (rfl) ⟨Z,(nmc Z (qcy g (nmc Z (flc (hx) (T.k9) (qm T.kA Ez) (rfl) ⟨fits (show 2<=100000 by decide),λe q=>?_⟩))))⟩));rw[t];generalize b:upd H e _=H1;obtain⟨N,o⟩:=alg b q;clear b;have u:Same H H1/\∃z,some (V.ref e)=some (.ref z)/\H1 z=some (.lst [.str (fbS d),.str y]):=⟨N,e,Z,by rw[o,n];rfl⟩;show qna _ [some (.ref A.p),some (.ref e)] H1;generalize some (V.ref e)=z1 at u |-;exact m H1 z1 u
   .have g:qev r.base=.str y:=by rw[c.1];rfl
    have n:=c.2;refine(nmc Z (flc (hx) (T.k9) (qm T.kA Ez) (rfl) ⟨Z,(nmc Z (qal (λz=>by rw[g]at z;cases z) (nmc Z (flc (hx) (T.k9) (qm T.kA Ez) (rfl) ⟨fits (show 2<=100000 by decide),λe q=>?_⟩))))⟩));rw[g];exact m _ _ ⟨zc q,e,Z,by rw[qi,n];rfl⟩
  rintro J z ⟨F,e,rfl,o⟩;have f:=F _ _ hx;refine⟨Z,(nmc Z (flc (f) (T.k9) (qm T.kA Ez) (rfl) (nmc Z (flc (f) (T.k9) (qm T.kA Ez) (rfl) (nmc Z (flc (f) (T.k9) (qm T.kA Ez) (rfl) ⟨fits (show 6<=100000 by decide),λq2 R=>?_⟩))))))⟩;generalize b:upd J q2 _=H2;obtain⟨G,S⟩:=alg b R;clear b;refine(nmc Z ⟨_,_,_,_,Z,Z,S,G _ _ o,fits (show 6+2<=100000 by decide),λO I=>?_⟩);generalize b:upd H2 O _=H3;obtain⟨X,U⟩:=alg b I;clear b;have l:=G.trans X;have lg:r.many.natAbs.log2<1920:=by have m1:=j.mn;have:r.many.natAbs.log2<=r.many.natAbs:=Nat.log2_le_self _;lia
  refine(nmc Z (flc (l _ _ f) (T.k9) (qm T.kA Ez) (rfl) ⟨_,Z,lg,(nmc Z (flc (l _ _ f) (T.k9) (qm T.kA Ez) (rfl) ⟨fits (show 2<=100000 by decide),λM Y=>?_⟩))⟩));generalize b:upd H3 M _=H4;obtain⟨C,e4⟩:=alg b Y;clear b;refine⟨_,_,_,_,Z,Z,C _ _ U,e4,fits (show 8+2<=100000 by decide),λx n5=>?_⟩;generalize b:upd H4 x _=H5;obtain⟨s5,L⟩:=alg b n5;clear b;have D:=joinW B (A0 _);refine⟨_,x,qat (.term r.name r.who r.owes d y r.many r.unit),Z,Z,SqL.of L,D.1,?_⟩;rw[D.2];exact k H5 (F.trans (l.trans (C.trans s5)))
theorem qqw (T:Txt K mg a):FnOk P w K mg base CX0 2 a.pV a.pE ["rule"] (spRsh a):=by
 refine T.dJ.fn.ok qdh (λvs H Q E h=>?_) (λcdv A outer s H vs Q E hr h=>?_)
 .obtain⟨_,_,rfl,_⟩:=h
  all_goals rfl
 .obtain⟨A,r,rfl,ru,c,k⟩:=h;refine⟨_,(qe (qz (i:=1) qdh.nd Z (C8 Z) (qaq (pv 0) Z))
   (qe (qz (i:=2) qdh.nd Z (Ay Z) (zj (qb (zf (qmr T) (hr.mono Ez) Z T.dH.mgx T.dH.fn.kp T.dH.bd .nil qam (qb (pv 0) qf qc)) qf zn)))
   (qe (qij (i:=2) qdh.nd Z (Ay Z) (qd1 (N:=["kind","name"]) (js:=[none,some 1]) (XN:=["rule","name","rows"]) (xs:=qab qd5) Z Z Z En (qbn (qaq (pv 0) Z)) (λ_ _ _ _ _ _=>(qaj (i:=0) (show BY (["kind","name"]:List Str) from by decide +kernel) Z (Ay Z) (C8 Z))) (λ_ _ _ _ _ _=>qcf) (λ_ _ _ _ _ _=>(qsu (qbx zi (qbx (qfz (pv 1)) (qbx zi (qbx (qfz (pv 0)) qom))))))) qio)
   (qe (qij (i:=2) qdh.nd Z (Ay Z) (qd1 (N:=["kind","name"]) (js:=[none,some 1]) (XN:=["rule","name","rows"]) (xs:=qab qd5) Z Z Z En (qbn (qaq (pv 0) Z)) (λ_ _ _ _ _ _=>(qaj (i:=0) (show BY (["kind","name"]:List Str) from by decide +kernel) Z (Ay Z) (C8 Z))) (λ_ _ _ _ _ _=>qcf) (λ_ _ _ _ _ _=>(qsu (qbx zi (qbx (qfz (pv 1)) (qbx zi (qbx (qfz (pv 0)) qom))))))) qio)
   (qe (qij (i:=2) qdh.nd Z (Ay Z) (qd1 (N:=["kind","units","times","name"]) (js:=[none,none,none,some 1]) (XN:=["rule","name","rows"]) (xs:=qab qd5) Z Z Z En (qbn (qaq (pv 0) Z)) (λ_ _ _ _ _ _=>(qsy (K:=K) Z (n:=3) Z (qca (qaj (i:=0) (show BY (["kind","units","times","name"]:List Str) from by decide +kernel) Z (Ay Z) (C8 Z)) (qca (qaj (i:=1) (show BY (["kind","units","times","name"]:List Str) from by decide +kernel) Z (Ay Z) (C8 Z)) (qca (qaj (i:=2) (show BY (["kind","units","times","name"]:List Str) from by decide +kernel) Z (Ay Z) (C8 Z)) qh1))))) (λ_ _ _ _ _ _=>qcf) (λ_ _ _ _ _ _=>(qsu (qbx zi (qbx (qfz (pv 3)) (qbx zi (qbx (qfz (pv 0)) (qbx zi (qbx (qfz (pv 1)) (qbx zi (qbx (qfz (pv 2)) qom))))))))))) qio)
   (qe (ze (qu qct (qaq (pv 0) Z) qas (qac _)) (qh (zd (qcd AJ AQ AR qbd (pv 2) (qb (qcd B6 CN CO qi7 zi (qb (zj (qb zi (qb (pv 1) (qb (zr zt (qaq (pv 0) Z) qg (λ_ _=>rfl)) (qb (zr zt (qaq (pv 0) Z) qg (λ_ _=>rfl)) qf zp) zp) qc) qj)) qf qf9)) qf zn)))) qad)
   (qe (qij (i:=2) qdh.nd Z (Ay Z) (qd1 (N:=["other","name"]) (js:=[none,some 1]) (XN:=["rule","name","rows"]) (xs:=qab qd5) Z Z Z En (qbn (qaq (pv 0) Z)) (λ_ _ _ _ _ _=>(qaj (i:=0) (show BY (["other","name"]:List Str) from by decide +kernel) Z (Ay Z) (C8 Z))) (λ_ _ _ _ _ _=>qcf) (λ_ _ _ _ _ _=>(qsu (qbx zi (qbx (qfz (pv 1)) (qbx zi (qbx (qfz (pv 0)) qom))))))) qio)
   (qh (qk (pv 2)))))))))),?_⟩
  obtain⟨v,us,l⟩:=id ru;have hx:=l.hx;obtain⟨b1,b2,b3,b4⟩:=c.sz;have n8:r.name.length<=8:=c.nm.2.1;refine(nmc Z (flc (hx) (T.k9) (qm T.kA Ez) (rfl) (nmc Z ⟨A,r,Z,ru,c,λH1 s1=>⟨fits (show 1<=100000 by decide),λq n1=>?_⟩⟩)));have L:=s1.free n1;generalize e:upd H1 q _=H2;obtain⟨s2,e2⟩:=alg e n1;clear e;have S:=s1.trans s2;have e2:H2 q=some (.lst (qbc [qbl r])):=e2;have bb:=S _ _ hx;have ae:=S _ _ l.he;refine(nmc Z (nmc Z (flc (bb) (T.k9) (qm T.kA Ez) (rfl) ⟨_,Z,⟨_,SqL.of ae⟩,?_⟩)));refine qbi (λv=>match v with | .str y=>.str (qaw (.ends r.name y))|_=>.non) (λσ'=>∃v,σ'=[v,some (.str r.name)]) (qbz (K:=K) (SqL.of ae)) (fits (by rw[Ac];lia)) ⟨none,Z⟩ (λv σ' H' O C Y D d=>?_) qcx λp3 bc=>?_
  .obtain⟨X,rfl⟩:=D;obtain⟨y,hy,rfl⟩:=AS.mp C;have y8:y.length<=8:=(qn6 r c _ (by simp[hy])).2.1;have d:=d [some (.str y),some (.str r.name)] ⟨_,Z⟩;have M:(qaw (.ends r.name y)).length<=90:=(qjm (show qc6 (.ends r.name y) from ⟨c.nm,qn6 r c _ (by simp[hy])⟩)).1;have z1:(Aa "ends ").length<=10:=En;have z2:(Aa " ").length<=10:=En;have z0:CF.length=0:=rfl;clear M;refine⟨_,Z,fits (by simp only[qay];lia),(nmc Z (.inr ⟨_,Z,fits (by lia),_,Z,fits (by simp only[qay];lia),_,Z,fits (by simp only[qay];lia),(nmc Z (.inr ⟨_,Z,fits (by lia),_,Z,fits (by simp only[qay];lia),fits (by simp only[qay];lia),?_⟩))⟩))⟩;rw[show CF++Aa "ends " ++ r.name++Aa " " ++ y=qaw (.ends r.name y) by rw[qk9];exact qn0 _ _];exact d
  rw[show ((r.ends.map V.str).map λv=>match v with | .str y=>V.str (qaw (.ends r.name y))|_=>.non)=qbc (r.ends.map (Rw7.ends r.name)) by unfold qbc;rw[AV,AV,AV];rfl];generalize e:upd H2 p3 _=F3;obtain⟨t3,f3⟩:=alg e bc;clear e;refine⟨q,p3,_,_,Z,Z,t3 _ _ e2,f3,fits (by simp only[qe6,Ag,Ac,Au,Bu];lia),?_⟩;have G:=qao (o:=.lst (qbc ([qbl r])++qbc (r.ends.map (Rw7.ends r.name)))) (S.trans t3) L;have e3:upd F3 q (.lst (qbc ([qbl r])++qbc (r.ends.map (Rw7.ends r.name)))) q=some (.lst (qbc ([qbl r]++r.ends.map (Rw7.ends r.name)))):=by rw[qi];unfold qbc;simp only[Av]
  generalize upd F3 q _=G3 at G e3 |-;have au:=G _ _ hx;have ac:=G _ _ l.ha;refine(nmc Z (nmc Z (flc (au) (T.k9) (qm T.kA Ez) (rfl) ⟨_,Z,⟨_,SqL.of ac⟩,?_⟩)));refine qbi (λv=>match v with | .str y=>.str (qaw (.anew r.name y))|_=>.non) (λσ'=>∃v,σ'=[v,some (.str r.name)]) (qbz (K:=K) (SqL.of ac)) (fits (by rw[Ac];lia)) ⟨none,Z⟩ (λv σ' H' O C Y D d=>?_) qcx λp4 ao=>?_
  .obtain⟨X,rfl⟩:=D;obtain⟨y,hy,rfl⟩:=AS.mp C;have y8:y.length<=8:=(qn6 r c _ (by simp[hy])).2.1;have d:=d [some (.str y),some (.str r.name)] ⟨_,Z⟩;have M:(qaw (.anew r.name y)).length<=90:=(qjm (show qc6 (.anew r.name y) from ⟨c.nm,qn6 r c _ (by simp[hy])⟩)).1;have z1:(Aa "anew ").length<=10:=En;have z2:(Aa " ").length<=10:=En;have z0:CF.length=0:=rfl;clear M;refine⟨_,Z,fits (by simp only[qay];lia),(nmc Z (.inr ⟨_,Z,fits (by lia),_,Z,fits (by simp only[qay];lia),_,Z,fits (by simp only[qay];lia),(nmc Z (.inr ⟨_,Z,fits (by lia),_,Z,fits (by simp only[qay];lia),fits (by simp only[qay];lia),?_⟩))⟩))⟩;rw[show CF++Aa "anew " ++ r.name++Aa " " ++ y=qaw (.anew r.name y) by rw[qk9];exact qn1 _ _];exact d
  rw[show ((r.anew.map V.str).map λv=>match v with | .str y=>V.str (qaw (.anew r.name y))|_=>.non)=qbc (r.anew.map (Rw7.anew r.name)) by unfold qbc;rw[AV,AV,AV];rfl];generalize e:upd G3 p4 _=F4;obtain⟨t4,f4⟩:=alg e ao;clear e;refine⟨q,p4,_,_,Z,Z,t4 _ _ e3,f4,fits (by simp only[qe6,Ag,Ac,Au,Bu];lia),?_⟩;have x:=qao (o:=.lst (qbc ([qbl r]++r.ends.map (Rw7.ends r.name))++qbc (r.anew.map (Rw7.anew r.name)))) (G.trans t4) L;have e4:upd F4 q (.lst (qbc ([qbl r]++r.ends.map (Rw7.ends r.name))++qbc (r.anew.map (Rw7.anew r.name)))) q=some (.lst (qbc ([qbl r]++r.ends.map (Rw7.ends r.name)++r.anew.map (Rw7.anew r.name)))):=by rw[qi];unfold qbc;simp only[Av]
  generalize upd F4 q _=G4 at x e4 |-;have aq:=x _ _ hx;have ah:=x _ _ l.hl;have ad:=l.tl.same x;have lu:us.length=r.longer.length:=by rw[l.tl.length,Ac]
  refine(nmc Z (nmc Z (flc (aq) (T.k9) (qm T.kA Ez) (rfl) ⟨_,Z,⟨_,SqL.of ah⟩,?_⟩)));let f:V->V:=λv=>match v with
   |.ref b=>match G4 b with
    |some (.tup [.str y,.int u,.int t])=>.str (qaw (.longer r.name y u t))
    |_=>.non
   |_=>.non
  refine qbi f (λσ'=>∃X v1 v2,σ'=[X,v1,v2,some (.str r.name)]) (qbz (K:=K) (SqL.of ah)) (fits (by lia)) ⟨none,none,none,Z⟩ (λv σ' H' O C Y D d=>?_) gk_tup3 λp5 aw=>?_
  .obtain⟨w0,w1,w2,rfl⟩:=D;obtain⟨j,hj⟩:=AL C;obtain⟨b,t,rfl,B,W⟩:=ad.get' hj;rw[Ak]at B;cases I:r.longer[j]? with
   |none=>rw[I]at B;cases B
   |some rr =>
    rw[I]at B;cases B;have ef:f (.ref b)=.str (qaw (.longer r.name rr.1 rr.2.1 rr.2.2)):=by show (match G4 b with|some (.tup [.str y,.int u,.int t])=>V.str (qaw (.longer r.name y u t))|_=>.non)=_;rw[W];rfl
    have d:=d [some (.str rr.1),some (.int rr.2.1),some (.int rr.2.2),some (.str r.name)] ⟨_,_,_,Z⟩;rw[ef]at d;have mem:=At I;obtain⟨⟨u1,u2⟩,t1,t2⟩:=c.lg rr mem;have y8:rr.1.length<=8:=(c.kin.2.2.2.1 rr mem).2.1;have nu:(Aa (toString rr.2.1)).length<=8:=A3 (qge u1 (Int.le_trans u2 Ez)).2.2.2.1 Ez;have nt:(Aa (toString rr.2.2)).length<=8:=A3 (qge t1 (Int.le_trans t2 Ez)).2.2.2.1 Ez;have ar:rr.2.1.natAbs.log2<1920:=Dr (Nat.log2_le_self _) (by lia);have ai:rr.2.2.natAbs.log2<1920:=Dr (Nat.log2_le_self _) (by lia);have z1:(Aa "longer ").length<=10:=En;have z2:(Aa " ").length<=10:=En;have z3:(Aa " times ").length<=10:=En;have z0:CF.length=0:=rfl;refine⟨_,_,Z,SqT.of (Y _ _ W),Z,_,_,Z,_,_,Z,_,_,Z,Z,?_⟩;refine⟨_,Z,fits (by simp only[qay];lia),(nmc Z (.inr ⟨_,Z,fits (by lia),_,Z,fits (by simp only[qay];lia),_,Z,fits (by simp only[qay];lia),(nmc Z (.inr ⟨_,Z,fits (by lia),_,Z,fits (by simp only[qay];lia),_,Z,fits (by simp only[qay];lia),?_⟩))⟩))⟩;refine(nmc Z (.inl ⟨_,Z,ar,_,Z,fits (by simp only[qay];lia),_,Z,fits (by simp only[qay];lia),(nmc Z (.inl ⟨_,Z,ai,_,Z,fits (by simp only[qay];lia),fits (by simp only[qay];lia),?_⟩))⟩));rw[show CF++Aa "longer " ++ r.name++Aa " " ++ rr.1++Aa " " ++ Aa (toString rr.2.1)++Aa " times " ++ Aa (toString rr.2.2)=qaw (.longer r.name rr.1 rr.2.1 rr.2.2) by rw[qk9];exact qks _ _ _ _];exact d
  rw[show us.map f=qbc (r.longer.map (λt=>Rw7.longer r.name t.1 t.2.1 t.2.2)) by
   unfold qbc;refine Bz λj=>?_;rw[Ak,Ak,Ak,Ak];cases I:r.longer[j]? with
   |none=>rw[Bh (by rw[lu];exact BF.mp I)];rfl
   |some rr =>obtain⟨b,B,W⟩:=ad.get (i:=j) (r:=qql rr) (by rw[Ak,I];rfl);rw[B];show some (match G4 b with|some (.tup [.str y,.int u,.int t])=>V.str (qaw (.longer r.name y u t))|_=>.non)=_;rw[W];rfl]
  generalize e:upd G4 p5 _=F5;obtain⟨t5,f5⟩:=alg e aw;clear e;refine⟨q,p5,_,_,Z,Z,t5 _ _ e4,f5,fits (by simp only[qe6,Ag,Ac,Au,Bu];lia),?_⟩;have m:=qao (o:=.lst (qbc ([qbl r]++r.ends.map (Rw7.ends r.name)++r.anew.map (Rw7.anew r.name))++qbc (r.longer.map (λt=>Rw7.longer r.name t.1 t.2.1 t.2.2)))) (x.trans t5) L;have U:upd F5 q (.lst (qbc ([qbl r]++r.ends.map (Rw7.ends r.name)++r.anew.map (Rw7.anew r.name))++qbc (r.longer.map (λt=>Rw7.longer r.name t.1 t.2.1 t.2.2)))) q=some (.lst (qbc ([qbl r]++r.ends.map (Rw7.ends r.name)++r.anew.map (Rw7.anew r.name)++r.longer.map (λt=>Rw7.longer r.name t.1 t.2.1 t.2.2)))):=by rw[qi];unfold qbc;simp only[Av]
  generalize upd F5 q _=G5 at m U |-;have F:=m _ _ hx;have g:=l.hs.same m;apply qxy (p:=λJ=>Same H J/\J q=some (.lst (qbc ([qbl r]++r.ends.map (Rw7.ends r.name)++r.anew.map (Rw7.anew r.name)++r.longer.map (λt=>Rw7.longer r.name t.1 t.2.1 t.2.2)++qdx r.name r.still))))
  .intro aa;cases es:r.still with
   |none =>rw[es]at g;have g:v=.non:=g;subst g;refine(nmc Z (flc (F) (T.k9) (qm T.kA Ez) (rfl) ⟨Z,(nmc Z (qda Z ?_))⟩));have d:Same H G5/\G5 q=some (.lst (qbc ([qbl r]++r.ends.map (Rw7.ends r.name)++r.anew.map (Rw7.anew r.name)++r.longer.map (λt=>Rw7.longer r.name t.1 t.2.1 t.2.2)++qdx r.name r.still))):=⟨m,by rw[U,es];simp[qdx]⟩;generalize G5=W5 at d |-;exact aa W5 d
   |some z =>rw[es]at g;obtain⟨pz,rfl,hz⟩:=g;have zk:=c.kin.2.2.2.2.2 z es;have ro:qc6 (.still r.name z.1 z.2):=⟨c.nm,zk.1,zk.2⟩;have jw:=joinW ro (show 4<=10 by decide);refine(nmc Z (flc (F) (T.k9) (qm T.kA Ez) (rfl) ⟨Z,(nmc Z (qeu (λz=>nomatch z) (nmc Z ⟨.inl ⟨Z,_,SqL.of U⟩,Z,(nmc Z (nmc Z (flc (F) (T.k9) (qm T.kA Ez) (rfl) (txo (hz) Z (nmc Z (flc (F) (T.k9) (qm T.kA Ez) (rfl) (txo (hz) Z ⟨fits (show 4<=100000 by decide),λp6 n6=>?_⟩)))))))⟩)))⟩));generalize e:upd G5 p6 _=F6;obtain⟨t6,f6⟩:=alg e n6;clear e;refine⟨_,p6,qat (.still r.name z.1 z.2),Z,Z,SqL.of f6,jw.1,?_⟩;rw[jw.2];have ak:=t6 _ _ U;refine⟨_,_,_,Z,Z,ak,qcz (by simp only[qe6,Ag,Ac,Au,Bu];lia),?_⟩;exact aa _ ⟨qao (m.trans t6) L,by rw[qi,es];unfold qbc qdx;simp only[Av,A6,BC,AE]⟩
  rintro G6 ⟨R,e6⟩;have lst:(qdx r.name r.still).length<=1:=by cases r.still <;>simp[qdx]
  have am:=R _ _ hx;have ag:=R _ _ l.hy;refine(nmc Z (nmc Z (flc (am) (T.k9) (qm T.kA Ez) (rfl) ⟨_,Z,⟨_,SqL.of ag⟩,?_⟩)));refine qbi (λv=>match v with | .str y=>.str (qaw (.yields r.name y))|_=>.non) (λσ'=>∃v,σ'=[v,some (.str r.name)]) (qbz (K:=K) (SqL.of ag)) (fits (by rw[Ac];lia)) ⟨none,Z⟩ (λv σ' H' O C Y D d=>?_) qcx λp7 ax=>?_
  .obtain⟨X,rfl⟩:=D;obtain⟨y,hy,rfl⟩:=AS.mp C;have y8:y.length<=8:=(qn6 r c _ (by simp[hy])).2.1;have d:=d [some (.str y),some (.str r.name)] ⟨_,Z⟩;have M:(qaw (.yields r.name y)).length<=90:=(qjm (show qc6 (.yields r.name y) from ⟨c.nm,qn6 r c _ (by simp[hy])⟩)).1;have z1:(Aa "yields ").length<=10:=En;have z2:(Aa " ").length<=10:=En;have z0:CF.length=0:=rfl;clear M;refine⟨_,Z,fits (by simp only[qay];lia),(nmc Z (.inr ⟨_,Z,fits (by lia),_,Z,fits (by simp only[qay];lia),_,Z,fits (by simp only[qay];lia),(nmc Z (.inr ⟨_,Z,fits (by lia),_,Z,fits (by simp only[qay];lia),fits (by simp only[qay];lia),?_⟩))⟩))⟩;rw[show CF++Aa "yields " ++ r.name++Aa " " ++ y=qaw (.yields r.name y) by rw[qk9];exact qkr _ _];exact d
  rw[show ((r.yields.map V.str).map λv=>match v with | .str y=>V.str (qaw (.yields r.name y))|_=>.non)=qbc (r.yields.map (Rw7.yields r.name)) by unfold qbc;rw[AV,AV,AV];rfl];generalize e:upd G6 p7 _=F7;obtain⟨t7,f7⟩:=alg e ax;clear e;refine⟨q,p7,_,_,Z,Z,t7 _ _ e6,f7,fits (by simp only[qe6,Ag,Ac,Au,Bu];lia),?_⟩;have af:=qao (o:=.lst (qbc ([qbl r]++r.ends.map (Rw7.ends r.name)++r.anew.map (Rw7.anew r.name)++r.longer.map (λt=>Rw7.longer r.name t.1 t.2.1 t.2.2)++qdx r.name r.still)++qbc (r.yields.map (Rw7.yields r.name)))) (R.trans t7) L;have e7:upd F7 q (.lst (qbc ([qbl r]++r.ends.map (Rw7.ends r.name)++r.anew.map (Rw7.anew r.name)++r.longer.map (λt=>Rw7.longer r.name t.1 t.2.1 t.2.2)++qdx r.name r.still)++qbc (r.yields.map (Rw7.yields r.name)))) q=some (.lst (qbc ([qbl r]++r.ends.map (Rw7.ends r.name)++r.anew.map (Rw7.anew r.name)++r.longer.map (λt=>Rw7.longer r.name t.1 t.2.1 t.2.2)++qdx r.name r.still++r.yields.map (Rw7.yields r.name)))):=by rw[qi];unfold qbc;simp only[Av]
  generalize upd F7 q _=G7 at af e7 |-;refine(nmc Z (k q G7 L af ?_));rw[e7,qfc];unfold qcq;simp only[AE,List.singleton_append,Bj,Bi]
theorem qpa (T:Txt K mg a):FnOk P w K mg base (CX1 P w) 3 a.dZ a.lH ["self","name"] (spRuO a):=by
 refine okX T.pG.fn qov (λvs H Q E h=>?_) (λcdv A outer s H vs Q E i h=>?_)
 .obtain⟨_,_,_,_,_,rfl,_⟩:=h
  all_goals rfl
 .obtain⟨x,rs,As,os,y,rfl,bk,k,o⟩:=h;refine⟨_,(qe (ze (qlb (qh2 (qf8 i) (pv 1) (qaq (pv 0) Z))) (qh (qdu Z (Takes.at qbo) (qep T.kN.xc T.kW.ty (qe7 T) (i.mono Ez) Z T.gQ T.kN.kp T.kW.bd .nil qam (qb (pv 1) qf qc)))) qad)
   (qh (qk (qiz (qf8 i) (qaq (pv 0) Z) (pv 1) (λ_ _=>rfl))))),?_⟩
  obtain⟨dx,po,d,f,h2,t⟩:=bk.bk;have g:=DGet.k (k:=.inr y) t;rw[qgr y bk.ln]at g;cases pn:qan rs y with
  |none =>rw[pn]at g;refine(nmc Z (nmc Z (flc (f) (T.kO) (qm T.kY Ez) (rfl) ⟨d,_,Z,g,(nmc Z (qby ?_))⟩)));exact(nmc Z ⟨fits (show 1<=100000 by decide),λe m=>⟨e,a.kE,_,_,Z,qi,T.kN,qm T.bC Ez,λl H9 b kp q c=>⟨Z,e,_,some l,Z,q,⟨_,c⟩,T.dR,(o pn) e l _ (qao (((Same.refl H)).trans (qbk m kp)) (((Same.refl H)).free m)) qi ((qp (λz=>by rw[z,qi]at b;cases b)).trans c)⟩⟩⟩)
  |some j =>
   obtain⟨r,n,hn⟩:=qa4 pn;have lt:j<As.length:=by rw[bk.ln];exact(Ah.mp n).1
   rw[pn,show (some j).bind (λj=>(As[j]?).map λA=>V.ref A.p)=(As[j]?).map λA=>V.ref A.p from Z,Al lt]at g;exact(nmc Z (nmc Z (flc (f) (T.kO) (qm T.kY Ez) (rfl) ⟨d,_,Z,g,(nmc Z (qa9 (nmc Z (flc (f) (T.kO) (qm T.kY Ez) (rfl) (nmc Z ⟨d,_,Z,g,k j _ pn (Al lt)⟩)))))⟩)))
theorem qms (T:Txt K mg a):FnOk P w K mg base CX0 4 a.rA a.mJ ["book"] (spShw a):=by
 refine T.gD.fn.ok qgo (λvs H Q E h=>?_) (λcdv A outer s H vs Q E p h=>?_)
 .obtain⟨_,_,_,_,rfl,_⟩:=h
  all_goals rfl
 .obtain⟨x,rs,As,M,rfl,bk,m,S,k⟩:=h;refine⟨_,(qe (qz (i:=1) qgo.nd Z (Ay Z) (zj qf))
   (qe (qch Bp Z (qbn (qf7 (pv 0) T.kO T.pK (qg3 T) (p.mono Ez) T.fA.bd .nil qam)) (qaj (i:=2) qgo.nd Z (Ay Z)) (qh (qij (i:=1) qgo.nd Z (Ay Z) (zf (qqw T) (p.mono Ez) Z T.dJ.mgx T.dJ.fn.kp T.dJ.bd .nil qam (qb (qyp (pv 0) T.kO T.xG (qpa T) (p.mono Ez) T.pG.bd .nil qwc (qb (pv 2) qf qc)) qf zn)) qio)))
   (qh (qk (qcd B6 CN CO qi7 zi (qb (pv 1) qf qc)))))),?_⟩
  obtain⟨dx,po,pd,l,hx2,hx3⟩:=id bk.bk;have l6:=bk.l6;refine⟨qem,λq I=>?_⟩;generalize G:upd H q _=H1;obtain⟨o,D⟩:=alg G I;clear G;refine(nmc Z ⟨x,dx,_,Z,o _ _ l,Z,x,rs,As,M,Z,(bk.same o).bk,bk.ln,bk.l6,λpn H2 nn L C=>?_⟩);have B:pn≠q:=λz=>by rw[z,D]at nn;cases nn
  have F:=o.trans L;refine⟨_,Z,⟨_,SqL.of C⟩,qds (K:=K) (a:=pn) (xs:=(rs.map RR.name).map V.str) (λi σ J=>Same H J/\J pn=some (.lst ((rs.map RR.name).map V.str))/\J q=some (.lst (qbc (qak (rs.take i))))/\∃t:Option V,σ=[some (.ref x),some (.ref q),t]) ⟨F,C,L _ _ D,none,Z⟩ (λi σ J _ h=>SqL.of h.2.1) ?_ ?_⟩
  .rintro i v σ J e ⟨c,N,g,t,rfl⟩;rw[Ak,Ak]at e;cases b:rs[i]? with
   |none=>rw[b]at e;cases e
   |some r =>
   rw[b]at e;cases e;have n:=bk.same c;refine(nmc Z (nmc Z ⟨x,dx,_,Z,c _ _ l,Z,(nmc Z ⟨x,rs,As,M,r.name,Z,n,λj A O U=>?_,λR=>absurd (Di (f:=RR.name) (At b)) (qc7.mp R)⟩)⟩));rw[qef bk.nn b]at O;cases O;have hnx:(qak (rs.take (i+1))).length=(qak (rs.take i)).length+(qck r).length:=by rw[qbr b];unfold qak;rw[Bc,Ag];simp[Bt]
   have hll:(qak (rs.take (i+1))).length<=100:=by have:=hd_le (rs:=rs) (j:=i+1) (k:=rs.length) (Ah.mp b).1;unfold hd at this;rw[B8]at this;lia
   refine⟨A,r,Z,n.ru i r A b U,m r (At b),λW J2 n2 d u=>?_⟩;refine⟨q,W,_,_,Z,Z,d _ _ g,u,fits (by rw[qe6,qe6];lia),?_⟩;refine⟨qao (c.trans d) I,by rw[qp B];exact d _ _ N,?_,_,Z⟩;rw[qi,qbr b];unfold qak qbc;rw[Bc,Av,Av];simp[Bt]
  .rintro σ J ⟨c,N,g,t,rfl⟩;rw[Ac,Ac,B8]at g;have y:=qqs (qn5 (qo3 m) S);refine⟨Z,(nmc Z ⟨_,q,(qak rs).map qaw,Z,Z,SqL.of g,y.1,?_⟩)⟩;rw[y.2];exact k J c
theorem qcs (T:Txt K mg a):FnOk P w K mg base CX0 1 a.pS a.mW ["_law_script","_law_k"] (spCell K):=by
 refine T.kG.fn.ok qqi (λvs H Q E h=>?_) (λcdv A outer s H vs Q E hr h=>?_)
 .obtain⟨_,_,_,rfl,_⟩:=h
  all_goals rfl
 .obtain⟨l,d,i,rfl,b,f,k⟩:=h;refine⟨_,(qe (ze (qu qg4 (pv 1) (zg qa5 (by rfl) T.kH qa2 (qb (pv 0) qf qc)) (qac _)) (qh (qk (zr zu (pv 0) (pv 1) (λ_ _=>rfl)))) qad)
   (qh (qk qg))),?_⟩
  refine(nmc Z (nmc Z ⟨_,_,Z,.inl ⟨_,b,Z⟩,(iic Z Z (nmc Z ?_))⟩));refine qba (λc=>?_) (λc=>?_)
  .exact(nmc Z (nmc Z ⟨_,_,_,_,Z,Z,b,qw9 f (of_decide_eq_true c),k⟩))
  .have e:cell d i=0:=qxa (λz=>c (decide_eq_true z));rw[e]at k;exact k
theorem qmt (T:Txt K mg a):FnOk P w K mg base CX0 1 a.m7 a.nH ["_law_cell","_law_many"] spWo7:=by
 refine T.gE.fn.ok qbq (λvs H Q E h=>?_) (λcdv A outer s H vs Q E hr h=>?_)
 .obtain⟨_,_,rfl,_⟩:=h
  all_goals rfl
 .obtain⟨c,m,rfl,hm,k⟩:=h;refine⟨_,(qe (qz (i:=2) qbq.nd Z (Ay Z) zi)
   (qe (qz (i:=3) qbq.nd Z (Ay Z) (zb qb2 (zb qb2 qg (zb qau (pv 0) qg)) (zb qau (zb qa7 (pv 0) qg) (zb qjw qg (zb qau (pv 0) qg)))))
   (qe (qz (i:=4) qbq.nd Z (Ay Z) (zb qau (zb qa7 (pv 0) qg) (zb qjw (pv 3) (zb qau (pv 0) qg))))
   (qe (qz (i:=5) qbq.nd Z (Ay Z) (zj (qb qg (qb qg (qb qg (qb qg (qb qg (qb qg (qb qg (qb qg qf qj) qj) qj) qj) qj) qj) qj) qj)))
   (qe (qz (i:=6) qbq.nd Z (Ay Z) zi)
   (qe (qch Bp Z (qd7 Z T.kX (qb (pv 3) qf qc)) (qaj (i:=7) qbq.nd Z (Ay Z)) (qh (qz (i:=6) qbq.nd Z (Ay Z) (zb qaa (pv 6) (zr qvo (pv 2) (zb qau (zb qau (zb qlf (pv 0) qg) (zr zu (pv 5) (pv 7) (λ_ _=>rfl))) qg) (λ_ _=>rfl))))))
   (qe (qz (i:=8) qbq.nd Z (Ay Z) (zj qf))
   (qe (qch Bp Z (qd7 Z T.kX (qb (pv 1) qf qc)) (qaj (i:=7) qbq.nd Z (Ay Z)) (qe (qz (i:=9) qbq.nd Z (Ay Z) (zb qau (zb qb2 (zb qa7 (pv 0) qg) (zb qa7 (pv 7) (zb qb2 qg (zb qau (pv 0) qg)))) qg))
   (qe (qz (i:=10) qbq.nd Z (Ay Z) (zb qaa (zb qaa (qdd qra (pv 6) qgh (qcu (pv 4))) (zr qvo (pv 2) (pv 9) (λ_ _=>rfl))) (qdd qra (pv 6) (qcu (zb qb2 (pv 4) qg)) qgh)))
   (qe (ze (PW.pt (qdq (qu qav (zb qau (pv 0) qg) qg (qac _)) (qdz (qu qav (zb qau (pv 7) qg) qg (qac _))))) (qh (qz (i:=10) qbq.nd Z (Ay Z) (qdd qra (pv 10) qgh (qcu (zb qb2 (pv 4) qg))))) qad)
   (qh (zd (qcd AJ AQ AR qbd (pv 8) (qb (pv 10) qf qc))))))))
   (qh (qk (pv 8))))))))))),?_⟩
  have za:=az_len;obtain⟨z,n,e,eS,en,y,G,N,hz,g1,g2⟩:=num46 c;have C:m<=52:=hm.elim (λh=>A3 h Ez) (·.2);refine(nmc Z (icc Z Z (pos Ez) (iic Z Z (nmc Z (icc Z Z ⟨Ez,Ez⟩ (nmc Z (icc Z Z (pos Ez) (iic Z Z (iic Z Z ⟨(pos g1),(iic Z Z ?_)⟩)))))))));dsimp only[];rw[eS];refine(nmc Z (icc Z Z ⟨Ez,Ez⟩ (nmc Z (nmc Z (icc Z Z (pos Ez) (iic Z Z (iic Z Z ⟨(pos g2),?_⟩)))))));dsimp only[];rw[en];refine⟨fits (show 8<=100000 by decide),λd aa=>?_⟩;have s0:=zc (o:=.lst (prL.map V.int)) aa;have L:upd H d (.lst (prL.map V.int)) d=some (.lst (prL.map V.int)):=qi;change _ at L;have e0:upd H d (.lst [V.int 100003,V.int 100019,V.int 100043,V.int 100049,V.int 100057,V.int 100069,V.int 100103,V.int 100109])=upd H d (.lst (prL.map V.int)):=rfl;rw[e0];generalize upd H d (.lst (prL.map V.int))=H0 at s0 L |-;have F:=rb (n:=z) (A3 hz Ez);refine(nmc Z ⟨_,Z,F.1,F.2,qej (lo:=0) (n:=((z:Int)).toNat) (λi σ H'=>H'=H0/\∃(x:Str)(b:Option V),σ=[some (.int c),some (.int (m:Int)),some (.str az),some (.int (z:Int)),some (.int (n:Int)),some (.ref d),some (.str x),b,none,none,none]/\x.length=i/\x.cps.toList.all low=true)
   ⟨Z,Aa "",none,Z,En,En⟩ ?_ ?_⟩)
  .rintro i σ H' r ⟨rfl,x,b,rfl,hl,l⟩;have r:i<z:=r;rw[DH];obtain⟨p,p0,pa⟩:=pr_at (k:=i) (AB r hz);obtain⟨j,ej,j26⟩:∃j:Nat,c*48271 % p % 26=(j:Int)/\j<26:=md _ 26 Ez;refine(nmc Z (nmc Z (nmc Z (iic Z Z ⟨.inr ⟨Ez,Ez⟩,(nmc Z (nmc Z (lxo (L) (qbh pa) (iic Z Z ⟨(pos p0),(icc Z Z (pos Ez) ⟨_,_,_,Z,Z,fits (by rw[za];decide),(show atI az.cps.toList (c*48271 % p % 26)=_ by rw[ej];exact az_at j26),_,_,Z,Z,fits (show x.length+1<=100000 by lia),?_⟩)⟩))))⟩))));refine⟨Z,_,_,Z,?_,?_⟩
   .rw[qay,hl];rfl
   .rw[qdv,List.all_append,l];show (true && [97+j].all low)=true;rw[C3,low26 j26];rfl
  .rintro σ H' ⟨rfl,st,b,rfl,hl,l⟩;have hl:st.length=z:=hl;refine⟨qem,λq hq=>?_⟩;have U:=s0.trans (zc (o:=.lst []) hq);have Y:=qi (H:=H') (a:=q) (o:=.lst []);have W:=s0.free hq;generalize upd H' q _=H1 at U Y |-;have S:=rb (n:=m) (A3 C Ez);refine(nmc Z ⟨_,Z,S.1,S.2,qej (lo:=0) (n:=((m:Int)).toNat) (λi σ H'=>Same H H'/\∃b t g:Option V,σ=[some (.int c),some (.int (m:Int)),some (.str az),some (.int (z:Int)),some (.int (n:Int)),some (.ref d),some (.str st),b,some (.ref q),t,g]/\H' q=some (.lst (((B4 i).map (wdS st.cps.toList n e (c / 128))).map V.str)))
    ⟨U,_,none,none,Z,Y⟩ ?_ ?_⟩)
   .rintro i σ H' r ⟨M,b,t,g,rfl,f⟩;have r:i<m:=r;rw[DH];have R:((((B4 i).map (wdS st.cps.toList n e (c / 128))).map V.str)).length<=90000:=by rw[Ac,Ac,C4];exact A3 (DD r) (A3 C Ez)
    have ed:(c / 128+(i:Int) / (1+c % 2)) % 26=(((sgn (c / 128) e i-97:Nat)):Int):=sgn_ed y;have O:sgn (c / 128) e i-97<26:=sgn_26;have I:97+(sgn (c / 128) e i-97)=sgn (c / 128) e i:=sgn_97;refine(nmc Z (icc Z Z ⟨Ez,Ez⟩ (nmc Z (nmc Z (icc Z Z (pos Ez) (iic Z Z (iic Z Z ⟨cd2 y G,(iic Z Z (icc Z Z (pos Ez) ?_))⟩)))))));dsimp only[];rw[ed];have D:=az_at O;rw[I]at D;have X:=A3 (Ea st none (some (n:Int))) (BW hl);have t2:=A3 (Ea st (some ((n:Int)+1)) none) (BW hl);refine(nmc Z (nmc Z ⟨_,Z,_,Z,fits (A3 (BW hl) (A3 hz Ez)),(nmc Z (nmc Z ⟨_,_,_,Z,Z,fits (by rw[za];decide),D,_,_,Z,Z,fits (A3 (DG X) (A3 (DG hz) Ez)),(nmc Z (nmc Z (iic Z Z ⟨_,Z,_,Z,fits (A3 (BW hl) (A3 hz Ez)),_,_,Z,Z,fits (by rw[qay];exact A3 (Nat.add_le_add (DG X) t2) (A3 (Nat.add_le_add (DG hz) hz) Ez)),?_⟩)))⟩))⟩));dsimp only[];rw[word_eq (st:=st) (n:=n) (c:=sgn (c / 128) e i) (by rw[hl];exact A3 (Nat.le_add_right _ _) N)];have J:st.cps.toList.length=z:=by rw[A7];exact hl
    have lw:(⟨(wdL st.cps.toList n (sgn (c / 128) e i)).toArray⟩:Str).length<=100000:=by show (wdL st.cps.toList n (sgn (c / 128) e i)).toArray.size<=100000;rw[Ax];unfold wdL;rw[Ag,Au,AZ,BN,J];lia
    have u:∀w:Str,w=wdS st.cps.toList n e (c / 128) i->∀t:Option V,Same H (upd H' q (.lst ((((B4 i).map (wdS st.cps.toList n e (c / 128))).map V.str)++[V.str w])))/\∃b v9' g:Option V,[some (V.int c),some (.int (m:Int)),some (.str az),some (.int (z:Int)),some (.int (n:Int)),some (.ref d),some (.str st),some (.int (i:Int)),some (.ref q),t,some (.str w)]=[some (V.int c),some (.int (m:Int)),some (.str az),some (.int (z:Int)),some (.int (n:Int)),some (.ref d),some (.str st),b,some (.ref q),v9',g]/\upd H' q (.lst ((((B4 i).map (wdS st.cps.toList n e (c / 128))).map V.str)++[V.str w])) q=some (.lst (((B4 (i+1)).map (wdS st.cps.toList n e (c / 128))).map V.str)):=λw hw t=>by refine⟨qao M W,_,_,_,Z,?_⟩;rw[qi,List.range_succ,Av,Av,hw];rfl
    refine(nmc Z (icc Z Z (pos Ez) ⟨Z,(nmc Z ?_)⟩));by_cases B:c % 2=1
    .refine qcy (congrArg V.int B) (nmc Z (icc Z Z (pos Ez) ⟨Z,(nmc Z ?_)⟩));by_cases v:(i:Int) % 2=1
     .refine qcy (congrArg V.int v) (nmc Z (nmc Z (iic Z Z ⟨_,Z,_,Z,fits lw,?_⟩)));dsimp only[];rw[cut_eq (by rw[J];exact A3 (Nat.le_add_right _ _) N)];refine(nmc Z ⟨.inl ⟨Z,_,SqL.of f⟩,(nmc Z ⟨_,_,_,Z,Z,f,qcz R,?_⟩)⟩);exact u _ (by unfold wdS;rw[if_pos ⟨eo1 y B,io1 v⟩]) _
     .refine qal (λz=>v (V.int.inj z)) (nmc Z ⟨.inl ⟨Z,_,SqL.of f⟩,(nmc Z ⟨_,_,_,Z,Z,f,qcz R,?_⟩)⟩);exact u _ (by unfold wdS;rw[if_neg (λz=>ni1 v z.2)]) _
    .refine qal (λz=>B (V.int.inj z)) (qa9 (nmc Z ⟨.inl ⟨Z,_,SqL.of f⟩,(nmc Z ⟨_,_,_,Z,Z,f,qcz R,?_⟩)⟩));exact u _ (by unfold wdS;rw[if_neg (λz=>ne1 y B z.1)]) _
   .rintro σ H' ⟨M,b,t,g,rfl,f⟩;refine(nmc Z (k q H' _ W M f (by rw[Ac,C4];rfl) (wds_nd G (by rw[A7];show n+1+e<=st.length;rw[hl];exact N) (λk hk=>?_)) (λx hx=>?_)))
    .rcases Nat.le_one_iff_eq_zero_or_eq_one.mp G with rfl|rfl
     .rw[Nat.div_one];lia
     .lia
    obtain⟨j,_,rfl⟩:=AS.mp hx;have J:st.cps.toList.length=z:=by rw[A7];exact hl
    exact wds_ok l (by lia) (by lia) j
theorem qii (T:Txt K mg a):FnOk P w K mg base CX0 1 a.nG a.nR ["_law_words_here","_law_cell"] spKp2:=by
 refine T.gI.fn.ok qci (λvs H Q E h=>?_) (λcdv A outer s H vs Q E hr h=>?_)
 .obtain⟨_,_,_,rfl,_⟩:=h
  all_goals rfl
 .obtain⟨p,c,ws,rfl,hp,nd,ok,l100,k⟩:=h;refine⟨_,(qe (qz (i:=2) qci.nd Z (Ay Z) (zj (qb zi (qb zi (qb zi (qb zi (qb zi (qb zi (qb zi (qb zi qf qj) qj) qj) qj) qj) qj) qj) qj)))
   (qe (qz (i:=2) qci.nd Z (Ay Z) (zb qcv (pv 2) (zj (qb zi (qb zi (qb zi (qb zi (qb zi (qb zi qf qj) qj) qj) qj) qj) qj))))
   (qe (qch Bp Z (qd7 Z T.kX (qb qg qf qj)) (qaj (i:=3) qci.nd Z (Ay Z)) (qe (qz (i:=4) qci.nd Z (Ay Z) (zr zu (pv 2) (zb qau (zb qa7 (pv 1) (zb qb2 qg (zb qlf qg (pv 3)))) qg) (λ_ _=>rfl)))
   (qe (qz (i:=5) qci.nd Z (Ay Z) (zb qau (zb qb2 (zb qlf (zb qa7 (pv 1) qg) qg) (zb qlf qg (pv 3))) (zg (qjx Z) (by rfl) T.fO qma (qb qg (qb (zg qa5 (by rfl) T.kH qa2 (qb (pv 0) qf qc)) qf zn) qj))))
   (qh (ze (PW.pt (qdq (qu qav (zb qau (pv 1) qg) qg (qac _)) (qdq (qu qg4 (pv 5) (zg qa5 (by rfl) T.kH qa2 (qb (pv 0) qf qc)) (qac _)) (qdz (qu qcc (pv 4) (pv 0) (by with_unfolding_all rfl)))))) (qh (qz (i:=0) qci.nd Z (Ay Z) (zb qcv (zb qcv (qdd qft (pv 0) qgh (qcu (pv 5))) (zj (qb (pv 4) qf qc))) (qdd qft (pv 0) (qcu (zb qb2 (pv 5) qg)) qgh)))) qad)))))
   (qh (qk (pv 0)))))),?_⟩
  refine⟨fits (show 8<=100000 by decide),λq1 n1=>?_⟩;generalize b:upd H q1 _=H1;obtain⟨s1,e1⟩:=alg b n1;clear b;refine(nmc Z ⟨fits (show 6<=100000 by decide),λq2 n2=>?_⟩);generalize b:upd H1 q2 _=H2;obtain⟨N,e2⟩:=alg b n2;clear b;refine⟨_,_,_,_,Z,Z,N _ _ e1,e2,fits (show 8+6<=100000 by decide),λu n3=>?_⟩;generalize b:upd H2 u _=H3;obtain⟨s3,I⟩:=alg b n3;clear b;have I:H3 u=some (.lst (qjr.map V.str)):=I;have y:=s1.trans (N.trans s3);have x:=rb (n:=2) Ez;refine⟨_,Z,x.1,x.2,qej (lo:=0) (n:=2) (λi σ J=>Same H J/\J u=some (.lst (qjr.map V.str))/\∃(m:Addr)(d:List Str)(G D F:Option V),J m=some (.lst (d.map V.str))/\WsOk ws.length d/\σ=[some (.ref m),some (.int c),some (.ref u),G,D,F]) ⟨y,I,p,ws,none,none,none,y _ _ hp,⟨Z,nd,ok⟩,Z⟩ ?_ ?_⟩
  .rintro i σ J R ⟨q,r,m,d,G,D,F,e,f,rfl⟩;have lz:=f.l;rw[DH];obtain⟨j,ej,hj⟩:∃j:Nat,c / (5+9*(i:Int)) % 14=(j:Int)/\j<14:=md _ 14 Ez;have R:i<2:=R;have hk:qjr[j]?=some (qjr[j]'hj):=Al hj;have v:qb1 (qjr[j]'hj):=qx4 _ (By hj);have aj:atI (qjr.map V.str) (j:Int)=some (.str (qjr[j]'hj)):=qbh (by rw[Ak,hk];rfl);refine(nmc Z (nmc Z (nmc Z (iic Z Z ⟨.inl ⟨Ez,Ez⟩,(iic Z Z (iic Z Z ⟨⟨by lia,by lia⟩,(icc Z Z (pos Ez) ?_)⟩))⟩))));dsimp only[];rw[ej];refine⟨_,_,_,_,Z,Z,SqL.of r,aj,?_⟩;generalize qjr[j]'hj=wd at v;have g:(d.map V.str).length=d.length:=Ac _;have M:(if (((d.map V.str).length:Nat):Int) > 1 then (((d.map V.str).length:Nat):Int) else 1)=((if d.length > 1 then d.length else 1:Nat):Int):=by
    rw[g];by_cases o:d.length > 1
    .rw[if_pos o,if_pos (by lia)]
    .rw[if_neg o,if_neg (by lia)];rfl
   have pm:0<(if d.length > 1 then d.length else 1):=by
    by_cases o:d.length > 1
    .rw[if_pos o];lia
    .rw[if_neg o];decide
   obtain⟨t,et,ht⟩:=md (c / 5*7+5*(i:Int)) _ pm;refine(nmc Z (icc Z Z ⟨Ez,Ez⟩ (iic Z Z ⟨.inr ⟨Ez,Ez⟩,(nmc Z (iic Z Z ⟨.inl ⟨Ez,Ez⟩,(iic Z Z (nmc Z ⟨_,_,Z,.inl ⟨_,SqL.of e,Z⟩,_,_,Z,(iic Z Z ⟨pos (by rw[M];lia),?_⟩)⟩))⟩))⟩)));dsimp only[];rw[M,et];refine(nmc Z (icc Z Z (pos Ez) ⟨Z,(nmc Z (qba (λo=>?_) (λo=>?_)))⟩))
   .refine(nmc Z (nmc Z ⟨_,_,Z,.inl ⟨_,SqL.of e,Z⟩,(iic Z Z (nmc Z (qba (λS=>?_) (λS=>?_))))⟩))
    .have tl:t<d.length:=by
      have:=of_decide_eq_true S
      rw[g]at this
      lia
     refine(nmc Z (nmc Z ⟨_,_,Z,.inl (SqL.of e),Z,qa1 _,(nmc Z ?_)⟩))
     show if (!inV (.str wd) (d.map V.str))=true then _ else _
     rw[qbp]
     refine qba (λL=>?_) (λL=>?_)
     .have nm:wd∉d:=λz=>by
       rw[AY.mpr z]at L
       cases L
      refine(nmc Z (nmc Z ⟨_,Z,_,_,Z,SqL.of e,λp5 n5=>?_⟩))
      rw[cutN]
      generalize b:upd J p5 _=J5
      obtain⟨s5,Y⟩:=alg b n5
      clear b
      refine(nmc Z ⟨fits (show 1<=100000 by decide),λp6 n6=>?_⟩)
      generalize b:upd J5 p6 _=J6
      obtain⟨U,e6⟩:=alg b n6
      clear b
      refine⟨_,_,_,_,Z,Z,U _ _ Y,e6,fits (by rw[AZ,g];show _+1<=_;lia),λp7 n7=>?_⟩
      generalize b:upd J6 p7 _=J7
      obtain⟨s7,e7⟩:=alg b n7
      clear b
      have B:=s5.trans (U.trans s7)
      refine(nmc Z (nmc Z (iic Z Z ⟨_,Z,_,_,Z,SqL.of (B _ _ e),λp8 n8=>?_⟩)))
      rw[show (t:Int)+1=((t+1:Nat):Int) from Z,qme _ (t+1) (by rw[g];lia)]
      generalize b:upd J7 p8 _=J8
      obtain⟨W,X⟩:=alg b n8
      clear b
      refine⟨_,_,_,_,Z,Z,W _ _ e7,X,fits (by rw[Ag,AZ,BN,g];show _+1+_<=_;lia),λO n9=>?_⟩
      generalize b:upd J8 O _=J9
      obtain⟨s9,e9⟩:=alg b n9
      clear b
      have C:=B.trans (W.trans s9)
      refine⟨q.trans C,C _ _ r,O,_,_,_,_,?_,f.put tl nm v,Z⟩
      rw[e9]
      simp only[Av,List.map_take,List.map_drop,A6,BC]
     .exact⟨q,r,m,d,_,_,_,e,f,Z⟩
    .exact qa9 ⟨q,r,m,d,_,_,_,e,f,Z⟩
   .exact qa9 ⟨q,r,m,d,_,_,_,e,f,Z⟩
  .rintro σ J ⟨q,r,m,d,G,D,F,e,f,rfl⟩;exact(nmc Z (k m J d q e f.l f.nd f.ok))
theorem qse (T:Txt K mg a):FnOk P w K mg base CX0 1 a.r8 a.rR ["_law_rule"] spSo:=by
 refine T.bK.fn.ok qa6 (λvs H Q E h=>?_) (λcdv A outer s H vs Q E hr h=>?_)
 .obtain⟨_,_,rfl,_⟩:=h
  all_goals rfl
 .obtain⟨p,r,rfl,lr,ok,k⟩:=h;refine⟨_,(qe (qz (i:=1) qa6.nd Z (C8 Z) (zr zu (pv 0) qg (λ_ _=>rfl)))
   (qe (qz (i:=2) qa6.nd Z (Ay Z) (zb qaa zi (qax qui (by rfl) T.kP qcl (qb (zr zu (pv 0) qg (λ_ _=>rfl)) qf zp))))
   (qe (ze (qu qct (zr zu (pv 0) qg (λ_ _=>rfl)) qas (qac _)) (qh (qz (i:=2) qa6.nd Z (Ay Z) (zb qaa zi (zr zu (pv 0) qg (λ_ _=>rfl))))) qad)
   (qe (qz (i:=3) qa6.nd Z (Ay Z) (zb qaa (zb qaa (zb qaa (zb qaa (zb qaa zi (pv 1)) zi) (zr zu (pv 0) qg (λ_ _=>rfl))) zi) (zr zu (pv 0) qg (λ_ _=>rfl))))
   (qe (qz (i:=3) qa6.nd Z (Ay Z) (zb qaa (zb qaa (zb qaa (zb qaa (zb qaa (zb qaa (pv 3) zi) (pv 2)) zi) (qax qb3 (by rfl) T.kP qcl (qb (zr zu (pv 0) qg (λ_ _=>rfl)) qf zp))) zi) (zr zu (pv 0) qg (λ_ _=>rfl))))
   (qe (qfg (i:=4) qa6.nd Z Z (N:=["_law_kind","_law_name_here"]) (js:=[none,some 1]) (XN:=["_law_rule","_law_name_here","_law_way","_law_head","_law_ends","_law_anew","_law_longer","_law_kind","_law_units","_law_times","_law_row_here","_law_still","_law_yields"]) (xs:=qab qe8) Z Z Z En (qbn (zr zu (pv 0) qg (λ_ _=>rfl))) (λ_ _ _ _ _ _=>(qaj (i:=0) (show BY (["_law_kind","_law_name_here"]:List Str) from by decide +kernel) Z (Ay Z) (C8 Z))) (λ_ _ _ _ _ _=>qcf) (λ_ _ _ _ _ _=>(zb qaa (zb qaa (zb qaa zi (pv 1)) zi) (pv 0))))
   (qe (qfg (i:=5) qa6.nd Z Z (N:=["_law_kind","_law_name_here"]) (js:=[none,some 1]) (XN:=["_law_rule","_law_name_here","_law_way","_law_head","_law_ends","_law_anew","_law_longer","_law_kind","_law_units","_law_times","_law_row_here","_law_still","_law_yields"]) (xs:=qab qe8) Z Z Z En (qbn (zr zu (pv 0) qg (λ_ _=>rfl))) (λ_ _ _ _ _ _=>(qaj (i:=0) (show BY (["_law_kind","_law_name_here"]:List Str) from by decide +kernel) Z (Ay Z) (C8 Z))) (λ_ _ _ _ _ _=>qcf) (λ_ _ _ _ _ _=>(zb qaa (zb qaa (zb qaa zi (pv 1)) zi) (pv 0))))
   (qe (qz (i:=6) qa6.nd Z (Ay Z) (zj qf))
   (qe (qch Bp Z (qbn (zr zu (pv 0) qg (λ_ _=>rfl))) (qle Z (qca (qaj (i:=7) qa6.nd Z (Ay Z)) (qca (qaj (i:=8) qa6.nd Z (Ay Z)) (qca (qaj (i:=9) qa6.nd Z (Ay Z)) qh1)))) (qe (qz (i:=10) qa6.nd Z (Ay Z) (zb qaa (zb qaa (zb qaa (zb qaa (zb qaa zi (pv 1)) zi) (pv 7)) zi) (qax qb3 (by rfl) T.kP qcl (qb (pv 8) qf qc))))
   (qh (zd (qcd AJ AQ AR qbd (pv 6) (qb (zb qaa (zb qaa (pv 10) zi) (qax qb3 (by rfl) T.kP qcl (qb (pv 9) qf qc))) qf zo))))))
   (qe (qz (i:=11) qa6.nd Z (Ay Z) (zj qf))
   (qe (ze (qu qct (zr zu (pv 0) qg (λ_ _=>rfl)) qas (qac _)) (qh (qz (i:=11) qa6.nd Z (Ay Z) (zj (qb (zb qaa (zb qaa (zb qaa (zb qaa (zb qaa zi (pv 1)) zi) (zr zt (zr zu (pv 0) qg (λ_ _=>rfl)) qg (λ_ _=>rfl))) zi) (zr zt (zr zu (pv 0) qg (λ_ _=>rfl)) qg (λ_ _=>rfl))) qf zo)))) qad)
   (qe (qfg (i:=12) qa6.nd Z Z (N:=["_law_other","_law_name_here"]) (js:=[none,some 1]) (XN:=["_law_rule","_law_name_here","_law_way","_law_head","_law_ends","_law_anew","_law_longer","_law_kind","_law_units","_law_times","_law_row_here","_law_still","_law_yields"]) (xs:=qab qe8) Z Z Z En (qbn (zr zu (pv 0) qg (λ_ _=>rfl))) (λ_ _ _ _ _ _=>(qaj (i:=0) (show BY (["_law_other","_law_name_here"]:List Str) from by decide +kernel) Z (Ay Z) (C8 Z))) (λ_ _ _ _ _ _=>qcf) (λ_ _ _ _ _ _=>(zb qaa (zb qaa (zb qaa zi (pv 1)) zi) (pv 0))))
   (qh (qk (zj (qb (zj (qb (pv 3) qf qc)) (qb (pv 4) (qb (pv 5) (qb (pv 6) (qb (pv 11) (qb (pv 12) qf qc) qc) qc) qc) qc) qf9)))))))))))))))),?_⟩
  obtain⟨pe,pa,pl,py,sv,us,c⟩:=lr;obtain⟨l1,l2,l3,l4,l5,l6,l7,l8,l9,l10,l11,l12,l13⟩:=qr0;obtain⟨k1,k2,k3,k4,k5,k6⟩:=ok.kin;obtain⟨z1,z2,z3,z4⟩:=ok.sz;have n8:r.name.length<=8:=ok.nm.2.1;have w8:r.who.length<=8:=ok.wh.2.1;have o8:r.owes.length<=8:=k1.2.1;have u8:r.unit.length<=5:=(qk8 ok.un).2.2;have m8:(Aa (toString r.many)).length<=2:=(qge ok.mn.1 ok.mn.2).2.2.2.1;have op8:(r.opens.getD "None").length<=8:=by
   cases eo:r.opens with|none=>show (Aa "None").length<=8;lia|some x=>exact(k5 x eo).2.1
  refine(nmc Z (lxo (c.hq) Z ?_));refine(nmc Z (lxo (c.hq) Z ⟨r.opens,by cases r.opens <;>rfl,_,_,Z,Z,fz,?_⟩));have ao:r.base=none \/ ∃y,r.base=some y:=by
   cases r.base with|none=>exact .inl rfl|some y=>exact .inr ⟨y,Z⟩
  have way8:(qm5 r).length<=15:=by
   unfold qm5;cases O:r.base with|none=>show (Aa "from " ++ r.opens.getD "None").length<=15;rw[qay];lia|some y=>have:y.length<=8:=(ok.ba y O).2.1;show (Aa "behind " ++ y).length<=15;rw[qay];lia
  apply useV (p:=λx=>x=some (.str (qm5 r)))
  .intro n;refine ao.elim (λz=>?_) (λz=>?_)
   .refine(nmc Z (lxo (c.hq) Z ⟨Z,(nmc Z (qda (by rw[z];rfl) ?_))⟩));have ew:(some (V.str (Aa "from " ++ r.opens.getD "None")):Option V)=some (.str (qm5 r)):=by unfold qm5;rw[z]
    generalize (some (V.str (Aa "from " ++ r.opens.getD "None")):Option V)=x2 at ew |-;exact n x2 ew
   .obtain⟨y,O⟩:=z;have ad:qev r.base=.str y:=by rw[O];rfl
    have y8:y.length<=8:=(ok.ba y O).2.1;refine(nmc Z (lxo (c.hq) Z ⟨Z,(nmc Z (qeu (λz=>by rw[ad]at z;cases z) ?_))⟩));refine(nmc Z (lxo (c.hq) Z ⟨_,y,Z,ad,fits (by lia),?_⟩));exact n _ (by unfold qm5;rw[O])
  rintro x2 rfl;refine(nmc Z ⟨_,_,Z,Z,fz,_,_,Z,Z,fz,(nmc Z (lxo (c.hq) Z ⟨_,_,Z,Z,fz,_,_,Z,Z,fz,(nmc Z (lxo (c.hq) Z ⟨_,_,Z,Z,fz,?_⟩))⟩))⟩);refine(nmc Z ⟨_,_,Z,Z,fz,(nmc Z ⟨_,_,Z,Z,fz,_,_,Z,Z,fz,(nmc Z (lxo (c.hq) Z ⟨_,Z,qiv (by have:=ok.mn;lia),_,_,Z,Z,fz,_,_,Z,Z,fz,(nmc Z (lxo (c.hq) Z ⟨_,_,Z,Z,fz,?_⟩))⟩))⟩)⟩);have ar:=qut r;have I:=Same.refl H;rw[show (Aa "term " ++ r.name++Aa " of " ++ r.who++Aa " due " ++ r.owes++Aa " " ++ qm5 r++Aa " " ++ Aa (toString r.many)++Aa " " ++ r.unit)=qaw (qbl r) from ar];refine(nmc Z (lxo (I _ _ c.hq) Z ⟨_,Z,⟨_,SqL.of (I _ _ c.he)⟩,?_⟩));refine qbi (λv=>match v with | .str y=>.str (qaw (.ends r.name y))|_=>.non) (λσ'=>∃v,σ'=[v,some (.str r.name)]) (qbz (K:=K) (SqL.of (I _ _ c.he))) (fits (by rw[Ac];lia)) ⟨none,Z⟩ (λv σ' J ae e sm u d=>?_) qcx λS aq=>?_
  .obtain⟨v0,rfl⟩:=u;obtain⟨y,hy,rfl⟩:=AS.mp e;have y8:y.length<=8:=(k2 y hy).2.1;have d:=d [some (.str y),some (.str r.name)] ⟨_,Z⟩;dsimp only at d;rw[<- qn0]at d;exact(nmc Z ⟨_,_,Z,Z,fz,_,_,Z,Z,fz,(nmc Z ⟨_,_,Z,Z,fz,d⟩)⟩)
  rw[show ((r.ends).map V.str).map (λv=>match v with | .str y=>V.str (qaw (.ends r.name y))|_=>.non)=qbc ((r.ends).map (.ends r.name)) by unfold qbc;rw[AV,AV,AV];rfl];obtain⟨s0,e1⟩:=alc (o:=.lst (qbc ((r.ends).map (.ends r.name)))) aq;generalize upd H S _=H1 at s0 e1 |-;have D:=s0;refine(nmc Z (lxo (D _ _ c.hq) Z ⟨_,Z,⟨_,SqL.of (D _ _ c.ha)⟩,?_⟩));refine qbi (λv=>match v with | .str y=>.str (qaw (.anew r.name y))|_=>.non) (λσ'=>∃v,σ'=[v,some (.str r.name)]) (qbz (K:=K) (SqL.of (D _ _ c.ha))) (fits (by rw[Ac];lia)) ⟨none,Z⟩ (λv σ' J ae e sm u d=>?_) qcx λU aw=>?_
  .obtain⟨v0,rfl⟩:=u;obtain⟨y,hy,rfl⟩:=AS.mp e;have y8:y.length<=8:=(k3 y hy).2.1;have d:=d [some (.str y),some (.str r.name)] ⟨_,Z⟩;dsimp only at d;rw[<- qn1]at d;exact(nmc Z ⟨_,_,Z,Z,fz,_,_,Z,Z,fz,(nmc Z ⟨_,_,Z,Z,fz,d⟩)⟩)
  rw[show ((r.anew).map V.str).map (λv=>match v with | .str y=>V.str (qaw (.anew r.name y))|_=>.non)=qbc ((r.anew).map (.anew r.name)) by unfold qbc;rw[AV,AV,AV];rfl];obtain⟨s1,e2⟩:=alc (o:=.lst (qbc ((r.anew).map (.anew r.name)))) aw;generalize upd H1 U _=H2 at s1 e2 |-;have B:=D.trans s1;refine⟨qem,λG n3=>?_⟩;obtain⟨s2,e3⟩:=alc (o:=.lst []) n3;generalize upd H2 G _=H3 at s2 e3 |-;have Y:=B.trans s2;have lu:us.length=r.longer.length:=by rw[c.tl.length,Ac]
  refine(nmc Z (lxo (Y _ _ c.hq) Z ⟨_,Z,⟨_,SqL.of (Y _ _ c.hl)⟩,qds (K:=K) (a:=pl) (xs:=us) (λi σ J=>Same H2 J/\J G=some (.lst (qbc ((r.longer.take i).map λt=>.longer r.name t.1 t.2.1 t.2.2)))/\∃v7 v8 v9 L:Option V,σ=[some (.ref p),some (.str r.name),some (.str (qm5 r)),some (.str (qaw (qbl r))),some (.ref S),some (.ref U),some (.ref G),v7,v8,v9,L,none,none]) ⟨s2,e3,none,none,none,none,Z⟩ (λi σ J _ h=>SqL.of ((B.trans h.1) _ _ c.hl)) ?_ ?_⟩))
  .rintro i v σ J e ⟨sJ,hJ,v7,v8,v9,L,rfl⟩;obtain⟨b,t,rfl,M,g2⟩:=c.tl.get' e;rw[Ak]at M;cases F:r.longer[i]? with
   |none=>rw[F]at M;cases M
   |some tr =>
   rw[F]at M;cases M;have hi:i<r.longer.length:=(Ah.mp F).1;have tm:=At F;obtain⟨⟨b1,b2⟩,b3,b4⟩:=ok.lg tr tm;have t8:tr.1.length<=8:=(k4 tr tm).2.1;have a2:(Aa (toString tr.2.1)).length<=2:=(qge b1 (by lia)).2.2.2.1;have a3:(Aa (toString tr.2.2)).length<=2:=(qge b3 (by lia)).2.2.2.1;refine⟨_,_,Z,SqT.of ((B.trans sJ) _ _ g2),Z,_,_,Z,_,_,Z,_,_,Z,Z,?_⟩;refine(nmc Z ⟨_,_,Z,Z,fz,_,_,Z,Z,fz,(nmc Z ⟨_,_,Z,Z,fz,_,_,Z,Z,fz,(nmc Z ⟨_,Z,qiv (by lia),_,_,Z,Z,fz,?_⟩)⟩)⟩);refine(nmc Z ⟨.inl ⟨Z,_,SqL.of hJ⟩,(nmc Z ⟨_,_,Z,Z,fz,(nmc Z ⟨_,Z,qiv (by lia),_,_,Z,Z,fz,_,_,_,Z,Z,hJ,qcz (by unfold qbc;rw[Ac,Ac,Ac,AZ];lia),?_⟩)⟩)⟩);refine⟨qao sJ n3,?_,_,_,_,_,Z⟩;rw[qi,qbr F,Av];unfold qbc;rw[Av,Av];show some (HO.lst (_++[V.str (wS "longer " ++ r.name++wS " " ++ tr.1++wS " " ++ nS tr.2.1++wS " times " ++ nS tr.2.2)]))=_;rw[qks];rfl
  .rintro σ H4 ⟨u,e4,v7,v8,v9,L,rfl⟩;rw[lu,B8]at e4;have bb:=B.trans u;refine⟨qem,λW n5=>?_⟩;obtain⟨s5,e5⟩:=alc (o:=.lst []) n5;generalize upd H4 W _=H5 at s5 e5 |-;have l:=bb.trans s5;have f:=c.hs.same l;have ai:r.still=none \/ ∃s,r.still=some s:=by
    cases r.still with|none=>exact .inl rfl|some s=>exact .inr ⟨s,Z⟩
   apply use2 (p:=λ(j:Hp)(x:Option V)=>∃g,x=some (.ref g)/\Same H5 j/\j g=some (.lst (qbc (qdx r.name r.still))))
   .intro n;refine ai.elim (λz=>?_) (λz=>?_)
    .rw[z]at f;have f:sv=.non:=f;refine(nmc Z (lxo (l _ _ c.hq) Z ⟨Z,(nmc Z (qda f ?_))⟩));obtain⟨j,hH6⟩:∃j,j=H5:=⟨_,Z⟩;have d:∃g,some (V.ref W)=some (.ref g)/\Same H5 j/\j g=some (.lst (qbc (qdx r.name r.still))):=⟨W,Z,by rw[hH6];exact Same.refl _,by rw[hH6,z,e5];rfl⟩;rw[<- hH6];generalize (some (V.ref W):Option V)=ah at d |-;exact n j ah d
    .obtain⟨s,es⟩:=z;rw[es]at f;obtain⟨b,hb,f⟩:=f;obtain⟨q1,q2⟩:=k6 s es;have q1:s.1.length<=8:=q1.2.1;have q2:s.2.length<=8:=q2.2.1;refine(nmc Z (lxo (l _ _ c.hq) Z ⟨Z,(nmc Z (qeu (λz=>by rw[hb]at z;cases z) ?_))⟩));refine(nmc Z ⟨_,_,Z,Z,fz,_,_,Z,Z,fz,(nmc Z (lxo (l _ _ c.hq) Z ⟨_,_,_,_,hb,Z,SqT.of f,Z,_,_,Z,Z,fz,_,_,Z,Z,fz,(nmc Z (lxo (l _ _ c.hq) Z ⟨_,_,_,_,hb,Z,SqT.of f,Z,_,_,Z,Z,fz,fits (show 1<=100000 by decide),λg n6=>?_⟩))⟩))⟩);refine n _ (some (.ref g)) ⟨g,Z,zc n6,?_⟩;rw[qi,es];show some (HO.lst [V.str (wS "still " ++ r.name++wS " " ++ s.1++wS " " ++ s.2)])=_;rw[qr1];rfl
   rintro j ah ⟨g,rfl,s6,e6⟩;have C:=l.trans s6;have z4':=z4;refine(nmc Z (lxo (C _ _ c.hq) Z ⟨_,Z,⟨_,SqL.of (C _ _ c.hy)⟩,?_⟩));refine qbi (λv=>match v with | .str y=>.str (qaw (.yields r.name y))|_=>.non) (λσ'=>∃v,σ'=[v,some (.str r.name)]) (qbz (K:=K) (SqL.of (C _ _ c.hy))) (fits (by rw[Ac];lia)) ⟨none,Z⟩ (λv σ' J ae e sm u d=>?_) qcx λp7 ax=>?_
   .obtain⟨v0,rfl⟩:=u;obtain⟨y,hy,rfl⟩:=AS.mp e;have y8:y.length<=8:=(ok.yl y hy).2.1;have d:=d [some (.str y),some (.str r.name)] ⟨_,Z⟩;dsimp only at d;rw[<- qkr]at d;exact(nmc Z ⟨_,_,Z,Z,fz,_,_,Z,Z,fz,(nmc Z ⟨_,_,Z,Z,fz,d⟩)⟩)
   rw[show ((r.yields).map V.str).map (λv=>match v with | .str y=>V.str (qaw (.yields r.name y))|_=>.non)=qbc ((r.yields).map (.yields r.name)) by unfold qbc;rw[AV,AV,AV];rfl];obtain⟨R,e7⟩:=alc (o:=.lst (qbc ((r.yields).map (.yields r.name)))) ax;generalize upd j p7 _=H7 at R e7 |-;have ak:=C.trans R;refine(nmc Z ⟨fits (show 1<=100000 by decide),λp8 au=>?_⟩);obtain⟨s8,e8⟩:=alc (o:=.lst [V.str (qaw (qbl r))]) au;generalize upd H7 p8 _=H8 at s8 e8 |-;have ac:=ak.trans s8;refine(nmc Z (nmc Z (nmc Z (nmc Z (nmc Z ⟨fits (show 6<=100000 by decide),λq nq=>?_⟩)))));have s9:=zc (o:=.lst [V.ref p8,V.ref S,V.ref U,V.ref G,V.ref g,V.ref p7]) nq;have aa:=s8.trans s9;have af:=R.trans aa;have am:=s6.trans af;have ag:=s5.trans am;have X:=u.trans ag;refine k q _ _ (ac.free nq) (ac.trans s9) qi rfl λi v rw e m=>?_;have hi:i<6:=(Ah.mp e).1;rcases (by lia:i=0\/i=1\/i=2\/i=3\/i=4\/i=5) with rfl|rfl|rfl|rfl|rfl|rfl
   .cases e;cases m;exact⟨p8,Z,s9 _ _ e8⟩
   .cases e;cases m;exact⟨S,Z,(s1.trans X) _ _ e1⟩
   .cases e;cases m;exact⟨U,Z,X _ _ e2⟩
   .cases e;cases m;exact⟨G,Z,ag _ _ e4⟩
   .cases e;cases m;exact⟨g,Z,af _ _ e6⟩
   .cases e;cases m;exact⟨p7,Z,aa _ _ e7⟩
theorem qvb (T:Txt K mg a):FnOk P w K mg base CX0 2 a.mT a.mH ["_law_rule"] spRws:=by
 refine T.bP.fn.ok qh9 (λvs H Q E h=>?_) (λcdv A outer s H vs Q E I h=>?_)
 .obtain⟨_,_,rfl,_⟩:=h
  all_goals rfl
 .obtain⟨p,r,rfl,lr,ok,k⟩:=h;refine⟨_,(qe (qz (i:=1) qh9.nd Z (Ay Z) (zj qf))
   (qe (qch Bp Z (qbn (zf (qse T) (I.mono Ez) Z T.bK.mgx T.bK.fn.kp T.bK.bd .nil qam (qb (pv 0) qf qc))) (qaj (i:=2) qh9.nd Z (Ay Z)) (qh (qz (i:=1) qh9.nd Z (Ay Z) (zb qcv (pv 1) (pv 2)))))
   (qh (qk (pv 1))))),?_⟩
  refine⟨qem,λt l=>?_⟩;obtain⟨s0,x⟩:=alc (o:=.lst []) l;generalize upd H t _=H0 at s0 x |-;refine(nmc Z ⟨p,r,Z,lr.same s0,ok,λps D us nps j es f u=>?_⟩);have e:=s0.trans j;have sl:=qxo ok;have B:(qig r).length=6:=rfl;refine⟨_,Z,⟨_,SqL.of es⟩,qds (K:=K) (a:=ps) (xs:=us) (λi σ J=>Same D J/\(∃q,J q=some (.lst (qbc ((qig r).take i).flatten))/\H q=none/\∃g:Option V,σ=[some (.ref p),some (.ref q),g])/\((qig r).take i).flatten.length<=100*i) ⟨Same.refl _,⟨t,j _ _ x,l,none,Z⟩,by simp⟩ (λi σ J _ h=>SqL.of (h.1 _ _ es)) ?_ ?_⟩
  .rintro i v σ J C ⟨c,⟨q,d,n,g,rfl⟩,F⟩;have L:i<6:=by rw[<- f];exact(Ah.mp C).1
   obtain⟨rw',hrw⟩:∃rw',(qig r)[i]?=some rw':=⟨_,Al (by rw[B];exact L)⟩;obtain⟨b,rfl,G⟩:=u i v rw' C hrw;have lb:=sl rw' (At hrw);have y:∀z:List Rw7,(qbc z).length=z.length:=λz=>by unfold qbc;rw[Ac,Ac]
   refine(nmc Z (nmc Z ⟨_,_,_,_,Z,Z,d,c _ _ G,fits (by rw[y,y];lia),λM m=>?_⟩));refine⟨c.trans (zc m),⟨M,?_,(e.trans c).free m,_,Z⟩,?_⟩
   .rw[qi,qbr hrw,List.flatten_append];unfold qbc;rw[Av,Av];simp
   .rw[qbr hrw,List.flatten_append,Ag];simp only[List.flatten_cons,List.flatten_nil,Bm];lia
  .rintro σ J ⟨c,⟨q,d,n,g,rfl⟩,F⟩;rw[f,<- B,B8]at d;exact(nmc Z (k q J n (e.trans c) d))
theorem qn9 (T:Txt K mg a):FnOk P w K mg base CX0 8 a.m9 a.mP ["_law_text"] (spTo a):=by
 refine T.gL.fn.ok qbj (λvs H Q E h=>?_) (λcdv A outer s H vs Q E M h=>?_)
 .obtain⟨_,rfl,_⟩:=h
  all_goals rfl
 .obtain⟨R,rfl,C,k,z⟩:=h;refine⟨_,(qe (qz (i:=1) qbj.nd Z (Ay Z) (zm (qb zi (qb qas (qb qdr qf qj) qj) qj)))
   (qe (ps_try ⟨Z,Z⟩ (λ_ _ _ N n=>(qh (zd (qes (qiw T) (M.mono Ez) Z T.kS.mgx T.kS.fn.kp T.kS.bd .nil N (qb (pv 0) qf qc))))) (ph_no (qet (qdk Z T.sO) (qet (qdk Z T.tW) (qet (qdk Z T.tZ) (qet (qdk Z T.xQ) (qet (qdk Z T.yC) (qet (qdk Z T.xR) (qet (qdk Z T.y0) (qet (qdk Z T.rS) pcs_nil)))))))) (qpz (i:=2) qbj.nd Z Z (qdk Z T.lM) (λ_=>(qe (qz (i:=3) qbj.nd Z (Ay Z) (qlc (zg qj0 (by rfl) T.kK qae (qb (pv 2) (qb (zm (qb (qbs (v:=.ref a.kE) Z T.gQ Z) (qb (qbs (v:=.ref a.kC) Z T.gR Z) (qb (qbs (v:=.ref a.kD) Z T.dU Z) (qb (qbs (v:=.ref a.kB) Z T.gF Z) qf qc) qc) qc) qc)) qf zq) qc))))
   (qh (qz (i:=1) qbj.nd Z (Ay Z) (zm (qb zi (qb (qi3 (pv 2) Z) (qb (qd9 (pv 3) (qd9 (zg qdf (by rfl) T.kK qae (qb (pv 2) (qb (qbs (v:=.ref a.kQ) Z T.kR Z) qf qc) qc)) (qe1 (zg qdf (by rfl) T.kK qae (qb (pv 2) (qb (qdy (v:=.ty "ValueError") Z T.bB qc4 Z) qf qc) qc))))) qf qga) qbe) qj)))))) (qpz (i:=2) qbj.nd Z Z (qdk Z T.gQ) (λ_=>(qe (qz (i:=3) qbj.nd Z (Ay Z) (qlc (zg qj0 (by rfl) T.kK qae (qb (pv 2) (qb (zm (qb (qbs (v:=.ref a.kC) Z T.gR Z) (qb (qbs (v:=.ref a.kD) Z T.dU Z) (qb (qbs (v:=.ref a.kB) Z T.gF Z) qf qc) qc) qc)) qf zq) qc))))
   (qh (qz (i:=1) qbj.nd Z (Ay Z) (zm (qb zi (qb (qi3 (pv 2) Z) (qb (qd9 (pv 3) (qd9 (zg qdf (by rfl) T.kK qae (qb (pv 2) (qb (qbs (v:=.ref a.kQ) Z T.kR Z) qf qc) qc)) (qe1 (zg qdf (by rfl) T.kK qae (qb (pv 2) (qb (qdy (v:=.ty "ValueError") Z T.bB qc4 Z) qf qc) qc))))) qf qga) qbe) qj)))))) (qpz (i:=2) qbj.nd Z Z (qdk Z T.dU) (λ_=>(qe (qz (i:=3) qbj.nd Z (Ay Z) (qlc (zg qj0 (by rfl) T.kK qae (qb (pv 2) (qb (zm (qb (qbs (v:=.ref a.kC) Z T.gR Z) (qb (qbs (v:=.ref a.kB) Z T.gF Z) qf qc) qc)) qf zq) qc))))
   (qh (qz (i:=1) qbj.nd Z (Ay Z) (zm (qb zi (qb (qi3 (pv 2) Z) (qb (qd9 (pv 3) (qd9 (zg qdf (by rfl) T.kK qae (qb (pv 2) (qb (qbs (v:=.ref a.kQ) Z T.kR Z) qf qc) qc)) (qe1 (zg qdf (by rfl) T.kK qae (qb (pv 2) (qb (qdy (v:=.ty "ValueError") Z T.bB qc4 Z) qf qc) qc))))) qf qga) qbe) qj)))))) (qpz (i:=2) qbj.nd Z Z (qdk Z T.gF) (λ_=>(qe (qz (i:=3) qbj.nd Z (Ay Z) (qlc (zg qdf (by rfl) T.kK qae (qb (pv 2) (qb (qbs (v:=.ref a.kC) Z T.gR Z) qf qc) qc))))
   (qh (qz (i:=1) qbj.nd Z (Ay Z) (zm (qb zi (qb (qi3 (pv 2) Z) (qb (qd9 (pv 3) (qd9 (zg qdf (by rfl) T.kK qae (qb (pv 2) (qb (qbs (v:=.ref a.kQ) Z T.kR Z) qf qc) qc)) (qe1 (zg qdf (by rfl) T.kK qae (qb (pv 2) (qb (qdy (v:=.ty "ValueError") Z T.bB qc4 Z) qf qc) qc))))) qf qga) qbe) qj)))))) (qpz (i:=2) qbj.nd Z Z (qdk Z T.gR) (λ_=>(qh (qz (i:=1) qbj.nd Z (Ay Z) (zm (qb zi (qb (qi3 (pv 2) Z) (qb (qd9 (zg qdf (by rfl) T.kK qae (qb (pv 2) (qb (qbs (v:=.ref a.kQ) Z T.kR Z) qf qc) qc)) (qe1 (zg qdf (by rfl) T.kK qae (qb (pv 2) (qb (qdy (v:=.ty "ValueError") Z T.bB qc4 Z) qf qc) qc)))) qf qga) qbe) qj))))) ph_nil)))))))
   (qh (qk (pv 1))))),?_⟩
  refine⟨qqj _ _ _,λG I=>?_⟩;obtain⟨s0,B⟩:=alc (o:=.tup [.str (wS "read"),.non,.bl true]) I;change _ at B;generalize hH0:upd H G _=H0 at s0 B |-;refine(nmc Z ⟨R,Z,C,λrs ok=>⟨λxb J As os D bk=>(nmc Z ((k rs ok).1 os G J bk.os (s0.trans D) (D _ _ B))),?_⟩,λe u=>?_⟩)
  .intro x j F m r l ex d L O;refine⟨x,_,Z,ex,⟨⟨fits (show 8<=100000 by decide),λc f=>?_⟩,?_⟩⟩
   .simp only[An,Aq,or_false]at f;rcases f with rfl|rfl|rfl|rfl|rfl|rfl|rfl|rfl
    .exact T.sK
    .exact T.sC
    .exact T.xC
    .exact T.tS
    .exact T.sG
    .exact T.xP
    .exact T.tJ
    .exact T.rY
   refine qc8 T.tN ?_;refine qc8 T.rV ?_;refine qc8 T.tG ?_;refine qc8 T.xJ ?_;refine qhx T.tI ?_;refine(nmc Z ⟨x,_,j,false,_,_,Z,ex,d,T.gM.is,qm T.nW Ez,Z,(nmc Z ⟨_,_,_,_,_,_,_,Z,ex,⟨_,d⟩,T.gM.is,.inr ⟨_,Z,Z⟩,qbf T.mU (i:=0) Z Z,(nmc Z (qby (nmc Z ⟨_,_,_,_,_,_,_,Z,ex,⟨_,d⟩,T.gM.is,.inl ⟨_,Z,Z⟩,qbf T.mU (i:=1) Z Z,qqj _ _ _,λt g=>?_⟩)))⟩)⟩);have st:=zc (o:=.tup [.str (wS "ring"),.ref F,.bl true]) g;exact(nmc Z ((k rs ok).2 t F _ r ((s0.trans l).trans st) qi (st _ _ L) O))
  cases e with
  |rule i =>
   intro x j m l ex d;refine⟨x,_,Z,ex,⟨⟨fits (show 8<=100000 by decide),λc f=>?_⟩,?_⟩⟩
   .simp only[An,Aq,or_false]at f;rcases f with rfl|rfl|rfl|rfl|rfl|rfl|rfl|rfl
    .exact T.sP
    .exact T.tH
    .exact T.xZ
    .exact T.xS
    .exact T.sU
    .exact T.yG
    .exact T.xE
    .exact T.sV
   refine qhx T.sT ?_;refine(nmc Z ⟨fits (show 4<=100000 by decide),λp n=>?_⟩);obtain⟨sp,ep⟩:=alc (o:=.tup [V.ref a.kE,V.ref a.kC,V.ref a.kD,V.ref a.kB]) n;generalize upd m p _=H10 at sp ep |-;have q:([Ap a.kE,Ap a.kC,Ap a.kD,Ap a.kB].map λc=>BI K (.ref a.kF) c)=[Ap a.kE,Ap a.kC,Ap a.kD,Ap a.kB].map (λ_=>some false):=by simp only[A6,BC];rw[qbf T.gX (i:=3) (c:=.ref a.kE) (b:=false) Z Z,qbf T.gX (i:=6) (c:=.ref a.kC) (b:=false) Z Z,qbf T.gX (i:=4) (c:=.ref a.kD) (b:=false) Z Z,qbf T.gX (i:=5) (c:=.ref a.kB) (b:=false) Z Z]
   refine⟨_,_,_,_,_,[a.kE,a.kC,a.kD,a.kB],false,Z,sp _ _ ex,⟨_,sp _ _ d⟩,T.kU.is,ep,qe4 q,(nmc Z ?_)⟩;refine(nmc Z ⟨x,_,j,false,_,_,Z,(sp _ _ ex),(sp _ _ d),T.kU.is,qm T.bY Ez,Z,(nmc Z (nmc Z (qby (nmc Z ⟨_,_,_,_,_,_,_,Z,(sp _ _ ex),⟨_,(sp _ _ d)⟩,T.kU.is,.inr ⟨_,Z,Z⟩,qbf T.gX (i:=0) Z Z,(nmc Z (qby (nmc Z ⟨_,_,_,_,_,_,_,Z,(sp _ _ ex),⟨_,(sp _ _ d)⟩,T.kU.is,.inl ⟨_,Z,Z⟩,qbf T.gX (i:=1) Z Z,qqj _ _ _,λt g=>?_⟩)))⟩))))⟩);have st:=zc (o:=.tup [.str (wS "rule"),.int (i:Int),.bl true]) g;exact(nmc Z (z _ u t _ ((s0.trans (l.trans sp)).trans st) qi))
  |term y =>
   intro x j m l ex d;refine⟨x,_,Z,ex,⟨⟨fits (show 8<=100000 by decide),λc f=>?_⟩,?_⟩⟩
   .simp only[An,Aq,or_false]at f;rcases f with rfl|rfl|rfl|rfl|rfl|rfl|rfl|rfl
    .exact T.y6
    .exact T.yB
    .exact T.xB
    .exact T.xD
    .exact T.yF
    .exact T.tT
    .exact T.sS
    .exact T.xF
   refine qc8 T.tD ?_;refine qhx T.tE ?_;refine(nmc Z ⟨fits (show 3<=100000 by decide),λp n=>?_⟩);obtain⟨sp,ep⟩:=alc (o:=.tup [V.ref a.kC,V.ref a.kD,V.ref a.kB]) n;generalize upd m p _=H10 at sp ep |-;have q:([Ap a.kC,Ap a.kD,Ap a.kB].map λc=>BI K (.ref a.kE) c)=[Ap a.kC,Ap a.kD,Ap a.kB].map (λ_=>some false):=by simp only[A6,BC];rw[qbf T.gZ (i:=6) (c:=.ref a.kC) (b:=false) Z Z,qbf T.gZ (i:=4) (c:=.ref a.kD) (b:=false) Z Z,qbf T.gZ (i:=5) (c:=.ref a.kB) (b:=false) Z Z]
   refine⟨_,_,_,_,_,[a.kC,a.kD,a.kB],false,Z,sp _ _ ex,⟨_,sp _ _ d⟩,T.kN.is,ep,qe4 q,(nmc Z ?_)⟩;refine(nmc Z ⟨x,_,j,false,_,_,Z,(sp _ _ ex),(sp _ _ d),T.kN.is,qm T.bC Ez,Z,(nmc Z (nmc Z (qby (nmc Z ⟨_,_,_,_,_,_,_,Z,(sp _ _ ex),⟨_,(sp _ _ d)⟩,T.kN.is,.inr ⟨_,Z,Z⟩,qbf T.gZ (i:=0) Z Z,(nmc Z (qby (nmc Z ⟨_,_,_,_,_,_,_,Z,(sp _ _ ex),⟨_,(sp _ _ d)⟩,T.kN.is,.inl ⟨_,Z,Z⟩,qbf T.gZ (i:=1) Z Z,qqj _ _ _,λt g=>?_⟩)))⟩))))⟩);have st:=zc (o:=.tup [.str (wS "term"),.str y,.bl true]) g;exact(nmc Z (z _ u t _ ((s0.trans (l.trans sp)).trans st) qi))
  |twice y =>
   intro x j m l ex d;refine⟨x,_,Z,ex,⟨⟨fits (show 8<=100000 by decide),λc f=>?_⟩,?_⟩⟩
   .simp only[An,Aq,or_false]at f;rcases f with rfl|rfl|rfl|rfl|rfl|rfl|rfl|rfl
    .exact T.tU
    .exact T.tK
    .exact T.sW
    .exact T.sZ
    .exact T.yD
    .exact T.yI
    .exact T.yK
    .exact T.rZ
   refine qc8 T.tL ?_;refine qc8 T.tO ?_;refine qhx T.tY ?_;refine(nmc Z ⟨fits (show 2<=100000 by decide),λp n=>?_⟩);obtain⟨sp,ep⟩:=alc (o:=.tup [V.ref a.kC,V.ref a.kB]) n;generalize upd m p _=H10 at sp ep |-;have q:([Ap a.kC,Ap a.kB].map λc=>BI K (.ref a.kD) c)=[Ap a.kC,Ap a.kB].map (λ_=>some false):=by simp only[A6,BC];rw[qbf T.bW (i:=6) (c:=.ref a.kC) (b:=false) Z Z,qbf T.bW (i:=5) (c:=.ref a.kB) (b:=false) Z Z]
   refine⟨_,_,_,_,_,[a.kC,a.kB],false,Z,sp _ _ ex,⟨_,sp _ _ d⟩,T.gJ.is,ep,qe4 q,(nmc Z ?_)⟩;refine(nmc Z ⟨x,_,j,false,_,_,Z,(sp _ _ ex),(sp _ _ d),T.gJ.is,qm T.mK Ez,Z,(nmc Z (nmc Z (qby (nmc Z ⟨_,_,_,_,_,_,_,Z,(sp _ _ ex),⟨_,(sp _ _ d)⟩,T.gJ.is,.inr ⟨_,Z,Z⟩,qbf T.bW (i:=0) Z Z,(nmc Z (qby (nmc Z ⟨_,_,_,_,_,_,_,Z,(sp _ _ ex),⟨_,(sp _ _ d)⟩,T.gJ.is,.inl ⟨_,Z,Z⟩,qbf T.bW (i:=1) Z Z,qqj _ _ _,λt g=>?_⟩)))⟩))))⟩);have st:=zc (o:=.tup [.str (wS "twice"),.str y,.bl true]) g;exact(nmc Z (z _ u t _ ((s0.trans (l.trans sp)).trans st) qi))
  |unfit i =>
   intro x j m l ex d;refine⟨x,_,Z,ex,⟨⟨fits (show 8<=100000 by decide),λc f=>?_⟩,?_⟩⟩
   .simp only[An,Aq,or_false]at f;rcases f with rfl|rfl|rfl|rfl|rfl|rfl|rfl|rfl
    .exact T.xN
    .exact T.tX
    .exact T.xU
    .exact T.xA
    .exact T.xV
    .exact T.tP
    .exact T.xO
    .exact T.yJ
   refine qc8 T.rT ?_;refine qc8 T.xI ?_;refine qc8 T.xM ?_;refine qhx T.xK ?_;refine(nmc Z ⟨_,_,_,_,_,_,_,Z,ex,⟨_,d⟩,T.kM.is,.inr ⟨_,Z,Z⟩,qbf T.fL (i:=6) Z Z,(nmc Z ?_)⟩);refine(nmc Z ⟨x,_,j,false,_,_,Z,ex,d,T.kM.is,qm T.gB Ez,Z,(nmc Z (nmc Z (qby (nmc Z ⟨_,_,_,_,_,_,_,Z,ex,⟨_,d⟩,T.kM.is,.inr ⟨_,Z,Z⟩,qbf T.fL (i:=0) Z Z,(nmc Z (qby (nmc Z ⟨_,_,_,_,_,_,_,Z,ex,⟨_,d⟩,T.kM.is,.inl ⟨_,Z,Z⟩,qbf T.fL (i:=1) Z Z,qqj _ _ _,λt g=>?_⟩)))⟩))))⟩);have st:=zc (o:=.tup [.str (wS "unfit"),.int (i:Int),.bl true]) g;exact(nmc Z (z _ u t _ ((s0.trans l).trans st) qi))
theorem qsf (T:Txt K mg a):FnOk P w K mg base CX0 9 a.pP a.pI ["_law_text","_law_word","_law_field"] spRi:=by
 refine T.dX.fn.ok qmd (λvs H Q E h=>?_) (λcdv A outer s H vs Q E r h=>?_)
 .obtain⟨_,_,rfl,_⟩:=h
  all_goals rfl
 .obtain⟨x,u,rfl,q,l,k⟩:=h;refine⟨_,(qe (qz (i:=3) qmd.nd Z (Ay Z) (zf (qn9 T) (r.mono Ez) Z T.gL.mgx T.gL.fn.kp T.gL.bd .nil qam (qb (pv 0) qf qc)))
   (qe (ze (PW.pt (qdb (qu qie (zr zt (pv 3) qg (λ_ _=>rfl)) (pv 1) (qac _)) (qdb (qu qsz (zr zt (pv 3) qg (λ_ _=>rfl)) qdr (qac _)) (qdp (zh (zg qff (by rfl) T.kK qae (qb (zr zt (pv 3) qg (λ_ _=>rfl)) (qb (qdy (v:=.ty "bool") Z T.yH qun Z) qf qc) zp))))))) (qh (qk qdr)) qad)
   (qe (ze (qu qdj (pv 1) (zm (qb zi (qb zi qf qj) qj)) (by with_unfolding_all rfl)) (qh (qk (qd9 (zg qff (by rfl) T.kK qae (qb (zr zt (pv 3) qg (λ_ _=>rfl)) (qb (qdy (v:=.ty "int") Z T.kZ qeb Z) qf qc) zp)) (qe1 (qcb qav (zr zt (pv 3) qg (λ_ _=>rfl)) (pv 2) (qac _)))))) qad)
   (qh (qk (qd9 (zg qff (by rfl) T.kK qae (qb (zr zt (pv 3) qg (λ_ _=>rfl)) (qb (qdy (v:=.ty "str") Z T.kP qcl Z) qf qc) zp)) (qe1 (qcb qav (zr zt (pv 3) qg (λ_ _=>rfl)) (pv 2) (qac _))))))))),?_⟩
  refine(nmc Z ⟨x,Z,q,(λrs ok=>(by rw[ok]at l;cases l)),λe p t m n c=>?_⟩);rw[l]at p;cases p;cases u with
  |rule i =>refine(nmc Z (txo (c) Z (nmc Z ⟨Z,(nmc Z (qda Z (nmc Z (txo (c) Z ⟨_,_,Z,Z,(nmc Z (qa9 (nmc Z (txo (c) Z ⟨_,_,_,_,Z,.int _,qi0,(nmc Z (qa9 ?_))⟩))))⟩))))⟩)));refine(nmc Z ⟨fits (show 2<=100000 by decide),λg j=>?_⟩);obtain⟨d,f⟩:=alc (o:=.tup [.str (wS "rule"),.str (wS "unfit")]) j;generalize upd m g _=H2 at d f |-;have b:=d _ _ c;refine⟨_,_,Z,.inr (SqT.of f),Z,Z,(nmc Z (qby ?_))⟩;exact(nmc Z (txo (b) Z ⟨_,_,_,_,Z,.int _,qha,(nmc Z (qby (nmc Z (txo (b) Z (nmc Z ⟨Z,by rw[decide_eq_true (rfl:(erF _).2=(erF _).2)];exact k H2 (n.trans d)⟩)))))⟩))
  |term y =>refine(nmc Z (txo (c) Z (nmc Z ⟨Z,(nmc Z (qda Z (nmc Z (txo (c) Z ⟨_,_,Z,Z,(nmc Z (qa9 (nmc Z (txo (c) Z ⟨_,_,_,_,Z,.str _,qi2,(nmc Z (qa9 ?_))⟩))))⟩))))⟩)));refine(nmc Z ⟨fits (show 2<=100000 by decide),λg j=>?_⟩);obtain⟨d,f⟩:=alc (o:=.tup [.str (wS "rule"),.str (wS "unfit")]) j;generalize upd m g _=H2 at d f |-;have b:=d _ _ c;refine⟨_,_,Z,.inr (SqT.of f),Z,Z,(nmc Z (qa9 ?_))⟩;exact(nmc Z (txo (b) Z ⟨_,_,_,_,Z,.str _,qfu,(nmc Z (qby (nmc Z (txo (b) Z (nmc Z ⟨Z,by rw[decide_eq_true (rfl:(erF _).2=(erF _).2)];exact k H2 (n.trans d)⟩)))))⟩))
  |twice y =>refine(nmc Z (txo (c) Z (nmc Z ⟨Z,(nmc Z (qda Z (nmc Z (txo (c) Z ⟨_,_,Z,Z,(nmc Z (qa9 (nmc Z (txo (c) Z ⟨_,_,_,_,Z,.str _,qi2,(nmc Z (qa9 ?_))⟩))))⟩))))⟩)));refine(nmc Z ⟨fits (show 2<=100000 by decide),λg j=>?_⟩);obtain⟨d,f⟩:=alc (o:=.tup [.str (wS "rule"),.str (wS "unfit")]) j;generalize upd m g _=H2 at d f |-;have b:=d _ _ c;refine⟨_,_,Z,.inr (SqT.of f),Z,Z,(nmc Z (qa9 ?_))⟩;exact(nmc Z (txo (b) Z ⟨_,_,_,_,Z,.str _,qfu,(nmc Z (qby (nmc Z (txo (b) Z (nmc Z ⟨Z,by rw[decide_eq_true (rfl:(erF _).2=(erF _).2)];exact k H2 (n.trans d)⟩)))))⟩))
  |unfit i =>refine(nmc Z (txo (c) Z (nmc Z ⟨Z,(nmc Z (qda Z (nmc Z (txo (c) Z ⟨_,_,Z,Z,(nmc Z (qa9 (nmc Z (txo (c) Z ⟨_,_,_,_,Z,.int _,qi0,(nmc Z (qa9 ?_))⟩))))⟩))))⟩)));refine(nmc Z ⟨fits (show 2<=100000 by decide),λg j=>?_⟩);obtain⟨d,f⟩:=alc (o:=.tup [.str (wS "rule"),.str (wS "unfit")]) j;generalize upd m g _=H2 at d f |-;have b:=d _ _ c;refine⟨_,_,Z,.inr (SqT.of f),Z,Z,(nmc Z (qby ?_))⟩;exact(nmc Z (txo (b) Z ⟨_,_,_,_,Z,.int _,qha,(nmc Z (qby (nmc Z (txo (b) Z (nmc Z ⟨Z,by rw[decide_eq_true (rfl:(erF _).2=(erF _).2)];exact k H2 (n.trans d)⟩)))))⟩))
theorem qvc (T:Txt K mg a):FnOk P w K mg base CX0 1 a.hG a.mO ["_law_word"] spNm9:=by
 refine T.dC.fn.ok qnv (λvs H Q E h=>?_) (λcdv A outer s H vs Q E hr h=>?_)
 .obtain⟨_,rfl,_⟩:=h
  all_goals rfl
 .obtain⟨x,rfl,m,k⟩:=h;refine⟨_,(qe (ze (PW.pt (qdb (qu qg4 (zg qa5 (by rfl) T.kH qa2 (qb (pv 0) qf qc)) qg (qac _)) (qdp (qu op_gt (zg qa5 (by rfl) T.kH qa2 (qb (pv 0) qf qc)) qg (qac _))))) (qh (qk qdr)) qad)
   (qe (qch Bp Z (qoi (pv 0)) (qaj (i:=1) qnv.nd Z (Ay Z)) (qh (ze (qu qob (pv 1) zi (by with_unfolding_all rfl)) (qh (qk qdr)) qad)))
   (qh (qk qdr)))),?_⟩
  have hz:x.length<=A4:=fits (A3 m Ez);have b:Q (.bl (nmB x)) H:=k;unfold nmB at b;refine(nmc Z ⟨_,_,Z,⟨hz,Z⟩,(iic Z Z (nmc Z ?_))⟩);refine qba (λc=>?_) (λc=>?_)
  .have l:(x.cps.size:Int)<1:=of_decide_eq_true c;rw[decide_eq_false (show ¬1<=x.cps.size by lia),Cg,Cg]at b;exact qby b
  have l:¬(x.cps.size:Int)<1:=λz=>c (decide_eq_true z);refine(nmc Z ⟨_,_,Z,⟨hz,Z⟩,(iic Z Z (nmc Z ?_))⟩);refine qba (λd=>?_) (λd=>?_)
  .have d':8<(x.cps.size:Int):=of_decide_eq_true d;rw[decide_eq_false (show ¬x.cps.size<=8 by lia),Dm,Cg]at b;exact b
  have d':¬8<(x.cps.size:Int):=λz=>d (decide_eq_true z);rw[decide_eq_true (show 1<=x.cps.size by lia),decide_eq_true (show x.cps.size<=8 by lia),CD,CD]at b;refine(nmc Z ⟨_,Z,qvw (x:=x) (λi σ H'=>H'=H/\∃v:Option V,σ=[some (.str x),v]/\(x.cps.toList.take i).all low=true) ⟨Z,none,Z,Z⟩ ?_ ?_⟩)
  .rintro i c σ H' n ⟨rfl,v,rfl,g⟩;have j:x.cps.toList[i]?=some c:=by simpa using n
   refine(nmc Z ⟨_,_,Z,Z,(nmc Z ?_)⟩);show if (!(!(AH.Str.occurrences az ⟨#[c]⟩ 0 az.length 1).isEmpty))=true then _ else _;rw[not_az9];cases e:low c with
   |true =>refine qa9 ⟨Z,_,Z,?_⟩;rw[CV,j,List.all_append,g];simp[e]
   |false =>
    refine qby ?_;have f:x.cps.toList.all low=false:=by rw[List.all_eq_false];exact⟨c,At j,by rw[e];decide⟩
    rw[f]at b;exact b
  .rintro σ H' ⟨rfl,v,rfl,g⟩;rw[B5 (by rw[A7];exact A0 _)]at g;rw[g]at b;exact b
theorem qgy (T:Txt K mg a):FnOk P w K mg base CX0 1 a.nZ a.pR ["_law_word","_law_most"] spWt9:=by
 refine T.kT.fn.ok qow (λvs H Q E h=>?_) (λcdv A outer s H vs Q E hr h=>?_)
 .obtain⟨_,_,rfl,_⟩:=h
  all_goals rfl
 .obtain⟨x,m,rfl,p,k⟩:=h;refine⟨_,(qh (qk (qcb qdj (pv 0) (qd1 (N:=["_law_k"]) (js:=[none]) (XN:=["_law_word","_law_most"]) (xs:=qab qfw) Z Z Z En (qtq Z T.kX (qb qg (qb (zb qb2 (pv 1) qg) qf zo) qj)) (λ_ _ _ _ _ _=>(qaj (i:=0) (show BY (["_law_k"]:List Str) from by decide +kernel) Z (Ay Z) (C8 Z))) (λ_ _ _ _ _ _=>qcf) (λ_ _ _ _ _ _=>(qax qb3 (by rfl) T.kP qcl (qb (pv 0) qf qc)))) (by with_unfolding_all rfl)))),?_⟩;have m40:1<=m/\m<=40:=by lia
  refine(nmc Z (nmc Z (iic Z Z ⟨_,_,Z,⟨Ez,Ez,by lia,by lia⟩,?_⟩)));refine qbi strV (λσ'=>∃v,σ'=[v]) qkl (fits (by rw[Ac,C4];lia)) ⟨none,Z⟩ (λv σ' J RR' q sm g l=>?_) qcx λn f=>?_
  .obtain⟨v0,rfl⟩:=g;obtain⟨j,d,rfl⟩:=AS.mp q;have d:=Dj.mp d;exact(nmc Z ⟨_,Z,qiv (by lia),l [some (.int (1+(j:Int)))] ⟨_,Z⟩⟩)
  have e:((B4 ((m:Int)+1-1).toNat).map λi:Nat=>V.int (1+(i:Int))).map strV=(qc1 m).map V.str:=by rw[show ((m:Int)+1-1).toNat=m by lia];unfold qc1;rw[AV,AV];rfl
  rw[e];obtain⟨c,b⟩:=alc (o:=.lst ((qc1 m).map V.str)) f;generalize upd H n _=H2 at c b |-;refine⟨_,_,Z,.inl (SqL.of b),Z,qa1 _,?_⟩;have:=k H2 c;rw[<- num_in x p,<- qbp]at this;exact this
theorem qvd (T:Txt K mg a):FnOk P w K mg base CX0 2 a.mC a.lP ["_law_words_here"] spGd9:=by
 refine T.bJ.fn.ok qia (λvs H Q E h=>?_) (λcdv A outer s H vs Q E hr h=>?_)
 .obtain⟨_,_,rfl,_⟩:=h
  all_goals rfl
 .obtain⟨p,ws,rfl,hp,am,hl,hz,k⟩:=h;refine⟨_,(qe (qz (i:=1) qia.nd Z (Ay Z) (qdd qft (pv 0) (qcu qg) qgh))
   (qe (ze (PW.pt (qdq (qu qav (zr zu (pv 0) qg (λ_ _=>rfl)) zi (qac _)) (qdz (qu qav (zg qa5 (by rfl) T.kH qa2 (qb (pv 0) qf qc)) qg (qac _))))) (qe (ze (PW.pt (qdb (qu (qol hr.units0) (zj (qb (zr zu (pv 0) qg (λ_ _=>rfl)) (qb (zr zu (pv 0) qg (λ_ _=>rfl)) qf zp) zp)) (zj (qb zi (qb zi qf qj) qj)) (qac _)) (qdp (qu qcc (zr zu (pv 0) qg (λ_ _=>rfl)) (zm (qb zi (qb zi qf qj) qj)) (by with_unfolding_all rfl))))) (qh (qk qdr)) qad)
   (qe (ze (PW.pt (qdb (qe0 (zh (zf (qgy T) (hr.mono Ez) Z T.kT.mgx T.kT.fn.kp T.kT.bd .nil qam (qb (zr zu (pv 0) qg (λ_ _=>rfl)) (qb qg qf qj) zp)))) (qdp (qu qcc (zr zu (pv 0) qg (λ_ _=>rfl)) (zm (qb zi (qb zi (qb zi qf qj) qj) qj)) (by with_unfolding_all rfl))))) (qh (qk qdr)) qad)
   (qh (qz (i:=1) qia.nd Z (Ay Z) (zj (qb (zr zu (pv 0) qg (λ_ _=>rfl)) (qb (zr zu (pv 0) qg (λ_ _=>rfl)) (qb (zr zu (pv 0) qg (λ_ _=>rfl)) (qb (zr zu (pv 0) qg (λ_ _=>rfl)) qf zp) zp) zp) zp)))))) (qh (ze (PW.pt (qdq (qu qav (zr zu (pv 0) qg (λ_ _=>rfl)) zi (qac _)) (qdz (qu qav (zg qa5 (by rfl) T.kH qa2 (qb (pv 0) qf qc)) qg (qac _))))) (qe (ze (PW.pt (qdb (qe0 (zh (zf (qgy T) (hr.mono Ez) Z T.kT.mgx T.kT.fn.kp T.kT.bd .nil qam (qb (zr zu (pv 0) qg (λ_ _=>rfl)) (qb qg qf qj) zp)))) (qdb (qu qie (zr zu (pv 0) qg (λ_ _=>rfl)) zi (qac _)) (qdp (qe0 (zh (zf (qgy T) (hr.mono Ez) Z T.kT.mgx T.kT.fn.kp T.kT.bd .nil qam (qb (zr zu (pv 0) qg (λ_ _=>rfl)) (qb qg qf qj) zp)))))))) (qh (qk qdr)) qad)
   (qh (qz (i:=1) qia.nd Z (Ay Z) (qdd qft (pv 0) (qcu qg) (qcu qg))))) (qh (ze (qe0 (PW.pt (qdq (qu qav (zr zu (pv 0) qg (λ_ _=>rfl)) zi (qac _)) (qdz (qu qav (zg qa5 (by rfl) T.kH qa2 (qb (pv 0) qf qc)) qg (qac _)))))) (qh (ze (PW.pt (qdb (qu qcc (zr zu (pv 0) qg (λ_ _=>rfl)) (zm (qb zi (qb zi (qb zi qf qj) qj) qj)) (by with_unfolding_all rfl)) (qdp (qu qie (zg qa5 (by rfl) T.kH qa2 (qb (pv 0) qf qc)) qg (qac _))))) (qh (qk qdr)) qad)) qad)))))
   (qh (qk (zg (qjz Z) (by rfl) T.fS ql9 (qb (qd1 (N:=["_law_word"]) (js:=[none]) (XN:=["_law_words_here","_law_names"]) (xs:=qab qje) Z Z Z En (qbn (pv 1)) (λ_ _ _ _ _ _=>(qaj (i:=0) (show BY (["_law_word"]:List Str) from by decide +kernel) Z (Ay Z) (C8 Z))) (λ_ _ _ _ _ _=>qcf) (λ_ _ _ _ _ _=>(zf (qvc T) (hr.mono Ez) Z T.dC.mgx T.dC.fn.kp T.dC.bd .nil qam (qb (pv 0) qf qc)))) qf qi1)))))),?_⟩
  obtain⟨w0,wt,ews⟩:∃w0 wt,ws=w0::wt:=by
   cases ws with|nil=>exact absurd rfl am|cons a b=>exact⟨a,b,Z⟩
  have Y:atI (ws.map V.str) 0=some (.str w0):=qbh (j:=0) (by rw[ews];rfl);have l1:1<=ws.length:=by rw[ews];exact Nat.succ_pos _
  have F:(ws.map V.str).length=ws.length:=Ac _;refine(nmc Z ⟨_,Z,_,_,Z,SqL.of hp,λI n1=>?_⟩);rw[show (1:Int)=((1:Nat):Int) from Z,qme _ 1 (by lia),<- List.map_drop];obtain⟨D,e1⟩:=alc (o:=.lst ((ws.drop 1).map V.str)) n1;generalize upd H I _=H1 at D e1 |-;have d:=D _ _ hp;apply useGd (p:=λH2 y=>Same H H2/\∃(q:Addr)(f:List Str),y=some (.ref q)/\H2 q=some (.lst (f.map V.str))/\f.length<=1000/\(∀z∈f,z.length<=2000)/\(qc5 ws).isSome=f.all nmB)
  .intro L;apply qxy (p:=λX=>X=H1/\¬(w0=wS "term" /\ ws.length=10));intro ai;refine(nmc Z (lxo (d) Y ⟨Z,(nmc Z (qba (λt=>?_) (λt=>?_)))⟩))
   rotate_left
   exact qa9 (ai H1 ⟨Z,λz=>t (decide_eq_true (by rw[z.1]))⟩)
   rotate_left
   refine(nmc Z ⟨_,_,Z,.inl ⟨_,SqL.of d,Z⟩,Z,(nmc Z (qba (λu=>?_) (λu=>?_)))⟩)
   rotate_left
   exact ai H1 ⟨Z,λz=>u (decide_eq_true (by rw[F,z.2];rfl))⟩
   .rintro X ⟨eH,nt⟩;rw[eH];clear eH;apply qxy (p:=λX=>X=H1/\¬(w0=wS "longer" /\ ws.length=6));intro ac;refine(nmc Z (lxo (d) Y ⟨Z,(nmc Z (qba (λt=>?_) (λt=>?_)))⟩))
    rotate_left
    exact qa9 (ac H1 ⟨Z,λz=>t (decide_eq_true (by rw[z.1]))⟩)
    rotate_left
    refine(nmc Z ⟨_,_,Z,.inl ⟨_,SqL.of d,Z⟩,Z,(nmc Z (qba (λu=>?_) (λu=>?_)))⟩)
    rotate_left
    exact ac H1 ⟨Z,λz=>u (decide_eq_true (by rw[F,z.2];rfl))⟩
    .rintro H4 ⟨eH,nl⟩;rw[eH];clear eH;refine(nmc Z (lxo (d) Y ⟨Z,(nmc Z (qba (λt=>?_) (λt=>?_)))⟩))
     .refine(nmc Z ⟨_,_,Z,.inl ⟨_,SqL.of d,Z⟩,Z,(nmc Z (qba (λu=>?_) (λu=>?_)))⟩)
      .have n4:¬(w0=wS "still" /\ ws.length=4):=λz=>by
        rw[F,z.2]at u
        exact absurd u Ez
       refine(nmc Z (lxo (d) Y ⟨fits (show 3<=100000 by decide),λO n3=>?_⟩))
       obtain⟨x,M⟩:=alc (o:=.tup [.str (wS "ends"),.str (wS "anew"),.str (wS "yields")]) n3
       generalize upd H1 O _=r at x M |-
       have B:=D.trans x
       have ad:inV (.str w0) ([wS "ends",wS "anew",wS "yields"].map V.str)=decide (w0=wS "ends" \/ w0=wS "anew" \/ w0=wS "yields"):=by rw[qbp,List.contains_eq_mem];simp only[An,Aq,or_false]
       refine⟨_,_,Z,.inr (SqT.of M),Z,Z,(nmc Z ?_)⟩
       refine qba (λc=>?_) (λc=>?_)
       all_goals have c:=c
       all_goals rw[if_pos Z,show [V.str (wS "ends"),.str (wS "anew"),.str (wS "yields")]=[wS "ends",wS "anew",wS "yields"].map V.str from Z,ad]at c
       .have C:¬((w0=wS "ends" \/ w0=wS "anew" \/ w0=wS "yields")/\ws.length=3):=λz=>by
         rw[decide_eq_true z.1]at c
         exact absurd c Ez
        have:=k r B
        rw[qid ews nt nl n4 C]at this
        exact qby this
       .have h3:w0=wS "ends" \/ w0=wS "anew" \/ w0=wS "yields" := by
         cases e:decide (w0=wS "ends" \/ w0=wS "anew" \/ w0=wS "yields") with|true=>exact of_decide_eq_true e|false=>rw[e]at c;exact absurd rfl c
        refine(nmc Z ⟨_,_,Z,.inl ⟨_,SqL.of (x _ _ d),Z⟩,Z,(nmc Z (qba (λl=>?_) (λl=>?_)))⟩)
        .have C:¬((w0=wS "ends" \/ w0=wS "anew" \/ w0=wS "yields")/\ws.length=3):=λz=>by
          rw[F,z.2]at l
          exact absurd l Ez
         have:=k r B
         rw[qid ews nt nl n4 C]at this
         exact this
        .have l3:ws.length=3:=by
          cases e:decide (V.int ((ws.map V.str).length:Int)=V.int 3) with|true=>have:=V.int.inj (of_decide_eq_true e);rw[F]at this;lia|false=>rw[e]at l;exact absurd rfl l
         have G:Same H r/\∃(q:Addr)(f:List Str),some (V.ref I)=some (.ref q)/\r q=some (.lst (f.map V.str))/\f.length<=1000/\(∀z∈f,z.length<=2000)/\(qc5 ws).isSome=f.all nmB:=⟨B,I,_,Z,x _ _ e1,by rw[BN];lia,λz g=>hz z (Cr g),qmn ews h3 l3⟩
         generalize (some (V.ref I):Option V)=y at G |-
         exact L r y G
      .have h4:ws.length=4:=by
        cases e:decide (V.int ((ws.map V.str).length:Int)=V.int 4) with|true=>have:=V.int.inj (of_decide_eq_true e);rw[F]at this;lia|false=>rw[e]at u;exact absurd rfl u
       have G:Same H H1/\∃(q:Addr)(f:List Str),some (V.ref I)=some (.ref q)/\H1 q=some (.lst (f.map V.str))/\f.length<=1000/\(∀z∈f,z.length<=2000)/\(qc5 ws).isSome=f.all nmB:=⟨D,I,_,Z,e1,by rw[BN];lia,λz g=>hz z (Cr g),qr6 ews (V.str.inj (of_decide_eq_true t)) h4⟩
       exact L H1 _ G
     .refine qby ?_;have n4:¬(w0=wS "still" /\ ws.length=4):=λz=>t (decide_eq_true (by rw[z.1]));refine(nmc Z (lxo (d) Y ⟨fits (show 3<=100000 by decide),λO n3=>?_⟩));obtain⟨x,M⟩:=alc (o:=.tup [.str (wS "ends"),.str (wS "anew"),.str (wS "yields")]) n3;generalize upd H1 O _=r at x M |-;have B:=D.trans x;have ad:inV (.str w0) ([wS "ends",wS "anew",wS "yields"].map V.str)=decide (w0=wS "ends" \/ w0=wS "anew" \/ w0=wS "yields"):=by rw[qbp,List.contains_eq_mem];simp only[An,Aq,or_false]
      refine⟨_,_,Z,.inr (SqT.of M),Z,Z,(nmc Z ?_)⟩;refine qba (λc=>?_) (λc=>?_);all_goals have c:=c
      all_goals rw[if_pos Z,show [V.str (wS "ends"),.str (wS "anew"),.str (wS "yields")]=[wS "ends",wS "anew",wS "yields"].map V.str from Z,ad]at c
      .have C:¬((w0=wS "ends" \/ w0=wS "anew" \/ w0=wS "yields")/\ws.length=3):=λz=>by
        rw[decide_eq_true z.1]at c
        exact absurd c Ez
       have:=k r B
       rw[qid ews nt nl n4 C]at this
       exact qby this
      .have h3:w0=wS "ends" \/ w0=wS "anew" \/ w0=wS "yields" := by
        cases e:decide (w0=wS "ends" \/ w0=wS "anew" \/ w0=wS "yields") with|true=>exact of_decide_eq_true e|false=>rw[e]at c;exact absurd rfl c
       refine(nmc Z ⟨_,_,Z,.inl ⟨_,SqL.of (x _ _ d),Z⟩,Z,(nmc Z (qba (λl=>?_) (λl=>?_)))⟩)
       .have C:¬((w0=wS "ends" \/ w0=wS "anew" \/ w0=wS "yields")/\ws.length=3):=λz=>by
         rw[F,z.2]at l
         exact absurd l Ez
        have:=k r B
        rw[qid ews nt nl n4 C]at this
        exact this
       .have l3:ws.length=3:=by
         cases e:decide (V.int ((ws.map V.str).length:Int)=V.int 3) with|true=>have:=V.int.inj (of_decide_eq_true e);rw[F]at this;lia|false=>rw[e]at l;exact absurd rfl l
        have G:Same H r/\∃(q:Addr)(f:List Str),some (V.ref I)=some (.ref q)/\r q=some (.lst (f.map V.str))/\f.length<=1000/\(∀z∈f,z.length<=2000)/\(qc5 ws).isSome=f.all nmB:=⟨B,I,_,Z,x _ _ e1,by rw[BN];lia,λz g=>hz z (Cr g),qmn ews h3 l3⟩
        generalize (some (V.ref I):Option V)=y at G |-
        exact L r y G
    .have t:w0=wS "longer" := V.str.inj (of_decide_eq_true t);have l6:ws.length=6:=by have:=V.int.inj (of_decide_eq_true u);rw[F]at this;lia
     obtain⟨wa,wb,wc,U,we,wf,m⟩:=six l6;have h3:atI (ws.map V.str) 3=some (.str U):=qbh (j:=3) (by rw[m];rfl);have h4:atI (ws.map V.str) 4=some (.str we):=qbh (j:=4) (by rw[m];rfl);have h5:atI (ws.map V.str) 5=some (.str wf):=qbh (j:=5) (by rw[m];rfl);have n:=qqt ews t m;refine(nmc Z (lxo (d) h3 ⟨_,20,Z,.inr (.inl Z),λr S=>?_⟩));refine(nmc Z (qba (λc=>?_) (λc=>?_)))
     .have:=k r (D.trans S);rw[n,(qu0 c:due U 20=false)]at this;exact qby this
     rw[(qu1 c:due U 20=true)]at n;refine(nmc Z (lxo (S _ _ d) h4 ⟨Z,(nmc Z (qba (λl=>?_) (λl=>?_)))⟩))
     .have:=k r (D.trans S);rw[n,decide_eq_false (nd_t l)]at this;exact qby this
     rw[decide_eq_true (nd_f l)]at n;refine(nmc Z (lxo (S _ _ d) h5 ⟨_,3,Z,.inr (.inr Z),λH6 s6=>(nmc Z (qba (λR=>?_) (λR=>?_)))⟩))
     .have:=k H6 ((D.trans S).trans s6);rw[n,(qu0 R:due wf 3=false)]at this;exact this
     rw[(qu1 R:due wf 3=true)]at n;refine(nmc Z ⟨_,Z,_,Z,_,_,Z,SqL.of (s6 _ _ (S _ _ d)),λp9 n9=>?_⟩);rw[show qg6 (ws.map V.str) (some ((1:Nat):Int)) (some 3)=[wb,wc].map V.str by rw[m];rfl];exact L _ _ ⟨((D.trans S).trans s6).trans (zc n9),p9,[wb,wc],Z,qi,Nat.le_of_ble_eq_true Z,λz g=>hz z (by rw[m];simp only[An,Aq,or_false]at g |-;rcases g with h|h <;>simp[h]),n⟩
   .have t:w0=wS "term" := V.str.inj (of_decide_eq_true t);have l6:ws.length=10:=by have:=V.int.inj (of_decide_eq_true u);rw[F]at this;lia
    obtain⟨wa,wx,wb,ww,wc,wo,U,wy,wm,wu,m⟩:=ten l6;have a1:atI (ws.map V.str) 1=some (.str wx):=qbh (j:=1) (by rw[m];rfl);have a2:atI (ws.map V.str) 2=some (.str wb):=qbh (j:=2) (by rw[m];rfl);have a3:atI (ws.map V.str) 3=some (.str ww):=qbh (j:=3) (by rw[m];rfl);have a4:atI (ws.map V.str) 4=some (.str wc):=qbh (j:=4) (by rw[m];rfl);have a5:atI (ws.map V.str) 5=some (.str wo):=qbh (j:=5) (by rw[m];rfl);have a6:atI (ws.map V.str) 6=some (.str U):=qbh (j:=6) (by rw[m];rfl);have a7:atI (ws.map V.str) 7=some (.str wy):=qbh (j:=7) (by rw[m];rfl);have a8:atI (ws.map V.str) 8=some (.str wm):=qbh (j:=8) (by rw[m];rfl);have a9:atI (ws.map V.str) 9=some (.str wu):=qbh (j:=9) (by rw[m];rfl);have n:=qu2 ews t m;refine(nmc Z (lxo (d) a2 (nmc Z (lxo (d) a4 ⟨fits (show 2<=100000 by decide),λq1 m1=>?_⟩))));obtain⟨t1,g1⟩:=alc (o:=.lst [.str wb,.str wc]) m1;generalize upd H1 q1 _=r at t1 g1 |-;refine⟨fits (show 2<=100000 by decide),λq2 m2=>?_⟩;obtain⟨t2,g2⟩:=alc (o:=.lst [.str (wS "of"),.str (wS "due")]) m2;generalize upd r q2 _=H6 at t2 g2 |-;have ah:=t2 _ _ (t1 _ _ d);have ae:=(D.trans t1).trans t2;refine⟨_,_,_,_,Z,Z,SqL.of (t2 _ _ g1),SqL.of g2,Z,Z,(nmc Z ?_)⟩;refine qba (λc=>?_) (λc=>?_)
    .have c:=qu0 c;rw[eq2S]at c;have:=k H6 ae;rw[n,c]at this;exact qby this
    have c:=qu1 c;rw[eq2S]at c;rw[c]at n;refine(nmc Z (lxo (ah) a6 ⟨fits (show 2<=100000 by decide),λq3 m3=>?_⟩));obtain⟨O,g3⟩:=alc (o:=.tup [.str (wS "from"),.str (wS "behind")]) m3;generalize upd H6 q3 _=H7 at O g3 |-;have af:=O _ _ ah;have aa:=ae.trans O;refine⟨_,_,Z,.inr (SqT.of g3),Z,Z,(nmc Z (qba (λl=>?_) (λl=>?_)))⟩
    .have:=k H7 aa;rw[n,<- inL2,(qu0 l:inV (.str U) ([wS "from",wS "behind"].map V.str)=false)]at this;exact this
    rw[<- inL2,(qu1 l:inV (.str U) ([wS "from",wS "behind"].map V.str)=true)]at n;refine(nmc Z (lxo (af) a8 ⟨_,40,Z,.inl Z,λH8 s8=>(nmc Z (qba (λR=>?_) (λR=>?_)))⟩))
    .have:=k H8 (aa.trans s8);rw[n,(qu0 R:due wm 40=false)]at this;exact qby this
    rw[(qu1 R:due wm 40=true)]at n;have ag:=s8 _ _ af;refine(nmc Z (lxo (ag) a9 ⟨fits (show 3<=100000 by decide),λq4 m4=>?_⟩));obtain⟨t4,g4⟩:=alc (o:=.tup [.str (wS "days"),.str (wS "weeks"),.str (wS "court")]) m4;generalize upd H8 q4 _=H9 at t4 g4 |-;have W:=t4 _ _ ag;have ak:=(aa.trans s8).trans t4;refine⟨_,_,Z,.inr (SqT.of g4),Z,Z,(nmc Z (qba (λc6=>?_) (λc6=>?_)))⟩
    .have:=k H9 ak;rw[n,<- qbp,(qu0 c6:inV (.str wu) (qbu.map V.str)=false)]at this;exact this
    rw[<- qbp,(qu1 c6:inV (.str wu) (qbu.map V.str)=true)]at n;refine(nmc Z (lxo (W) a1 (nmc Z (lxo (W) a3 (nmc Z (lxo (W) a5 (nmc Z (lxo (W) a7 ⟨fits (show 4<=100000 by decide),λq5 m5=>?_⟩))))))));exact L _ _ ⟨ak.trans (zc m5),q5,[wx,ww,wo,wy],Z,qi,Nat.le_of_ble_eq_true Z,λz g=>hz z (by rw[m];simp only[An,Aq,or_false]at g |-;rcases g with h|h|h|h <;>simp[h]),n⟩
  rintro H2 y ⟨s2,q,f,rfl,hq,ln,hn,er⟩;refine(nmc Z ⟨_,Z,⟨_,SqL.of hq⟩,?_⟩);refine qbi nmV9 (λσ'=>∃v,σ'=[v]) (qbz (K:=K) (SqL.of hq)) (fits (by rw[Ac];lia)) ⟨none,Z⟩ (λv σ' J RR' hv sm s4 G=>?_) qcx λp3 n3=>?_
  .obtain⟨v0,rfl⟩:=s4;obtain⟨z,g,rfl⟩:=AS.mp hv;exact(nmc Z ⟨z,Z,hn z g,G [some (.str z)] ⟨_,Z⟩⟩)
  rw[show (f.map V.str).map nmV9=(f.map nmB).map V.bl by rw[AV,AV];rfl];obtain⟨x,M⟩:=alc (o:=.lst ((f.map nmB).map V.bl)) n3;generalize upd H2 p3 _=X at x M |-;refine⟨p3,f.map nmB,Z,SqL.of M,?_⟩;have:=k X (s2.trans x);rw[er]at this;rw[DZ];exact this
theorem qju (T:Txt K mg a):FnOk P w K mg base CX0 1 a.nO a.lA ["_law_cells","_law_name_here","_law_names","_law_kinds","_law_many"] spTr49:=by
 refine T.gH.fn.ok qb4 (λvs H Q E h=>?_) (λcdv A outer s H vs Q E hr h=>?_)
 .obtain⟨_,_,_,_,_,_,_,_,_,_,rfl,_⟩:=h
  all_goals rfl
 .obtain⟨pc,pn,pk,x,m,c0,L,u,names,f,rfl,e,hn,hk,wn,I,hx,m1,m4,k⟩:=h;refine⟨_,(qe (qz (i:=5) qb4.nd Z (Ay Z) (zr zu (zj (qb qg (qb qg (qb qg (qb qg (qb qg (qb qg (qb qg (qb qg qf qj) qj) qj) qj) qj) qj) qj) qj)) (zb qau (zb qa7 (zr zu (pv 0) qg (λ_ _=>rfl)) qg) qg) (λ_ _=>rfl)))
   (qe (qz (i:=6) qb4.nd Z (Ay Z) (zb qaa (zb qaa (zb qaa (zb qaa (zb qaa zi (pv 1)) zi) (zr zu (pv 3) (zb qau (zr zu (pv 0) qg (λ_ _=>rfl)) qg) (λ_ _=>rfl))) zi) (zr zu (pv 3) (pv 5) (λ_ _=>rfl))))
   (qe (ze (qu qav (zb qau (zr zu (pv 0) qg (λ_ _=>rfl)) qg) qg (qac _)) (qh (qz (i:=6) qb4.nd Z (Ay Z) (zb qaa (zb qaa (pv 6) zi) (zr zu (pv 2) (zb qau (zr zu (pv 0) qg (λ_ _=>rfl)) (pv 4)) (λ_ _=>rfl))))) (qe (qz (i:=7) qb4.nd Z (Ay Z) (zg (qnb Z) (by rfl) T.rQ qqe (qb (zb qau (zr zu (pv 0) qg (λ_ _=>rfl)) qg) (qb (zb qb2 qg (zb qau (zr zu (pv 0) qg (λ_ _=>rfl)) qg)) qf zo) zo)))
   (qh (qz (i:=6) qb4.nd Z (Ay Z) (zb qaa (zb qaa (pv 6) zi) (zr zu (pv 3) (zb qau (zb qb2 (pv 5) (pv 7)) qg) (λ_ _=>rfl)))))))
   (qe (qz (i:=8) qb4.nd Z (Ay Z) (qax qb3 (by rfl) T.kP qcl (qb (zb qb2 qg (zb qau (zb qa7 (zr zu (pv 0) qg (λ_ _=>rfl)) qg) qg)) qf zo)))
   (qe (ze (qu qav (zb qau (zb qa7 (zr zu (pv 0) qg (λ_ _=>rfl)) qg) qg) qg (qac _)) (qh (qz (i:=8) qb4.nd Z (Ay Z) (zr zu (zj (qb zi (qb zi (qb zi qf qj) qj) qj)) (zb qau (zb qa7 (zr zu (pv 0) qg (λ_ _=>rfl)) qg) qg) (λ_ _=>rfl)))) qad)
   (qe (qz (i:=9) qb4.nd Z (Ay Z) (zr zu (zj (qb zi (qb zi (qb zi qf qj) qj) qj)) (zb qau (zb qa7 (zr zu (pv 0) qg (λ_ _=>rfl)) qg) qg) (λ_ _=>rfl)))
   (qh (qk (zb qaa (zb qaa (zb qaa (zb qaa (pv 6) zi) (pv 8)) zi) (pv 9)))))))))),?_⟩
  obtain⟨l1,l2,l3,l4,l5,l6,l7,l8,l9,l10,l11,l12,l13⟩:=qr0;have x8:x.length<=8:=hx.2.1;have wkl:=I.l;have wnl:=wn.l;refine⟨fits (show 8<=100000 by decide),λq1 n1=>?_⟩;generalize r:upd H q1 _=H1;obtain⟨d,e1⟩:=alg r n1;clear r;obtain⟨o,o3,ho⟩:=ow_at (L / 6);refine(nmc Z (lxo (d _ _ e) Z (icc Z Z ⟨Ez,Ez⟩ (icc Z Z (pos Ez) (lxo (e1) ho ?_)))));obtain⟨Y,ma,ha⟩:=pk9 (xs:=f) (n:=26) L (by lia) Ez;obtain⟨kb,mb,hb⟩:=pn9 (xs:=f) (j:=o) (by lia);have oa:=I.ok _ ma;have ob:=I.ok _ mb;have a8:Y.length<=8:=oa.2.1;have b8:kb.length<=8:=ob.2.1;refine(nmc Z ⟨_,_,Z,Z,fz,_,_,Z,Z,fz,(nmc Z (nmc Z (lxo (d _ _ e) Z (icc Z Z (pos Ez) (lxo (d _ _ hk) ha ⟨_,_,Z,Z,fz,_,_,Z,Z,fz,(nmc Z (nmc Z (lxo (d _ _ hk) hb ⟨_,_,Z,Z,fz,?_⟩)))⟩)))))⟩);have D:OkW 45 (Aa "term " ++ x++Aa " of " ++ Y++Aa " due " ++ kb):=qeo (qap (qap (qap (qap (qap (a:=5) En (qgx hx)) (b:=4) En) (qgx oa)) (b:=5) En) (qgx ob)) Ez;generalize Aa "term " ++ x++Aa " of " ++ Y++Aa " due " ++ kb=S at D |-;have aa:S.length<=45:=D.1;apply useV2 (p:=λO N=>∃S':Str,O=some (.str S')/\OkW 61 S')
  .intro g;refine(Decidable.em (c0 % 3=1)).symm.elim (λc=>?_) (λc=>?_)
   .refine(nmc Z (lxo (d _ _ e) Z (icc Z Z (pos Ez) ⟨Z,(nmc Z (qal (λz=>c (V.int.inj z)) ?_))⟩)));refine(nmc Z (lxo (d _ _ e) Z (icc Z Z (pos Ez) (nmc Z (lxo (d _ _ e) Z (icc Z Z (pos Ez) (iic Z Z ⟨_,_,Z,?_⟩)))))));generalize (if 1+u % 5<u % 23 then 1+u % 5 else u % 23)=t;obtain⟨y,X,B⟩:=pk9 (xs:=f) (n:=6) ((o:Int)+t) (by lia) Ez;have C:=I.ok _ X;have c8:y.length<=8:=C.2.1;refine(nmc Z ⟨_,_,Z,Z,fz,(nmc Z (nmc Z (nmc Z (iic Z Z (icc Z Z (pos Ez) (lxo (d _ _ hk) B ⟨_,_,Z,Z,fz,?_⟩))))))⟩);have q:OkW 61 (S++Aa " from " ++ y):=qeo (qap (qap D (b:=6) En) (qgx C)) Ez;show qna _ [some (.ref pc),some (.str x),some (.ref pn),some (.ref pk),some (.int (m:Int)),some (.int (o:Int)),some (.str (S++Aa " from " ++ y)),some (.int t),none,none] H1;generalize S++Aa " from " ++ y=S2 at q |-;have v:∃S':Str,some (V.str S2)=some (.str S')/\OkW 61 S':=⟨S2,Z,q⟩;generalize some (V.str S2)=O at v |-;generalize some (V.int t)=N at v |-;exact g O N v
   .refine(nmc Z (lxo (d _ _ e) Z (icc Z Z (pos Ez) ⟨Z,(nmc Z (qcy (congrArg V.int c) ?_))⟩)));obtain⟨y,X,B⟩:=pk9 (xs:=names) (n:=m) u (by lia) (by lia);have C:=wn.ok _ X;have c8:y.length<=8:=C.2.1;refine(nmc Z ⟨_,_,Z,Z,fz,(nmc Z (nmc Z (lxo (d _ _ e) Z (nmc Z (iic Z Z ⟨(pos (by lia)),(lxo (d _ _ hn) B ⟨_,_,Z,Z,fz,?_⟩)⟩)))))⟩);exact g _ none ⟨_,Z,qeo (qap (qap D (b:=8) En) (qgx C)) Ez⟩
  rintro O N ⟨S2,rfl,q⟩;have S61:S2.length<=61:=q.1;clear D aa;obtain⟨b1,b2⟩:=om (u / 24) (m:=40) Ez;have hu:=qr7 b1 b2;refine(nmc Z (lxo (d _ _ e) Z (icc Z Z ⟨Ez,Ez⟩ (icc Z Z (pos Ez) (iic Z Z ⟨_,Z,qiv (by lia),?_⟩)))));apply qtg (p:=λ(J:Hp)(M:Option V)=>Same H1 J/\∃U:Str,M=some (.str U)/\OkW 2 U)
  .intro g;refine(Decidable.em (u / 960 % 20=7)).elim (λc=>?_) (λc=>?_)
   .refine(nmc Z (lxo (d _ _ e) Z (icc Z Z ⟨Ez,Ez⟩ (icc Z Z (pos Ez) ⟨Z,(nmc Z (qcy (congrArg V.int c) ⟨fits (show 3<=100000 by decide),λq2 n2=>?_⟩))⟩))));generalize r:upd H1 q2 _=H2;obtain⟨s2,e2⟩:=alg r n2;clear r;obtain⟨U,G,hU⟩:=odd3 (u / 24);refine(nmc Z (lxo (((d.trans s2) _ _ e)) Z (icc Z Z ⟨Ez,Ez⟩ (icc Z Z (pos Ez) (lxo (e2) hU ?_)))));have v:Same H1 H2/\∃U':Str,some (V.str U)=some (.str U')/\OkW 2 U':=⟨s2,U,Z,G⟩;show qna _ [some (.ref pc),some (.str x),some (.ref pn),some (.ref pk),some (.int (m:Int)),some (.int (o:Int)),some (.str S2),N,some (.str U),none] H2;generalize some (V.str U)=M at v |-;exact g H2 M v
   .refine(nmc Z (lxo (d _ _ e) Z (icc Z Z ⟨Ez,Ez⟩ (icc Z Z (pos Ez) ⟨Z,(nmc Z (qal (λz=>c (V.int.inj z)) ?_))⟩))));exact g H1 _ ⟨Same.refl H1,_,Z,hu⟩
  rintro J M ⟨sJ,U,rfl,G⟩;have U2:U.length<=2:=G.1;have R:=d.trans sJ;refine⟨fits (show 3<=100000 by decide),λq3 n3=>?_⟩;generalize r:upd J q3 _=H3;obtain⟨s3,e3⟩:=alg r n3;clear r;obtain⟨u1,u2⟩:=unit_at (L / 18);have F:=qk8 u2;generalize qo1 (L / 18)=W at u1 u2 F;have W5:W.length<=5:=F.2.2;refine(nmc Z (lxo (((R.trans s3) _ _ e)) Z (icc Z Z ⟨Ez,Ez⟩ (icc Z Z (pos Ez) (lxo (e3) u1 (nmc Z ⟨_,_,Z,Z,fz,(nmc Z ⟨_,_,Z,Z,fz,_,_,Z,Z,fz,(nmc Z ⟨_,_,Z,Z,fz,?_⟩)⟩)⟩))))));refine k _ H3 (R.trans s3) ?_;exact qeo (qap (qap (qap (qap q (b:=1) En) G) (b:=1) En) (b:=5) ⟨F.2.2,F.2.1 10 (.inr Z)⟩) Ez
theorem qyg (T:Txt K mg a):FnOk P w K mg base CX0 2 a.lQ a.pQ ["_law_script","_law_k","_law_names","_law_kinds"] (spRw49 K):=by
 refine T.bE.fn.ok qcn (λvs H Q E h=>?_) (λcdv A outer s H vs Q E hr h=>?_)
 .obtain⟨_,_,_,_,_,_,_,rfl,_⟩:=h
  all_goals rfl
 .obtain⟨l,pn,X,r,G,names,f,rfl,hS,k100,L,hk,wn,M,k⟩:=h;refine⟨_,(qe (qfg (i:=4) qcn.nd Z Z (N:=["_law_j","_law_script","_law_k"]) (js:=[none,some 0,some 1]) (XN:=["_law_script","_law_k","_law_names","_law_kinds","_law_cells","_law_way","_law_many","_law_mine","_law_name_here","_law_one","_law_units","_law_other","_law_odd"]) (xs:=qab qk5) Z Z Z En (qd7 Z T.kX (qb qg qf qj)) (λ_ _ _ _ _ _=>(qaj (i:=0) (show BY (["_law_j","_law_script","_law_k"]:List Str) from by decide +kernel) Z (Ay Z) (C8 Z))) (λ_ _ _ _ _ _=>qcf) (λ_ _ _ _ _ _=>(zf (qcs T) (hr.mono Ez) Z T.kG.mgx T.kG.fn.kp T.kG.bd .nil qam (qb (pv 1) (qb (zb qb2 (zb qb2 (zb qlf qg (pv 2)) qg) (pv 0)) qf zo) qc))))
   (qe (qz (i:=5) qcn.nd Z (Ay Z) (zb qau (zb qa7 (zr zu (pv 4) qg (λ_ _=>rfl)) qg) qg))
   (qe (qz (i:=6) qcn.nd Z (Ay Z) (zb qb2 qg (zb qau (zf (qcs T) (hr.mono Ez) Z T.kG.mgx T.kG.fn.kp T.kG.bd .nil qam (qb (pv 0) (qb qg qf qj) qc)) qg)))
   (qe (qz (i:=7) qcn.nd Z (Ay Z) (zb qau (zr zu (pv 4) qg (λ_ _=>rfl)) (pv 6)))
   (qe (ze (qu qav (zb qau (zb qa7 (zr zu (pv 4) qg (λ_ _=>rfl)) qg) qg) qg (qac _)) (qh (qz (i:=7) qcn.nd Z (Ay Z) (zb qau (zr zu (pv 4) qg (λ_ _=>rfl)) qg))) qad)
   (qe (qz (i:=8) qcn.nd Z (Ay Z) (zr zu (pv 2) (pv 7) (λ_ _=>rfl)))
   (qe (ze (PW.pt (qdq (qu qg4 (pv 1) (pv 6) (qac _)) (qdz (qu qg4 (pv 5) qg (qac _))))) (qh (qk (zf (qju T) (hr.mono Ez) Z T.gH.mgx T.gH.fn.kp T.gH.bd .nil qam (qb (pv 4) (qb (zr zu (pv 2) (pv 1) (λ_ _=>rfl)) (qb (pv 2) (qb (pv 3) (qb (pv 6) qf qc) qc) qc) zp) qc)))) qad)
   (qe (qz (i:=9) qcn.nd Z (Ay Z) (zr zu (pv 3) (zb qb2 qg (zb qau (pv 1) qg)) (λ_ _=>rfl)))
   (qe (ze (qu qav (zb qau (zr zu (pv 4) qg (λ_ _=>rfl)) qg) qg (qac _)) (qh (qz (i:=9) qcn.nd Z (Ay Z) (zr zu (pv 3) (zb qau (zb qa7 (zr zu (pv 4) qg (λ_ _=>rfl)) qg) qg) (λ_ _=>rfl)))) qad)
   (qe (ze (qu qg4 (pv 5) qg (qac _)) (qh (qk (zf (qju T) (hr.mono Ez) Z T.gH.mgx T.gH.fn.kp T.gH.bd .nil qam (qb (pv 4) (qb (zr zu (pv 2) (zb qau (zb qa7 (zr zu (pv 4) qg (λ_ _=>rfl)) qg) qg) (λ_ _=>rfl)) (qb (pv 2) (qb (pv 3) (qb (pv 6) qf qc) qc) qc) zp) qc)))) qad)
   (qe (ze (qu qg4 (pv 5) qg (qac _)) (qh (qk (zb qaa (zb qaa (zb qaa zi (pv 8)) zi) (pv 9)))) qad)
   (qe (ze (qu qg4 (pv 5) qg (qac _)) (qh (qk (zb qaa (zb qaa (zb qaa zi (pv 8)) zi) (pv 9)))) qad)
   (qe (ze (qu qg4 (pv 5) qg (qac _)) (qe (qz (i:=10) qcn.nd Z (Ay Z) (zb qaa (zb qaa zi (qax qb3 (by rfl) T.kP qcl (qb (zb qb2 qg (zb qau (zb qa7 (zr zu (pv 4) qg (λ_ _=>rfl)) qg) qg)) qf zo))) zi))
   (qh (qk (zb qaa (zb qaa (zb qaa (zb qaa (zb qaa zi (pv 8)) zi) (pv 9)) (pv 10)) (qax qb3 (by rfl) T.kP qcl (qb (zb qb2 qg (zb qa7 (zb qau (zb qa7 (zr zu (pv 4) qg (λ_ _=>rfl)) qg) qg) qg)) qf zo)))))) qad)
   (qe (ze (qu qg4 (pv 5) qg (qac _)) (qh (qk (zb qaa (zb qaa (zb qaa (zb qaa (zb qaa zi (pv 8)) zi) (pv 9)) zi) (zr zu (pv 3) (zb qb2 qg (zb qau (zb qa7 (zr zu (pv 4) qg (λ_ _=>rfl)) qg) qg)) (λ_ _=>rfl))))) qad)
   (qe (ze (qu qg4 (pv 5) qg (qac _)) (qe (qz (i:=11) qcn.nd Z (Ay Z) (zb qau (zb qb2 (zb qb2 (pv 7) qg) (zb qau (zb qa7 (zr zu (pv 4) qg (λ_ _=>rfl)) qg) (zg (qjx Z) (by rfl) T.fO qma (qb qg (qb (zb qjw (pv 6) qg) qf zo) qj)))) (pv 6)))
   (qe (ze (qu qav (zb qau (zr zu (pv 4) qg (λ_ _=>rfl)) qg) qg (qac _)) (qh (qz (i:=11) qcn.nd Z (Ay Z) (zb qau (zb qa7 (zr zu (pv 4) qg (λ_ _=>rfl)) qg) qg))) qad)
   (qh (qk (zb qaa (zb qaa (zb qaa zi (pv 8)) zi) (zr zu (pv 2) (pv 11) (λ_ _=>rfl))))))) qad)
   (qe (qz (i:=12) qcn.nd Z (Ay Z) (zj (qb zi (qb zi (qb (zb qaa (zb qaa (zb qaa zi (pv 8)) zi) (pv 9)) (qb (zb qaa (zb qaa (zb qaa zi (pv 8)) zi) (pv 9)) qf zo) zo) qj) qj)))
   (qh (qk (zr zu (zb qcv (pv 12) (zj (qb zi qf qj))) (zb qau (zr zu (pv 4) qg (λ_ _=>rfl)) qg) (λ_ _=>rfl)))))))))))))))))))),?_⟩
  obtain⟨l1,l2,l3,l4,l5,l6,l7,l8,l9,l10,l11,l12,l13⟩:=qr0;have wkl:=M.l;have wnl:=wn.l;refine⟨_,Z,Ez,Ez,?_⟩;refine qbi (λv=>match v with | .int j=>.int (cell G (3*(r:Int)+3+j))|_=>.non) (λσ'=>∃v,σ'=[v,some (.ref l),some (.int (r:Int))]) qkl (fits (by rw[Ac,C4];decide)) ⟨none,Z⟩ (λv σ' H' RR' hv sm Y q=>?_) qcx λJ n1=>?_
  .obtain⟨v0,rfl⟩:=Y;obtain⟨j,hj,rfl⟩:=AS.mp hv;have q:=q [some (.int (0+(j:Int))),some (.ref l),some (.int (r:Int))] ⟨_,Z⟩;exact(nmc Z (nmc Z (icc Z Z (mulL Ez Ez) (iic Z Z (nmc Z (iic Z Z ⟨_,_,_,Z,sm.seq hS,by lia,q⟩))))))
  obtain⟨c0,ec0⟩:∃c0,c0=cell G (3*(r:Int)+3):=⟨_,Z⟩;obtain⟨C,ec1⟩:∃C,C=cell G (3*(r:Int)+3+1):=⟨_,Z⟩;obtain⟨d,ec2⟩:∃d,d=cell G (3*(r:Int)+3+2):=⟨_,Z⟩;have ac:((B4 ((3:Int)).toNat).map λi=>V.int (0+(i:Nat))).map (λv=>match v with | .int j=>V.int (cell G (3*(r:Int)+3+j))|_=>.non)=[V.int c0,V.int C,V.int d]:=by rw[ec0,ec1,ec2];show [V.int _,V.int _,V.int _]=_;simp
  rw[ac];clear ac ec0 ec1 ec2;generalize B:upd H J _=H1;obtain⟨e,o⟩:=alg B n1;clear B;refine(nmc Z (lxo (o) Z (icc Z Z ⟨Ez,Ez⟩ (icc Z Z (pos Ez) ?_))));dsimp only[];generalize c0 / 3 % 60=w0;obtain⟨m',em,hm⟩:=md (cell G 0) 4 Ez;refine(nmc Z ⟨_,_,_,Z,e.seq hS,Ez,(icc Z Z (pos Ez) (iic Z Z ?_))⟩);dsimp only[];obtain⟨m,em',m1,m4⟩:∃m:Nat,1+cell G 0 % 4=(m:Int)/\1<=m/\m<=4:=⟨1+m',by rw[show (4:Int)=((4:Nat):Int) from Z,em];rfl,by lia,by lia⟩;rw[em'];clear em em' hm;obtain⟨n',en,af⟩:=md C m m1;refine(nmc Z (lxo (o) Z (nmc Z (iic Z Z ⟨(pos (by lia)),?_⟩))));dsimp only[];rw[en];have aa:n'<4:=by lia
  apply useV (p:=λS=>∃n:Nat,S=some (.int (n:Int))/\n<4)
  .intro g;refine(nmc Z (lxo (o) Z (icc Z Z ⟨Ez,Ez⟩ (icc Z Z (pos Ez) ⟨Z,(nmc Z (qba (λ_=>?_) (λ_=>?_)))⟩))))
   .obtain⟨u,e2,h2⟩:=md C 4 Ez;refine(nmc Z (lxo (o) Z (icc Z Z (pos Ez) ?_)));dsimp only[];rw[show C % 4=(u:Int) from e2];have F:∃n:Nat,some (V.int (u:Int))=some (.int (n:Int))/\n<4:=⟨u,Z,h2⟩;show qyl _ _ _ [some (.ref l),some (.int (r:Int)),some (.ref pn),some (.ref X),some (.ref J),some (.int w0),some (.int (m:Int)),some (.int (u:Int)),none,none,none,none,none] H1;generalize some (V.int (u:Int))=S at F |-;exact g S F
   .exact g _ ⟨n',Z,aa⟩
  rintro S ⟨n,rfl,hn4⟩;clear en af aa;obtain⟨x,mx,hx⟩:=pn9 (xs:=names) (j:=n) (by lia);have ox:=wn.ok _ mx;have x8:x.length<=8:=ox.2.1;refine(nmc Z (nmc Z (lxo (e _ _ L) hx ?_)));have I:=qgx ox;refine(Decidable.em (((r:Int)<(m:Int))/\w0<57)).elim (λc=>?_) (λc=>?_)
  .refine(nmc Z (nmc Z (iic Z Z (nmc Z (iteT' (decide_eq_true c.1) (nmc Z (iic Z Z (nmc Z (iteT' (decide_eq_true c.2) ?_)))))))));obtain⟨z,D,hz⟩:=pn9 (xs:=names) (j:=r) (by lia);exact(nmc Z (nmc Z (nmc Z (lxo (e _ _ L) hz (nmc Z (nmc Z (nmc Z ⟨J,pn,X,z,m,c0,C,d,names,f,Z,o,e _ _ L,e _ _ hk,wn,M,wn.ok _ D,m1,m4,λs H2 s2 o2=>k s H2 (e.trans s2) o2⟩)))))))
  obtain⟨y,my,hy⟩:∃z∈f,atI (f.map V.str) (6+(r:Int) % 14)=some (.str z):=by obtain⟨j,ej,hj⟩:=md (r:Int) 14 Ez;rw[show (14:Int)=((14:Nat):Int) from Z,ej,show (6:Int)+(j:Int)=((6+j:Nat):Int) from Z];exact pn9 (by lia)
  have oy:=M.ok _ my;have nt:¬(decide ((r:Int)<(m:Int))=true/\decide (w0<57)=true):=λz=>c ⟨of_decide_eq_true z.1,of_decide_eq_true z.2⟩;apply useP (p:=True)
  .intro g;refine(nmc Z (nmc Z (iic Z Z (nmc Z (qba (λC=>(nmc Z (iic Z Z (nmc Z (qba (λd=>absurd ⟨C,d⟩ nt) (λ_=>?_)))))) (λ_=>qa9 ?_))))))
   .exact g trivial
   .exact g trivial
  intro _;clear c nt;refine(nmc Z (nmc Z (icc Z Z (pos Ez) (iic Z Z (lxo (e _ _ hk) hy ?_)))));apply useV (p:=λv9=>∃y:Str,v9=some (.str y)/\qb1 y)
  .intro g;refine(nmc Z (lxo (o) Z (icc Z Z (pos Ez) ⟨Z,(nmc Z (qba (λ_=>?_) (λ_=>?_)))⟩)))
   .obtain⟨z,D,hz⟩:=pk9 (xs:=f) (n:=6) (d / 7) (by lia) Ez;refine(nmc Z (nmc Z (lxo (o) Z (icc Z Z ⟨Ez,Ez⟩ (icc Z Z (pos Ez) (lxo (e _ _ hk) hz ?_))))));have F:∃y:Str,some (V.str z)=some (.str y)/\qb1 y:=⟨z,Z,M.ok _ D⟩;show qna _ [some (.ref l),some (.int (r:Int)),some (.ref pn),some (.ref X),some (.ref J),some (.int w0),some (.int (m:Int)),some (.int (n:Int)),some (.str x),some (.str z),none,none,none] H1;generalize some (V.str z)=v9 at F |-;exact g v9 F
   .exact g _ ⟨y,Z,oy⟩
  rintro v9 ⟨O,rfl,ad⟩;clear hy oy my;have y8:O.length<=8:=ad.2.1;have R:=qgx ad;refine(nmc Z (iic Z Z (nmc Z (qba (λ_=>?_) (λ_=>?_)))))
  .obtain⟨z,D,hz⟩:=pk9 (xs:=names) (n:=4) (c0 / 60) (by lia) Ez;exact(nmc Z (nmc Z (nmc Z (lxo (o) Z (icc Z Z ⟨Ez,Ez⟩ (icc Z Z (pos Ez) (lxo (e _ _ L) hz (nmc Z (nmc Z (nmc Z ⟨J,pn,X,z,m,c0,C,d,names,f,Z,o,e _ _ L,e _ _ hk,wn,M,wn.ok _ D,m1,m4,λs H2 s2 o2=>k s H2 (e.trans s2) o2⟩))))))))))
  refine(nmc Z (iic Z Z (nmc Z (qba (λ_=>?_) (λ_=>?_)))))
  .exact(nmc Z ⟨_,_,Z,Z,fz,_,_,Z,Z,fz,(nmc Z ⟨_,_,Z,Z,fz,k _ H1 e (qeo (qap (qap (qap (a:=5) En I) (b:=1) En) R) Ez)⟩)⟩)
  refine(nmc Z (iic Z Z (nmc Z (qba (λ_=>?_) (λ_=>?_)))))
  .exact(nmc Z ⟨_,_,Z,Z,fz,_,_,Z,Z,fz,(nmc Z ⟨_,_,Z,Z,fz,k _ H1 e (qeo (qap (qap (qap (a:=5) En I) (b:=1) En) R) Ez)⟩)⟩)
  refine(nmc Z (iic Z Z (nmc Z (qba (λ_=>?_) (λ_=>?_)))))
  .obtain⟨b1,b2⟩:=om (d / 6) (m:=21) Ez;have g1:OkW 2 (nS (1+d / 6 % 21)):=qr7 b1 (by lia);have t1:1<=1+d / 126 % 16 / 5/\1+d / 126 % 16 / 5<=40:=by lia
   have g2:OkW 2 (nS (1+d / 126 % 16 / 5)):=qr7 t1.1 t1.2;refine(nmc Z (lxo (o) Z (icc Z Z ⟨Ez,Ez⟩ (icc Z Z (pos Ez) (iic Z Z ⟨_,Z,qiv (by lia),?_⟩)))));generalize 1+d / 6 % 21=ua at g1 b1 b2 |-;have g3:OkW 10 (Aa " " ++ nS ua++Aa " times "):=qeo (qap (qap (a:=1) En g1) (b:=7) En) Ez;have u2:(nS ua).length<=2:=g1.1;have u2':(Aa (toString ua)).length<=2:=g1.1;refine⟨_,_,Z,Z,fz,_,_,Z,Z,fz,?_⟩;show qf4 10 (V.str (Aa " " ++ nS ua++Aa " times ")) _ _ _;generalize Aa " " ++ nS ua++Aa " times "=W at g3 |-;have W10:W.length<=10:=g3.1;have g4:(Aa (toString (1+d / 126 % 16 / 5))).length<=2:=g2.1;refine(nmc Z ⟨_,_,Z,Z,fz,_,_,Z,Z,fz,(nmc Z ⟨_,_,Z,Z,fz,(nmc Z ⟨_,_,Z,Z,fz,(nmc Z (lxo (o) Z (icc Z Z ⟨Ez,Ez⟩ (icc Z Z (pos Ez) (icc Z Z ⟨Ez,Ez⟩ (iic Z Z ⟨_,Z,qiv (by lia),_,_,Z,Z,fz,?_⟩))))))⟩)⟩)⟩);exact k _ H1 e (qeo (qap (qap (qap (qap (qap (a:=7) En I) (b:=1) En) R) g3) g2) Ez)
  refine(nmc Z (iic Z Z (nmc Z (qba (λ_=>?_) (λ_=>?_)))))
  .obtain⟨z,D,hz⟩:∃z∈f,atI (f.map V.str) (20+d / 6 % 6)=some (.str z):=by
    obtain⟨j,ej,hj⟩:=md (d / 6) 6 Ez
    rw[show d / 6 % 6=(j:Int) from ej,show (20:Int)+(j:Int)=((20+j:Nat):Int) from Z]
    exact pn9 (by lia)
   have U:=M.ok _ D
   have z8:z.length<=8:=U.2.1
   exact(nmc Z ⟨_,_,Z,Z,fz,_,_,Z,Z,fz,(nmc Z ⟨_,_,Z,Z,fz,_,_,Z,Z,fz,(nmc Z (nmc Z (lxo (o) Z (icc Z Z ⟨Ez,Ez⟩ (icc Z Z (pos Ez) (iic Z Z (lxo (e _ _ hk) hz ⟨_,_,Z,Z,fz,k _ H1 e (qeo (qap (qap (qap (qap (qap (a:=6) En I) (b:=1) En) R) (b:=1) En) (qgx U)) Ez)⟩)))))))⟩)⟩)
  refine(nmc Z (iic Z Z (nmc Z (qba (λ_=>?_) (λ_=>?_)))))
  .have pm:0<(if (m:Int)-1 > 1 then (m:Int)-1 else 1):=by split <;>lia
   refine(nmc Z (iic Z Z (nmc Z (lxo (o) Z (icc Z Z ⟨Ez,Ez⟩ (nmc Z (iic Z Z ⟨_,_,Z,(iic Z Z ⟨(pos pm),(iic Z Z (nmc Z (iic Z Z ⟨(pos (by lia)),?_⟩)))⟩)⟩)))))));dsimp only[];obtain⟨t,et,ht⟩:=md ((n:Int)+1+d / 7 % (if (m:Int)-1 > 1 then (m:Int)-1 else 1)) m m1;rw[et];apply useV (p:=λv=>∃t:Nat,v=some (.int (t:Int))/\t<4)
   .intro g;refine(nmc Z (lxo (o) Z (icc Z Z (pos Ez) ⟨Z,(nmc Z (qba (λ_=>?_) (λ_=>?_)))⟩)))
    .obtain⟨u,e2,h2⟩:=md (d / 23) 4 Ez;refine(nmc Z (lxo (o) Z (icc Z Z ⟨Ez,Ez⟩ (icc Z Z (pos Ez) ?_))));dsimp only[];rw[show d / 23 % 4=(u:Int) from e2];have F:∃n:Nat,some (V.int (u:Int))=some (.int (n:Int))/\n<4:=⟨u,Z,h2⟩;show tRet _ _ [some (.ref l),some (.int (r:Int)),some (.ref pn),some (.ref X),some (.ref J),some (.int w0),some (.int (m:Int)),some (.int (n:Int)),some (.str x),some (.str O),none,some (.int (u:Int)),none] H1;generalize some (V.int (u:Int))=S at F |-;exact g S F
    .exact g _ ⟨t,Z,by lia⟩
   rintro v ⟨t,rfl,ht⟩;obtain⟨z,D,hz⟩:=pn9 (xs:=names) (j:=t) (by lia);have U:=wn.ok _ D;have z8:z.length<=8:=U.2.1;exact(nmc Z ⟨_,_,Z,Z,fz,_,_,Z,Z,fz,(nmc Z (nmc Z (lxo (e _ _ L) hz ⟨_,_,Z,Z,fz,k _ H1 e (qeo (qap (qap (qap (a:=7) En I) (b:=1) En) (qgx U)) Ez)⟩)))⟩)
  have le1:(Aa "Ends ").length<=5:=En;have le2:(Aa "ends  ").length<=6:=En;refine(nmc Z ⟨_,_,Z,Z,fz,_,_,Z,Z,fz,(nmc Z ⟨_,_,Z,Z,fz,(nmc Z ⟨_,_,Z,Z,fz,_,_,Z,Z,fz,(nmc Z ⟨_,_,Z,Z,fz,fits (show 4<=100000 by decide),λq3 n3=>?_⟩)⟩)⟩)⟩);have w3:OkW 100 (Aa "Ends " ++ x++Aa " " ++ O):=qeo (qap (qap (qap (a:=5) En I) (b:=1) En) R) Ez;have w4:OkW 100 (Aa "ends  " ++ x++Aa " " ++ O):=qeo (qap (qap (qap (a:=6) En I) (b:=1) En) R) Ez;generalize Aa "Ends " ++ x++Aa " " ++ O=W3 at w3 |-;generalize Aa "ends  " ++ x++Aa " " ++ O=W4 at w4 |-;generalize B:upd H1 q3 _=H3;obtain⟨s3,e3⟩:=alg B n3;clear B;refine(nmc Z ⟨fits (show 1<=100000 by decide),λq4 n4=>?_⟩);generalize B:upd H3 q4 _=H4;obtain⟨Y,e4⟩:=alg B n4;clear B;refine⟨_,_,_,_,Z,Z,Y _ _ e3,e4,fits (show 4+1<=100000 by decide),λq5 n5=>?_⟩;generalize B:upd H4 q5 _=H5;obtain⟨s5,e5⟩:=alg B n5;clear B;have ae:=e.trans (s3.trans (Y.trans s5));obtain⟨j,ej,hj⟩:=md d 5 Ez;have ag:∃s:Str,OkW 100 s/\atI [V.str (Aa ""),V.str (Aa "ends"),V.str W3,V.str W4,V.str (Aa "rule")] (d % 5)=some (.str s):=by
   rw[show (5:Int)=((5:Nat):Int) from Z,ej];rcases (by lia:j=0\/j=1\/j=2\/j=3\/j=4) with rfl|rfl|rfl|rfl|rfl
   .exact⟨_,En,Z⟩
   .exact⟨_,En,Z⟩
   .exact⟨_,w3,Z⟩
   .exact⟨_,w4,Z⟩
   .exact⟨_,En,Z⟩
  obtain⟨s,os,hs⟩:=ag;exact(nmc Z (lxo (((s3.trans (Y.trans s5)) _ _ o)) Z (icc Z Z (pos Ez) (lxo (e5) hs (k s H5 ae os)))))
theorem qmu (T:Txt K mg a):FnOk P w K mg base CX0 1 a.pW a.mG ["_law_rule"] spKin2:=by
 refine T.gG.fn.ok qgp (λvs H Q E h=>?_) (λcdv A outer s H vs Q E hr h=>?_)
 .obtain⟨_,_,rfl,_⟩:=h
  all_goals rfl
 .obtain⟨p,r,rfl,lr,l1,l2,l3,k⟩:=h;refine⟨_,(qe (qz (i:=1) qgp.nd Z (Ay Z) (zb qcv (zb qcv (zb qcv (zj (qb (zr zu (pv 0) qg (λ_ _=>rfl)) qf zp)) (zr zu (pv 0) qg (λ_ _=>rfl))) (zr zu (pv 0) qg (λ_ _=>rfl))) (qd1 (N:=["_law_row_here"]) (js:=[none]) (XN:=["_law_rule","_law_kinds"]) (xs:=qab qh7) Z Z Z En (qbn (zr zu (pv 0) qg (λ_ _=>rfl))) (λ_ _ _ _ _ _=>(qaj (i:=0) (show BY (["_law_row_here"]:List Str) from by decide +kernel) Z (Ay Z) (C8 Z))) (λ_ _ _ _ _ _=>qcf) (λ_ _ _ _ _ _=>(zr (qsv (K:=K) Z) (pv 0) qg (λ_ _=>rfl))))))
   (qe (ze (qu qct (zr zu (pv 0) qg (λ_ _=>rfl)) qas (qac _)) (qh (qz (i:=1) qgp.nd Z (Ay Z) (zb qcv (pv 1) (zj (qb (zr zu (pv 0) qg (λ_ _=>rfl)) qf zp))))) qad)
   (qe (ze (qu qct (zr zu (pv 0) qg (λ_ _=>rfl)) qas (qac _)) (qh (qz (i:=1) qgp.nd Z (Ay Z) (zb qcv (pv 1) (qax qe3 (by rfl) T.gA qdn (qb (zr zu (pv 0) qg (λ_ _=>rfl)) qf zp))))) qad)
   (qh (qk (pv 1)))))),?_⟩
  obtain⟨pe,pa,pl,py,v,us,F,he,ha,hl,tl,hs,hy⟩:=lr;have lu:us.length=r.longer.length:=by rw[tl.length,Ac]
  refine(nmc Z (lxo (F) Z ⟨fits (show 1<=100000 by decide),λq1 n1=>?_⟩));obtain⟨U,e1⟩:=alc (o:=.lst [V.str r.owes]) n1;generalize upd H q1 _=H1 at U e1 |-;refine(nmc Z (lxo (U _ _ F) Z ⟨_,_,_,_,Z,Z,e1,U _ _ he,fits (by rw[Ac];show 1+_<=_;lia),λq2 n2=>?_⟩));obtain⟨s2,e2⟩:=alc (o:=.lst ([V.str r.owes]++r.ends.map V.str)) n2;generalize upd H1 q2 _=H2 at s2 e2 |-;have M:=U.trans s2;refine(nmc Z (lxo (M _ _ F) Z ⟨_,_,_,_,Z,Z,e2,M _ _ ha,fits (by rw[Ag,Ac,Ac];show 1+_+_<=_;lia),λq3 n3=>?_⟩));obtain⟨s3,e3⟩:=alc (o:=.lst ([V.str r.owes]++r.ends.map V.str++r.anew.map V.str)) n3;generalize upd H2 q3 _=H3 at s3 e3 |-;have l:=M.trans s3;have aa:=tl.same l;refine(nmc Z (lxo (l _ _ F) Z ⟨_,Z,⟨_,SqL.of (l _ _ hl)⟩,?_⟩));let f:V->V:=λv=>match v with
   |.ref b=>match H3 b with
    |some (.tup [.str y,.int _,.int _])=>.str y
    |_=>.non
   |_=>.non
  refine qbi f (λσ'=>∃v,σ'=[v]) (qbz (K:=K) (SqL.of (l _ _ hl))) (fits (by lia)) ⟨none,Z⟩ (λv σ' H' RR' hv sm s4 q=>?_) qcx λp5 ac=>?_
  .obtain⟨v0,rfl⟩:=s4;obtain⟨j,hj⟩:=AL hv;obtain⟨b,t,rfl,u,S⟩:=aa.get' hj;rw[Ak]at u;cases G:r.longer[j]? with
   |none=>rw[G]at u;cases u
   |some rr =>
    rw[G]at u;cases u;have ef:f (.ref b)=.str rr.1:=by show (match H3 b with|some (.tup [.str y,.int _,.int _])=>V.str y|_=>.non)=_;rw[S];rfl
    have q:=q [some (.ref b)] ⟨_,Z⟩;rw[ef]at q;exact(nmc Z (txo (sm _ _ S) Z q))
  have em:us.map f=(r.longer.map (·.1)).map V.str:=by
   refine Bz λj=>?_;rw[Ak,Ak,Ak];cases G:r.longer[j]? with
   |none=>rw[Bh (by rw[lu];exact BF.mp G)];rfl
   |some rr =>obtain⟨b,u,S⟩:=aa.get (i:=j) (r:=qql rr) (by rw[Ak,G];rfl);rw[u];show some (match H3 b with|some (.tup [.str y,.int _,.int _])=>V.str y|_=>.non)=_;rw[S];rfl
  rw[em];obtain⟨s5,e5⟩:=alc (o:=.lst ((r.longer.map (·.1)).map V.str)) ac;generalize upd H3 p5 _=H5 at s5 e5 |-;refine⟨_,_,_,_,Z,Z,s5 _ _ e3,e5,fits (by simp only[Ag,Ac,Au,Bu];lia),λq n6=>?_⟩;have eb:([V.str r.owes]++r.ends.map V.str++r.anew.map V.str)++(r.longer.map (·.1)).map V.str=([r.owes]++r.ends++r.anew++r.longer.map (·.1)).map V.str:=by simp only[Av,A6,BC]
  rw[eb];generalize eB:[r.owes]++r.ends++r.anew++r.longer.map (·.1)=B;have lB:B.length<=4000:=by rw[<- eB];simp only[Ag,Ac,Au,Bu];lia
  have ek:qah r=B++r.opens.toList++stL r.still:=by unfold qah;rw[eB]
  have X:=l.trans s5;obtain⟨s6,e6⟩:=alc (o:=.lst (B.map V.str)) n6;generalize upd H5 q _=H6 at s6 e6 |-;have d:=X.trans s6;have nq:=X.free n6;have O:=d _ _ F;have hs6:=hs.same d;have ho:r.opens=none \/ ∃o,r.opens=some o:=by
   cases r.opens with|none=>exact .inl rfl|some o=>exact .inr ⟨o,Z⟩
  apply qtg (p:=λ(R:Hp)(v:Option V)=>∃(c:Addr)(g:List Str),v=some (.ref c)/\H c=none/\Same H R/\g.length<=4001/\R c=some (.lst (g.map V.str))/\qah r=g++stL r.still)
  .intro W;refine ho.symm.elim (λn=>?_) (λn=>?_)
   .obtain⟨o,n⟩:=n;have Y:qev r.opens=.str o:=by rw[n];rfl
    refine(nmc Z (lxo (O) Z ⟨Z,(nmc Z (qeu (λz=>by rw[Y]at z;cases z) ?_))⟩));refine(nmc Z (nmc Z (lxo (O) Z ⟨fits (show 1<=100000 by decide),λq8 n8=>?_⟩)));rw[Y];generalize e:upd H6 q8 _=H8;obtain⟨x,e8⟩:=alg e n8;clear e;refine⟨_,_,_,_,Z,Z,x _ _ e6,e8,fits (by rw[Ac];show _+1<=_;lia),λm I=>?_⟩;generalize e:upd H8 m _=H9;obtain⟨s9,e9⟩:=alg e I;clear e;have qq:∃(c:Addr)(g:List Str),some (V.ref m)=some (.ref c)/\H c=none/\Same H H9/\g.length<=4001/\H9 c=some (.lst (g.map V.str))/\qah r=g++stL r.still:=⟨m,B++[o],Z,(d.trans x).free I,(d.trans x).trans s9,by rw[Ag];show _+1<=_;lia,by rw[e9,Av];rfl,by rw[ek,n];rfl⟩;show qyl _ _ _ [some (.ref p),some (.ref m)] H9;generalize some (V.ref m)=v9 at qq |-;exact W H9 v9 qq
   .refine(nmc Z (lxo (O) Z ⟨Z,(nmc Z (qda (by rw[n];rfl) ?_))⟩));exact W H6 _ ⟨q,B,Z,nq,d,by lia,e6,by rw[ek,n];simp⟩
  .rintro R v ⟨c,g,rfl,ae,J,l7,e7,D⟩;have L:=J _ _ F;have C:=hs.same J;cases es:r.still with
   |none =>rw[es]at C D;cases C;refine(nmc Z (lxo (L) Z ⟨Z,(nmc Z (qda Z (nmc Z (k c R ae J (by rw[D,e7];simp[stL])))))⟩))
   |some sv =>rw[es]at C D;obtain⟨ps,rfl,ad⟩:=C;refine(nmc Z (lxo (L) Z ⟨Z,(nmc Z (qeu (λz=>nomatch z) ?_))⟩));refine(nmc Z (nmc Z (lxo (L) Z ⟨_,_,Z,.inr (SqT.of ad),λq8 n8=>?_⟩)));generalize e:upd R q8 _=H8;obtain⟨x,e8⟩:=alg e n8;clear e;refine⟨_,_,_,_,Z,Z,x _ _ e7,e8,fits (by rw[Ac];show _+2<=_;lia),λm I=>?_⟩;exact(nmc Z (k m _ ((J.trans x).free I) ((J.trans x).trans (zc I)) (by rw[qi,D,Av];rfl)))
theorem qgz (T:Txt K mg a):FnOk P w K mg base CX0 1 a.rF a.rN ["_law_rules","_law_name_here"] spOf9:=by
 refine T.kI.fn.ok qs6 (λvs H Q E h=>?_) (λcdv A outer s H vs Q E g h=>?_)
 .obtain⟨_,_,_,_,rfl,_⟩:=h
  all_goals rfl
 .obtain⟨d,x,rs,As,rfl,st,k,y⟩:=h;refine⟨_,(qe (qch Bp Z (qbn (pv 0)) (qaj (i:=2) qs6.nd Z (Ay Z)) (qh (ze (qu qav (zr zu (pv 2) qg (λ_ _=>rfl)) (pv 1) (qac _)) (qh (qk (pv 2))) qad)))
   (qh (qk qas))),?_⟩
  refine(nmc Z ⟨_,Z,⟨_,SqL.of st.hd⟩,qds (K:=K) (a:=d) (xs:=As.map λA=>V.ref A.p) (λi σ H'=>H'=H/\(∀j r,j<i->rs[j]?=some r->r.name≠x)/\∃o:Option V,σ=[some (.ref d),some (.str x),o]) ⟨Z,λj r m=>absurd m (CQ _),none,Z⟩ (λi σ H' _ h=>by rw[h.1];exact SqL.of st.hd) ?_ ?_⟩)
  .rintro i v σ H' l ⟨rfl,q,o,rfl⟩;rw[Ak]at l;cases b:As[i]? with
   |none=>rw[b]at l;cases l
   |some A =>
   rw[b]at l;cases l;have u:i<rs.length:=by rw[<- st.ln];exact(Ah.mp b).1
   have g:=Al u;generalize rs[i]=r at g;obtain⟨sv,us,n⟩:=st.ru i _ A g b;refine(nmc Z (lxo (n.hq) Z (nmc Z ⟨Z,(nmc Z (qba (λc=>?_) (λc=>?_)))⟩)))
   .have c:=V.str.inj (of_decide_eq_true c);exact(nmc Z (k i A (by rw[<- c];exact qef st.nn g) b))
   .refine⟨Z,λj r' m f=>?_,_,Z⟩;by_cases e:j=i
    .subst e;rw[g]at f;cases f;exact λz=>c (decide_eq_true (congrArg V.str z))
    .exact q j r' (by lia) f
  .rintro σ H' ⟨rfl,q,o,rfl⟩;refine y (qc7.mpr λz=>?_);obtain⟨r,n,t⟩:=AS.mp z;obtain⟨j,m⟩:=AL n;exact q j r (by rw[Ac,st.ln];exact(Ah.mp m).1) m t
theorem qve (T:Txt K mg a):FnOk P w K mg base CX0 2 a.lJ a.mY ["_law_words_here","_law_rules","_law_at"] spTe9:=by
 refine T.dQ.fn.ok qe9 (λvs H Q E h=>?_) (λcdv A outer s H vs Q E hr h=>?_)
 .obtain⟨_,_,_,_,_,_,_,_,_,_,_,_,_,rfl,_⟩:=h
  all_goals rfl
 .obtain⟨pw,d,i,ws,rs,As,x,w1,o,l,y,m,u,rfl,f,ak,st,l6,k,ke⟩:=h;refine⟨_,(qe (ze (qu qct (zf (qgz T) (hr.mono Ez) Z T.kI.mgx T.kI.fn.kp T.kI.bd .nil qam (qb (pv 1) (qb (zr zu (pv 0) qg (λ_ _=>rfl)) qf zp) qc)) qas (qac _)) (qh (qk (zm (qb zi (qb (zr zu (pv 0) qg (λ_ _=>rfl)) qf zp) qj)))) qad)
   (qe (qz (i:=3) qe9.nd Z (Ay Z) (zr zu (pv 0) qg (λ_ _=>rfl)))
   (qe (qz (i:=4) qe9.nd Z (Ay Z) qas)
   (qe (ze (qu qav (zr zu (pv 0) qg (λ_ _=>rfl)) zi (qac _)) (qe (qz (i:=3) qe9.nd Z (Ay Z) qas)
   (qh (qz (i:=4) qe9.nd Z (Ay Z) (zr zu (pv 0) qg (λ_ _=>rfl))))) qad)
   (qe (ze (PW.pt (qdb (qu qav (zg qa5 (by rfl) T.kH qa2 (qb (pv 1) qf qc)) qg (qac _)) (qdp (qu qav (zr zu (pv 0) qg (λ_ _=>rfl)) (pv 3) (qac _))))) (qh (qk (zm (qb zi (qb (pv 2) qf qc) qj)))) qad)
   (qe (qz (i:=5) qe9.nd Z (Ay Z) (zj (qb (zr zu (pv 0) qg (λ_ _=>rfl)) (qb (zr zu (pv 0) qg (λ_ _=>rfl)) (qb (zr zu (pv 0) qg (λ_ _=>rfl)) (qb (pv 3) (qb (pv 4) (qb (qax qh6 (by rfl) T.kZ qeb (qb (zr zu (pv 0) qg (λ_ _=>rfl)) qf zp)) (qb (zr zu (pv 0) qg (λ_ _=>rfl)) qf zp) zn) qc) qc) zp) zp) zp)))
   (qe (zd (qcd AJ AQ AR qbd (pv 1) (qb (zb qcv (pv 5) (zj (qb (zj qf) (qb (zj qf) (qb (zj qf) (qb qas (qb (zj qf) qf qf9) qj) qf9) qf9) qf9))) qf zo)))
   (qh (qk qas))))))))),?_⟩
  obtain⟨sm,ew,dm,em⟩:=qqu ak;subst ew;have ln:=st.ln;refine(nmc Z (nmc Z (lxo (f) Z ⟨d,x,rs,As,Z,st,λj A pj hA=>?_,λpn=>?_⟩)))
  .refine⟨Z,(nmc Z (qeu (λz=>nomatch z) (nmc Z (lxo (f) Z ⟨fits (show 2<=100000 by decide),λt I=>?_⟩))))⟩;exact ke (.twice x) (qht (by rw[pj];rfl)) t _ (zc I) qi
  refine⟨Z,(nmc Z (qda Z ?_))⟩;refine(nmc Z (lxo (f) Z ?_));apply useV2 (p:=λv3 Y=>∃q bs,v3=some (qev q)/\Y=some (qev bs)/\q=(if l=true then none else some y)/\bs=(if l=true then some y else none))
  .intro D;refine(Bool.eq_false_or_eq_true l).elim (λn=>?_) (λn=>?_)
   .refine(nmc Z (lxo (f) Z ⟨Z,(nmc Z (qcy (by rw[n];rfl) (nmc Z (lxo (f) Z ?_))))⟩));have pp:∃q bs,some V.non=some (qev q)/\some (V.str y)=some (qev bs)/\q=(if l=true then none else some y)/\bs=(if l=true then some y else none):=⟨none,some y,Z,Z,by rw[if_pos n],by rw[if_pos n]⟩;show qna _ [some (.ref pw),some (.ref d),some (.int (i:Int)),some .non,some (.str y),none] H;generalize some V.non=v3 at pp |-;generalize some (V.str y)=Y at pp |-;exact D v3 Y pp
   .refine(nmc Z (lxo (f) Z ⟨Z,(nmc Z (qal (by rw[n];decide +kernel) ?_))⟩));exact D _ _ ⟨some y,none,Z,Z,by rw[n];rfl,by rw[n];rfl⟩
  rintro v3 Y ⟨q,bs,rfl,rfl,S,ai⟩;have un:(rs.length=6\/(l=false/\o=y))->qu3 (.unfit i) H Q:=λc=>ke _ (qfp pn c);have la:(As.map λA=>V.ref A.p).length=rs.length:=by rw[Ac,ln]
  have sc:scal (V.str o) (qev q)=true:=by cases q <;>rfl
  have aq:V.str o=qev q->l=false/\o=y:=λz=>by
   rw[S]at z;cases l with|true=>cases z|false=>exact⟨Z,V.str.inj z⟩
  have am:l=false/\o=y->V.str o=qev q:=λz=>by rw[S,z.1,z.2];rfl
  apply useP (p:=¬(rs.length=6\/(l=false/\o=y)))
  .intro D;refine(nmc Z ⟨_,_,Z,.inl ⟨_,SqL.of st.hd,Z⟩,Z,(nmc Z (qba (λc=>qby ?_) (λc=>?_)))⟩)
   .have c:=V.int.inj (of_decide_eq_true c);rw[la]at c;exact(nmc Z ⟨fits (show 2<=100000 by decide),λt I=>un (.inl (by lia)) t _ (zc I) qi⟩)
   .refine(nmc Z (lxo (f) Z (nmc Z ⟨sc,(nmc Z (qba (λB=>?_) (λB=>?_)))⟩)))
    .have B:=of_decide_eq_true B;exact(nmc Z ⟨fits (show 2<=100000 by decide),λt I=>un (.inr (aq B)) t _ (zc I) qi⟩)
    .refine D λz=>?_;rcases z with z|⟨z1,z2⟩
     .exact c (decide_eq_true (by rw[la,z];rfl))
     .exact B (decide_eq_true (am ⟨z1,z2⟩))
  intro nc;have hk:=qex (w:=w1) (m:=m) (u:=u) (i:=i) pn nc;obtain⟨i1,i2⟩:=qo8 dm En;refine(nmc Z (lxo (f) Z (nmc Z (lxo (f) Z (nmc Z (lxo (f) Z (nmc Z (nmc Z (nmc Z (lxo (f) Z ⟨_,_,Z,i1,i2,(nmc Z (lxo (f) Z ⟨fits (show 7<=100000 by decide),λq1 n1=>?_⟩))⟩))))))))));rw[em];have free:=λz hz=>st.inn z hz;generalize b:upd H q1 _=H1;obtain⟨s1,e1⟩:=alg b n1;clear b;refine(nmc Z ⟨.inl ⟨Z,_,SqL.of (s1 _ _ st.hd)⟩,(nmc Z ⟨qem,λU n2=>?_⟩)⟩);generalize b:upd H1 U _=H2;obtain⟨s2,e2⟩:=alg b n2;clear b;refine⟨qem,λN n3=>?_⟩;generalize b:upd H2 N _=H3;obtain⟨s3,e3⟩:=alg b n3;clear b;refine⟨qem,λW n4=>?_⟩;generalize b:upd H3 W _=H4;obtain⟨C,e4⟩:=alg b n4;clear b;refine⟨qem,λM O=>?_⟩;generalize b:upd H4 M _=H5;obtain⟨v,e5⟩:=alg b O;clear b;refine⟨fits (show 5<=100000 by decide),λq6 n6=>?_⟩;generalize b:upd H5 q6 _=H6;obtain⟨r,e6⟩:=alg b n6;clear b;have aa:=s2.trans (s3.trans (C.trans (v.trans r)));refine⟨_,_,_,_,Z,Z,aa _ _ e1,e6,fits (show 7+5<=100000 by decide),λg G=>?_⟩;generalize b:upd H6 g _=H7;obtain⟨J,e7⟩:=alg b G;clear b;have ad:=s1.trans s2;have ae:=ad.trans s3;have ao:=ae.trans C;have af:=s1.trans aa;have ag:=af.trans J;have ac:=ag _ _ st.hd;refine⟨_,_,_,Z,Z,ac,qcz (by rw[la];lia),?_⟩;have f2:=s1.free n2;have f3:=ad.free n3;have f4:=ae.free n4;have f5:=ao.free O;have f7:=af.free G;have F:KeepT [d] H7 (upd H7 d (.lst ((As.map λA=>V.ref A.p)++[V.ref g]))):=KeepT.put (Ai.mpr Z) ac (λ_ z=>nomatch z);have k7:KeepT [d] H (upd H7 d (.lst ((As.map λA=>V.ref A.p)++[V.ref g]))):=(KeepT.of ag).trans F;have R:∀z,H z=none->z∉d::As.flatMap own:=λz hz hm=>free z hm hz;have X:=s3 _ _ e2;have g3:=C _ _ e3;have g4:=v _ _ e4;have t36:=C.trans (v.trans r);have ow:∀z∈own ⟨g,g,U,N,W,M⟩,H z=none:=λz hz=>by
   simp only[own,An,Aq,or_false]at hz;rcases hz with rfl|rfl|rfl|rfl|rfl
   .exact f7
   .exact f2
   .exact f3
   .exact f4
   .exact f5
  have lx:LX (upd H7 d (.lst ((As.map λA=>V.ref A.p)++[V.ref g]))) ⟨g,g,U,N,W,M⟩ (qhr x w1 o l y m u):=by
   have L:∀z,H z=none->z∉[d]:=λz hz hm=>R z hz (by rw[Ai.mp hm];exact Am);refine⟨.non,[],?_,?_,?_,?_,.nil,Z,?_⟩
   .rw[S,ai]at e7;exact F _ _ (.inl (L _ f7)) e7
   .exact F _ _ (.inl (L _ f2)) (J _ _ (r _ _ (v _ _ (C _ _ X))))
   .exact F _ _ (.inl (L _ f3)) (J _ _ (r _ _ (v _ _ g3)))
   .exact F _ _ (.inl (L _ f4)) (J _ _ (r _ _ g4))
   .exact F _ _ (.inl (L _ f5)) (J _ _ (r _ _ e5))
  have ah:(own (⟨g,g,U,N,W,M⟩:RA)).Nodup:=by have a1:=qg2 G (r _ _ (v _ _ (C _ _ X)));have a2:=qg2 G (r _ _ (v _ _ g3));have a3:=qg2 G (r _ _ g4);have a4:=qg2 G (r _ _ e5);have b1:=qg2 n3 e2;have b2:=qg2 n4 X;have b3:=qg2 O (C _ _ X);have c1:=qg2 n4 e3;have B:=qg2 O g3;have d1:=qg2 O e4;simp only[own,AM,An,Aq,or_false,not_or,not_false_eq_true,Dp,and_true];exact⟨⟨a1,a2,a3,a4⟩,⟨Ba b1,Ba b2,Ba b3⟩,⟨Ba c1,Ba B⟩,Ba d1⟩
  refine k _ hk _ (As++[⟨g,g,U,N,W,M⟩]) (k7.sub λz hz=>by rw[Ai.mp hz];exact Am) (λz hz=>?_) ?_
  .rw[Bc]at hz;rcases Az.mp hz with hz|hz
   .exact .inl hz
   .exact .inr (ow z (by simpa using hz))
  .exact st.snoc k7 qi lx pn ah λz hz=>⟨λe=>R z (ow z hz) (by rw[e];exact Am),λe=>R z (ow z hz) (Ar _ e)⟩
theorem qvf (T:Txt K mg a):FnOk P w K mg base CX0 2 a.pN a.lR ["_law_words_here","_law_rules","_law_at"] spRl9:=by
 refine T.bO.fn.ok qkd (λvs H Q E h=>?_) (λcdv A outer s H vs Q E o h=>?_)
 .obtain⟨_,_,_,_,_,_,_,rfl,_⟩:=h
  all_goals rfl
 .obtain⟨pw,d,i,ws,rs,As,g,rfl,O,ac,ht,st,bn,npw,k,ke⟩:=h;refine⟨_,(qe (qz (i:=3) qkd.nd Z (Ay Z) (zf (qgz T) (o.mono Ez) Z T.kI.mgx T.kI.fn.kp T.kI.bd .nil qam (qb (pv 1) (qb (zr zu (pv 0) qg (λ_ _=>rfl)) qf zp) qc)))
   (qe (ze (qu qfe (pv 3) qas (qac _)) (qh (qk (zm (qb zi (qb (zr zu (pv 0) qg (λ_ _=>rfl)) qf zp) qj)))) qad)
   (qe (ze (qu qav (zr zu (pv 0) qg (λ_ _=>rfl)) zi (qac _)) (qh (qk qas)) qad)
   (qe (qch Bp Z (qbn (qdd qft (pv 0) (qcu qg) (qcu (zb qjw qg (qax qjy (by rfl) T.kZ qeb (qb (qcb qie (zr zu (pv 0) qg (λ_ _=>rfl)) zi (qac _)) qf qlq)))))) (qaj (i:=4) qkd.nd Z (Ay Z)) (qh (ze (qu qdj (pv 4) (zf (qmu T) (o.mono Ez) Z T.gG.mgx T.gG.fn.kp T.gG.bd .nil qam (qb (pv 3) qf qc)) (by with_unfolding_all rfl)) (qh (qk (zm (qb zi (qb (pv 2) qf qc) qj)))) qad)))
   (qe (ze (qu qav (zr zu (pv 0) qg (λ_ _=>rfl)) zi (qac _)) (qe (ze (PW.pt (qdb (qu qct (zr zu (pv 3) qg (λ_ _=>rfl)) qas (qac _)) (qdp (qu qav (zr zu (pv 0) qg (λ_ _=>rfl)) (zr zu (pv 0) qg (λ_ _=>rfl)) (qac _))))) (qh (qk (zm (qb zi (qb (pv 2) qf qc) qj)))) qad)
   (qh (qvi (zm (qb (zr zu (pv 0) qg (λ_ _=>rfl)) (qb (zr zu (pv 0) qg (λ_ _=>rfl)) qf zp) zp)) (pg_sub (pv 3) qg qvp)))) (qh (ze (qu qav (zr zu (pv 0) qg (λ_ _=>rfl)) zi (qac _)) (qe (ze (qu qav (zg qa5 (by rfl) T.kH qa2 (qb (zr zu (pv 3) qg (λ_ _=>rfl)) qf zp)) qg (qac _)) (qh (qk (zm (qb zi (qb (pv 2) qf qc) qj)))) qad)
   (qh (zd (qcd AJ AQ AR qbd (zr zu (pv 3) qg (λ_ _=>rfl)) (qb (zm (qb (zr zu (pv 0) qg (λ_ _=>rfl)) (qb (qax qh6 (by rfl) T.kZ qeb (qb (zr zu (pv 0) qg (λ_ _=>rfl)) qf zp)) (qb (qax qh6 (by rfl) T.kZ qeb (qb (zr zu (pv 0) qg (λ_ _=>rfl)) qf zp)) qf zn) zn) zp)) qf zq))))) (qh (zd (qcd AJ AQ AR qbd (zr zu (pv 3) (zb qb2 qg (qax qjy (by rfl) T.kZ qeb (qb (qcb qav (zr zu (pv 0) qg (λ_ _=>rfl)) zi (qac _)) qf qlq))) (λ_ _=>rfl)) (qb (zr zu (pv 0) qg (λ_ _=>rfl)) qf zp)))))))
   (qh (qk qas))))))),?_⟩
  obtain⟨w0,a0,a1,ay,aa⟩:=role_ws ac ht;refine(nmc Z (nmc Z (lxo (O) a1 ⟨d,qaz g,rs,As,Z,st,λj A pj R=>?_,λpn=>?_⟩)))
  rotate_left
  .refine(nmc Z ⟨Z,(nmc Z (qcy Z (nmc Z (lxo (O) a1 ⟨fits (show 2<=100000 by decide),λt B=>?_⟩))))⟩);exact ke (.term (qaz g)) (qgb pn) t _ (zc B) qi
  obtain⟨r,o,hn⟩:=qa4 pj;obtain⟨bn1,bn2,bn3,bn4⟩:=bn r (At o);refine(nmc Z ⟨Z,(nmc Z (qal (λz=>nomatch z) ?_))⟩);refine(nmc Z (lxo (O) a0 ⟨Z,(nmc Z (qba (λc=>?_) (λc=>?_)))⟩))
  .obtain⟨x,y,rfl⟩:=ay.mp (V.str.inj (of_decide_eq_true c));refine k rs ?_ H (KeepT.of (Same.refl H)) st;rw[qey pj o Z];exact congrArg Except.ok (qx8 o)
  have ny:w0≠wS "yields" := λz=>c (decide_eq_true (congrArg V.str z));have N:qew r g=true->qu3 (.unfit i) H Q:=λu=>ke _ (qgc pj o u);refine(nmc Z ⟨_,Z,(nmc Z (lxo (O) a0 ⟨Z,.inr ⟨_,Z,(iic Z Z ⟨_,Z,_,_,Z,SqL.of O,λp3 n3=>?_⟩)⟩⟩))⟩);rw[aa ny];generalize F:upd H p3 _=H3;obtain⟨s3,e3⟩:=alg F n3;clear F;refine⟨_,Z,⟨_,SqL.of e3⟩,qds (K:=K) (a:=p3) (xs:=(kin g).map V.str) (λn σ J=>Same H3 J/\(∀m z,m<n->(kin g)[m]?=some z->z∉qah r)/\∃v4:Option V,σ=[some (.ref pw),some (.ref d),some (.int (i:Int)),some (.ref A.p),v4]) ⟨Same.refl H3,(λm z S=>absurd S (CQ _)),none,Z⟩ (λn σ J _ h=>SqL.of (h.1 _ _ e3)) ?_ ?_⟩
  .rintro n v σ J W ⟨U,Y,v4,rfl⟩;rw[Ak]at W;cases ez:(kin g)[n]? with
   |none=>rw[ez]at W;cases W
   |some z =>
   rw[ez]at W;cases W;have lx:=(st.ru j r A o R).same (s3.trans U);refine(nmc Z (nmc Z ⟨A.p,r,Z,lx.lr,by lia,by lia,by lia,λq4 H4 n4 s4 e4=>?_⟩));refine⟨_,_,Z,.inl (SqL.of e4),Z,qa1 _,(nmc Z ?_)⟩;show if inV (.str z) ((qah r).map V.str)=true then _ else _;rw[qbp];refine qba (λc=>?_) (λc=>?_)
   .exact(nmc Z ⟨fits (show 2<=100000 by decide),λt B=>N (unf_one (At ez) (AY.mp c)) t _ (s3.trans (U.trans (s4.trans (zc B)))) qi⟩)
   .refine⟨U.trans s4,λm z' S X=>?_,_,Z⟩;by_cases e:m=n
    .subst e;rw[ez]at X;cases X;exact λq=>c (AY.mpr q)
    .exact Y m z' (by lia) X
  rintro σ J ⟨U,Y,v4,rfl⟩;have l:=s3.trans U;have nk:∀z∈kin g,z∉qah r:=λz hz=>by obtain⟨m,S⟩:=AL hz;exact Y m z (by rw[Ac];exact(Ah.mp S).1) S
  have ue:=unf_kin nk;clear Y;have G:=st.same l;have b:=l _ _ O;have D:qoz r g=false->qhs rs i g=.ok (rs.set j (qcj r g)):=λu=>qey pj o (by rw[ue];exact u);have M:=qqu ac;obtain⟨sv,us,f⟩:=G.ru j r A o R;clear aa a0 a1 e3 n3;cases g with
  |term=>cases ht
  |yields x y=>exact absurd (ay.mpr ⟨x,y,Z⟩) ny
  |ends x kd =>
   cases M;refine(nmc Z (lxo (b) Z ⟨Z,(nmc Z (qal En ?_))⟩));refine(nmc Z (lxo (b) Z ⟨Z,(nmc Z (qal En ?_))⟩));have e7:atI (qm4 r A.pe A.pa A.pl sv A.py) (7+(if decide (V.str (wS "ends")=V.str (wS "anew"))=true then 1 else 0))=some (.ref A.pe):=by rw[decide_eq_false En];rfl
   refine(nmc Z (nmc Z (lxo (b) Z ⟨Z,.inr ⟨_,Z,(iic Z Z (lxo (f.hq) e7 ⟨.inl ⟨Z,_,SqL.of f.he⟩,(nmc Z (lxo (b) Z ⟨_,_,_,Z,Z,f.he,qcz (by rw[Ac];lia),?_⟩))⟩))⟩⟩)));obtain⟨L,I⟩:=G.ends o R kd;exact k _ (D Z) _ ((KeepT.of l).trans I) L
  |anew x kd =>
   cases M;refine(nmc Z (lxo (b) Z ⟨Z,(nmc Z (qal En ?_))⟩));refine(nmc Z (lxo (b) Z ⟨Z,(nmc Z (qal En ?_))⟩));have e7:atI (qm4 r A.pe A.pa A.pl sv A.py) (7+(if decide (V.str (wS "anew")=V.str (wS "anew"))=true then 1 else 0))=some (.ref A.pa):=by rw[decide_eq_true Z];rfl
   refine(nmc Z (nmc Z (lxo (b) Z ⟨Z,.inr ⟨_,Z,(iic Z Z (lxo (f.hq) e7 ⟨.inl ⟨Z,_,SqL.of f.ha⟩,(nmc Z (lxo (b) Z ⟨_,_,_,Z,Z,f.ha,qcz (by rw[Ac];lia),?_⟩))⟩))⟩⟩)));obtain⟨L,I⟩:=G.anew o R kd;exact k _ (D Z) _ ((KeepT.of l).trans I) L
  |longer x kd un tm =>
   obtain⟨su,sn,ew,d1,e1,d2,e2⟩:=M;subst ew;have lu:us.length=r.longer.length:=by rw[f.tl.length,Ac]
   refine(nmc Z (lxo (b) Z ⟨Z,(nmc Z (qal En ?_))⟩));refine(nmc Z (lxo (b) Z ⟨Z,(nmc Z (qcy Z ?_))⟩));refine(nmc Z (lxo (f.hq) Z ⟨_,_,Z,.inl ⟨_,SqL.of f.hl,Z⟩,Z,(nmc Z (qba (λc=>?_) (λc=>?_)))⟩))
   .have c:=V.int.inj (of_decide_eq_true c);exact(nmc Z ⟨fits (show 2<=100000 by decide),λt B=>N (by rw[ue];exact decide_eq_true (by lia)) t _ (l.trans (zc B)) qi⟩)
   obtain⟨i1,i2⟩:=qo8 d1 En;obtain⟨i3,i4⟩:=qo8 d2 En;refine(nmc Z (lxo (f.hq) Z ⟨.inl ⟨Z,_,SqL.of f.hl⟩,(nmc Z (lxo (b) Z (nmc Z (lxo (b) Z ⟨_,_,Z,i1,i2,(nmc Z (lxo (b) Z ⟨_,_,Z,i3,i4,qqj _ _ _,λt B=>?_⟩))⟩))))⟩));rw[e1,e2];generalize F:upd J t _=J2;obtain⟨C,et⟩:=alg F B;clear F;refine⟨_,_,_,Z,Z,C _ _ f.hl,qcz (by lia),?_⟩;obtain⟨L,I⟩:=(G.same C).longer o R (C _ _ f.hl) et;refine k _ (D (decide_eq_false λz=>c (decide_eq_true (by rw[lu,z];rfl)))) _ ((KeepT.of (l.trans C)).trans I) L
  |still x k1 k2 =>
   cases M;refine(nmc Z (lxo (b) Z ⟨Z,(nmc Z (qcy Z ?_))⟩));have hs:=f.hs;cases es:r.still with
   |some z =>rw[es]at hs;obtain⟨ps,rfl,_⟩:=hs;refine(nmc Z (lxo (f.hq) Z ⟨Z,(nmc Z (qeu (λz=>nomatch z) (qby (nmc Z ⟨fits (show 2<=100000 by decide),λt B=>?_⟩))))⟩));exact N (by rw[ue];unfold qoz;rw[es];rfl) t _ (l.trans (zc B)) qi
   |none =>
    rw[es]at hs;cases hs;refine(nmc Z (lxo (f.hq) Z ⟨Z,(nmc Z (qda Z (nmc Z (lxo (b) Z (nmc Z (lxo (b) Z ⟨Z,(nmc Z (qba (λc=>?_) (λc=>?_)))⟩))))))⟩))
    .have c:=V.str.inj (of_decide_eq_true c);exact(nmc Z ⟨fits (show 2<=100000 by decide),λt B=>N (by rw[ue];show (r.still.isSome || decide (k1=k2))=true;rw[decide_eq_true c,Bool.or_true]) t _ (l.trans (zc B)) qi⟩)
    refine(nmc Z (lxo (b) Z (nmc Z (lxo (b) Z ⟨fits (show 2<=100000 by decide),λt B=>?_⟩))));generalize F:upd J t _=J2;obtain⟨C,et⟩:=alg F B;clear F;refine(nmc Z ⟨_,_,_,10,Z,Z,C _ _ f.hq,Z,?_⟩);obtain⟨L,I⟩:=(G.same C).still o R (C _ _ f.hq) et;refine k _ (D ?_) _ ((KeepT.of (l.trans C)).trans I) L;show (r.still.isSome || decide (k1=k2))=false;rw[es,decide_eq_false (λz=>c (decide_eq_true (congrArg V.str z)))];rfl
theorem qvg (T:Txt K mg a):FnOk P w K mg base CX0 2 a.lU a.mQ ["_law_words_here","_law_rules","_law_at"] spTi9:=by
 refine T.dM.fn.ok qke (λvs H Q E h=>?_) (λcdv A outer s H vs Q E g h=>?_)
 .obtain⟨_,_,_,_,_,_,_,rfl,_⟩:=h
  all_goals rfl
 .obtain⟨pw,d,i,ws,rs,As,M,rfl,b,aa,st,bn,G,hb,k,R⟩:=h;refine⟨_,(qe (ze (PW.pt (qdq (qu qav (zr zu (pv 0) qg (λ_ _=>rfl)) zi (qac _)) (qdq (qu qav (zr zu (pv 0) qg (λ_ _=>rfl)) zi (qac _)) (qdz (qu qfe (zf (qgz T) (g.mono Ez) Z T.kI.mgx T.kI.fn.kp T.kI.bd .nil qam (qb (pv 1) (qb (zr zu (pv 0) qg (λ_ _=>rfl)) qf zp) qc)) qas (qac _)))))) (qh (qk (zm (qb zi (qb (zr zu (pv 0) qg (λ_ _=>rfl)) qf zp) qj)))) qad)
   (qe (ze (qu qav (zr zu (pv 0) qg (λ_ _=>rfl)) zi (qac _)) (qe (qz (i:=3) qke.nd Z (Ay Z) (zf (qgz T) (g.mono Ez) Z T.kI.mgx T.kI.fn.kp T.kI.bd .nil qam (qb (pv 1) (qb (zr zu (pv 0) qg (λ_ _=>rfl)) qf zp) qc)))
   (qe (qz (i:=4) qke.nd Z (Ay Z) (zf (qgz T) (g.mono Ez) Z T.kI.mgx T.kI.fn.kp T.kI.bd .nil qam (qb (pv 1) (qb (zr zu (pv 0) qg (λ_ _=>rfl)) qf zp) qc)))
   (qe (ze (qu qfe (pv 4) qas (qac _)) (qh (qk (zm (qb zi (qb (zr zu (pv 0) qg (λ_ _=>rfl)) qf zp) qj)))) qad)
   (qe (ze (PW.pt (qdb (qu qav (zr zu (pv 4) qg (λ_ _=>rfl)) (zr zu (pv 3) qg (λ_ _=>rfl)) (qac _)) (qdb (qu qie (zr zu (pv 4) qg (λ_ _=>rfl)) (zr zu (pv 3) qg (λ_ _=>rfl)) (qac _)) (qdp (qu qdj (zr zu (pv 4) qg (λ_ _=>rfl)) (zr zu (pv 3) qg (λ_ _=>rfl)) (by with_unfolding_all rfl)))))) (qh (qk (zm (qb zi (qb (pv 2) qf qc) qj)))) qad)
   (qh (zd (qcd AJ AQ AR qbd (zr zu (pv 3) qg (λ_ _=>rfl)) (qb (zr zu (pv 4) qg (λ_ _=>rfl)) qf zp)))))))) qad)
   (qh (qk qas)))),?_⟩
  have l:=qqu aa;have f:qb0 rs i M=.ok rs->Q .non H:=λe=>k rs e H (KeepT.of (Same.refl H)) st;cases M with
  |ends x kd =>cases l;exact(nmc Z (lxo (b) Z ⟨Z,(nmc Z (qal En (qa9 (nmc Z (lxo (b) Z ⟨Z,(nmc Z (qal En (f Z)))⟩)))))⟩))
  |anew x kd =>cases l;exact(nmc Z (lxo (b) Z ⟨Z,(nmc Z (qal En (qa9 (nmc Z (lxo (b) Z ⟨Z,(nmc Z (qal En (f Z)))⟩)))))⟩))
  |longer x kd un tm =>obtain⟨su,sn,O,_⟩:=l;subst O;exact(nmc Z (lxo (b) Z ⟨Z,(nmc Z (qal En (qa9 (nmc Z (lxo (b) Z ⟨Z,(nmc Z (qal En (f Z)))⟩)))))⟩))
  |still x k1 k2 =>cases l;exact(nmc Z (lxo (b) Z ⟨Z,(nmc Z (qal En (qa9 (nmc Z (lxo (b) Z ⟨Z,(nmc Z (qal En (f Z)))⟩)))))⟩))
  |term x w1 o dd y m u =>
   obtain⟨sm,O,_,_⟩:=l;subst O;obtain⟨j,r,L,g,U⟩:=hb _ _ _ _ _ _ _ rfl;have J:=qgd (i:=i) (w:=w1) (o:=o) (d:=dd) (y:=y) (m:=m) (u:=u) L g;rw[U]at J;cases dd with
   |false=>exact(nmc Z (lxo (b) Z ⟨Z,(nmc Z (qcy Z (nmc Z (lxo (b) Z ⟨Z,(nmc Z (qal En (qa9 (nmc Z (lxo (b) Z ⟨Z,(nmc Z (qal En (f J)))⟩)))))⟩))))⟩))
   |true =>
    refine(nmc Z (lxo (b) Z ⟨Z,(nmc Z (qcy Z (nmc Z (lxo (b) Z ⟨Z,(nmc Z (qcy Z (nmc Z (nmc Z (lxo (b) Z ⟨d,y,rs,As,Z,st,λS A2 F v=>?_,λpn=>?_⟩)))))⟩))))⟩))
    .refine⟨Z,(nmc Z (qal (λz=>nomatch z) (nmc Z (lxo (b) Z ⟨Z,(nmc Z (qal En (f ?_)))⟩))))⟩;rw[J];show (if (qan rs y).isSome=true then _ else _)=_;rw[F];rfl
    .refine⟨Z,(nmc Z (qcy Z (nmc Z (lxo (b) Z ⟨fits (show 2<=100000 by decide),λt n=>?_⟩))))⟩;refine R (.term y) ?_ t _ (zc n) qi;rw[J];show (if (qan rs y).isSome=true then _ else _)=_;rw[pn];rfl
  |yields x y =>
   cases l;refine(nmc Z (lxo (b) Z ⟨Z,(nmc Z (qal En (qa9 (nmc Z (lxo (b) Z ⟨Z,(nmc Z (qcy Z ?_))⟩)))))⟩));have G:(qan rs x).isSome=true:=G;refine(nmc Z (nmc Z (lxo (b) Z ⟨d,x,rs,As,Z,st,λj A L Y=>?_,λpn=>by rw[pn]at G;cases G⟩)));have N:qb0 rs i (.yields x y)=qd3 rs i j y:=qhu L;refine(nmc Z (nmc Z (lxo (b) Z ⟨d,y,rs,As,Z,st,λS B F hB=>?_,λpn=>?_⟩)))
   rotate_left
   .exact(nmc Z ⟨Z,(nmc Z (qcy Z (nmc Z (lxo (b) Z ⟨fits (show 2<=100000 by decide),λt n=>R (.term y) (N.trans (qgt pn)) t _ (zc n) qi⟩))))⟩)
   obtain⟨r,g,hn⟩:=qa4 L;obtain⟨I,C,q⟩:=qa4 F;obtain⟨sv,us,p⟩:=st.ru j r A g Y;obtain⟨sv2,us2,v⟩:=st.ru S I B C hB;refine(nmc Z ⟨Z,(nmc Z (qal (λz=>nomatch z) ?_))⟩);have D:(y=r.name\/y∈r.yields\/I.owes≠r.owes)->qu3 (.unfit i) H Q:=λc=>R _ (N.trans (qen F g C c));refine(nmc Z (lxo (v.hq) Z (nmc Z (lxo (p.hq) Z ⟨Z,(nmc Z (qba (λc=>qby ?_) (λc1=>(nmc Z (lxo (v.hq) Z (nmc Z (lxo (p.hq) Z ⟨Z,(nmc Z (qba (λc=>qby ?_) (λc2=>?_)))⟩)))))))⟩))))
   .have c:=V.str.inj (of_decide_eq_true c);exact(nmc Z ⟨fits (show 2<=100000 by decide),λt n=>D (.inl (by rw[<- q,c])) t _ (zc n) qi⟩)
   .exact(nmc Z ⟨fits (show 2<=100000 by decide),λt n=>D (.inr (.inr (nd_t c))) t _ (zc n) qi⟩)
   .refine(nmc Z (lxo (v.hq) Z (nmc Z (lxo (p.hq) Z ⟨_,_,Z,.inl (SqL.of p.hy),Z,qa1 _,(nmc Z ?_)⟩))));show if inV (.str I.name) (r.yields.map V.str)=true then _ else _;rw[qbp];refine qba (λc=>?_) (λc3=>?_)
    .exact(nmc Z ⟨fits (show 2<=100000 by decide),λt n=>D (.inr (.inl (by rw[<- q];exact AY.mp c))) t _ (zc n) qi⟩)
    obtain⟨bn1,bn2,bn3,bn4⟩:=bn r (At g);refine(nmc Z (lxo (p.hq) Z ⟨.inl ⟨Z,_,SqL.of p.hy⟩,(nmc Z (lxo (v.hq) Z ⟨_,_,_,Z,Z,p.hy,qcz (by rw[Ac];lia),?_⟩))⟩));obtain⟨W,X⟩:=st.yields g Y I.name;rw[q]at W X c3 |-;refine k _ (N.trans (qfq F g C ?_)) _ X W;rintro (z|z|z)
    .exact c1 (decide_eq_true (by rw[q,z]))
    .exact c3 (AY.mpr z)
    .exact z (nd_f c2)
theorem qyh (T:Txt K mg a):FnOk P w K mg base CX0 3 a.lC a.lK ["_law_rows_here","_law_rules"] spDu9:=by
 refine T.bF.fn.ok qec (λvs H Q E h=>?_) (λcdv A outer s H vs Q E F h=>?_)
 .obtain⟨_,_,_,rfl,_⟩:=h
  all_goals rfl
 .obtain⟨M,d,f,rfl,hp,hd,nd,l40,lo,k,ke⟩:=h;refine⟨_,(qe (qz (i:=2) qec.nd Z (Ay Z) qas)
   (qe (qch Bp Z (qd7 Z T.kX (qb (zg qa5 (by rfl) T.kH qa2 (qb (pv 0) qf qc)) qf zn)) (qaj (i:=3) qec.nd Z (Ay Z)) (qe (qz (i:=4) qec.nd Z (Ay Z) (qcd B6 Dy Dz qi5 (zr zu (pv 0) (pv 3) (λ_ _=>rfl)) (qb zi qf qj)))
   (qh (ze (PW.pt (qdq (qu qfe (pv 2) qas (qac _)) (qdz (qe0 (zh (zf (qvd T) (F.mono Ez) Z T.bJ.mgx T.bJ.fn.kp T.bJ.bd .nil qam (qb (pv 4) qf qc))))))) (qh (qz (i:=2) qec.nd Z (Ay Z) (zm (qb zi (qb (pv 3) qf qc) qj)))) (qh (ze (PW.pt (qdq (qu qfe (pv 2) qas (qac _)) (qdz (qu qav (zr zu (pv 4) qg (λ_ _=>rfl)) zi (qac _))))) (qh (qz (i:=2) qec.nd Z (Ay Z) (zf (qve T) (F.mono Ez) Z T.dQ.mgx T.dQ.fn.kp T.dQ.bd .nil qam (qb (pv 4) (qb (pv 1) (qb (pv 3) qf qc) qc) qc)))) (qh (ze (qu qfe (pv 2) qas (qac _)) (qh (qz (i:=2) qec.nd Z (Ay Z) (zf (qvf T) (F.mono Ez) Z T.bO.mgx T.bO.fn.kp T.bO.bd .nil qam (qb (pv 4) (qb (pv 1) (qb (pv 3) qf qc) qc) qc)))) qad))))))))
   (qe (qch Bp Z (qd7 Z T.kX (qb (zg qa5 (by rfl) T.kH qa2 (qb (pv 0) qf qc)) qf zn)) (qaj (i:=3) qec.nd Z (Ay Z)) (qh (ze (qu qfe (pv 2) qas (qac _)) (qh (qz (i:=2) qec.nd Z (Ay Z) (zf (qvg T) (F.mono Ez) Z T.dM.mgx T.dM.fn.kp T.dM.bd .nil qam (qb (qcd B6 Dy Dz qi5 (zr zu (pv 0) (pv 3) (λ_ _=>rfl)) (qb zi qf qj)) (qb (pv 1) (qb (pv 3) qf qc) qc) zn)))) qad)))
   (qh (qk (pv 2)))))),?_⟩
  have lm:(f.map V.str).length=f.length:=Ac _;have ao:(qd6 f).length=f.length:=by unfold qd6;rw[Ac]
  have ac:=rb (n:=f.length) (by lia);refine(nmc Z ⟨_,_,Z,.inl ⟨_,SqL.of hp,Z⟩,_,Z,(by rw[lm];exact ac.1),(by rw[lm];exact ac.2),qej (lo:=0) (n:=((f.map V.str).length:Int).toNat) (λi σ J=>J M=some (.lst (f.map V.str))/\∃(C:V)(Y X:Option V),σ=[some (.ref M),some (.ref d),some C,Y,X]/\((C=.non/\∃S As,Go1 f M d i J S As)\/Fnd9 f C J)) ⟨hp,.non,none,none,Z,.inl ⟨Z,[],[],⟨Z,⟨hd,Z,(by simp),(by simp),(λi r A h=>by cases h)⟩,(by simp[nd]),Ez,λr F=>nomatch F⟩⟩⟩ ?_ ?_⟩)
  .rintro i σ J O ⟨v,C,Y,X,rfl,L⟩;have O:i<f.length:=by rw[Cv,lm]at O;exact O
   rw[DH];obtain⟨l,el⟩:∃l,f[i]?=some l:=⟨_,Al O⟩;have ol:l.length<=200:=(lo l (At el)).1;have al:atI (f.map V.str) (i:Int)=some (.str l):=qbh (by rw[Ak,el];rfl);have I:(qd6 f)[i]?=some (opR l):=by unfold qd6;rw[Ak,el];rfl
   obtain⟨N,W⟩:=qj1 l 32;rw[<- qkm]at N W;have eb:=qfv l 32;rw[<- qkm]at eb;refine(nmc Z (nmc Z (lxo (v) al ⟨Z,_,_,Z,Z,Z,fits (A3 ol Ez),fits (A3 N (by lia)),fits (A3 eb (by lia)),λp aa=>?_⟩)));have ew:opR l=qc5 (BU l (wS " ")):=rfl;have ak:BU l (wS " ")≠[]:=qi8 _ _;generalize BU l (wS " ")=ws at ak N W ew |-;generalize hh:upd J p _=J1;obtain⟨s1,e1⟩:=alg hh aa;clear hh;have af:=s1 _ _ v;rcases L with ⟨rfl,S,As,g⟩|fd
   .have ra:=(qfy g.rd I).1;have ad:i≠40:=by lia
    have aw:p∉d::As.flatMap own:=λz=>g.st.inn p z aa;have np2:p≠M:=qg2 aa v;have ae:=g.st.same s1;refine(nmc Z ⟨Z,(nmc Z (qcy Z (nmc Z ⟨p,ws,Z,e1,ak,(by lia),(λx hx=>A3 (W x hx) (by lia)),λJ2 s2=>?_⟩)))⟩);have am:=s1.trans s2;have G:=am _ _ v;have e2:=s2 _ _ e1;have ag:=g.st.same am;cases D:opR l with
    |none =>rw[<- ew,D];rw[D]at ra;refine(nmc Z (qby (nmc Z ⟨fits (show 2<=100000 by decide),λt nt=>?_⟩)));exact⟨zc nt _ _ G,_,_,_,Z,.inr ⟨_,t,Z,qya (ra.trans (qmj ad _)),qi⟩⟩
    |some row =>
     rw[<- ew,D];rw[D]at ra I;rw[D]at ew;have B:qc5 ws=some row:=ew.symm;refine(nmc Z (qa9 ?_));have g2:Go1 f M d i J2 S As:=⟨g.rd,ag,g.np,g.l6,g.bn⟩;have ah:∀e,qbt S i row=.error e->qdo f=.error e:=λe h=>qya (ra.trans (qmi ad h _));obtain⟨w0,a0,t0⟩:∃w0:Str,atI (ws.map V.str) 0=some (.str w0)/\(w0=wS "term" ↔ isT row=true):=by
      have:=qqu B;cases row with
      |term x w o dd y m u=>obtain⟨_,e,_⟩:=this;subst e;exact⟨_,Z,λ_=>rfl,λ_=>rfl⟩
      |ends x k=>cases this;exact⟨_,Z,λz=>absurd z En,λz=>nomatch z⟩
      |anew x k=>cases this;exact⟨_,Z,λz=>absurd z En,λz=>nomatch z⟩
      |longer x k u t=>obtain⟨_,_,e,_⟩:=this;subst e;exact⟨_,Z,λz=>absurd z En,λz=>nomatch z⟩
      |still x k l=>cases this;exact⟨_,Z,λz=>absurd z En,λz=>nomatch z⟩
      |yields x y=>cases this;exact⟨_,Z,λz=>absurd z En,λz=>nomatch z⟩
     refine(Bool.eq_false_or_eq_true (isT row)).elim (λht=>?_) (λht=>?_)
     .refine(nmc Z ⟨Z,(nmc Z (qcy Z (nmc Z (lxo (e2) a0 ⟨Z,(nmc Z (qcy (congrArg V.str (t0.mpr ht)) ?_))⟩))))⟩);cases row with
      |term x w1 o dd y m u =>
       refine(nmc Z (nmc Z (nmc Z ⟨p,d,i,ws,S,As,x,w1,o,dd,y,m,u,Z,e2,B,ag,g.l6,λU e H' ar kt fr R=>?_,λe h t H' s' h'=>?_⟩)))
       .exact⟨kt _ _ (.inl g.np) G,_,_,_,Z,.inl ⟨Z,U,ar,g2.next I ad G e fr R⟩⟩
       .exact⟨s' _ _ G,_,_,_,Z,.inr ⟨e,t,Z,ah e h,h'⟩⟩
      |_=>cases ht
     .have au:¬V.str w0=V.str (Aa "term"):=λz=>by rw[t0.mp (V.str.inj z)]at ht;cases ht
      refine(nmc Z ⟨Z,(nmc Z (qcy Z (nmc Z (lxo (e2) a0 ⟨Z,(nmc Z (qal au (nmc Z ⟨Z,(nmc Z (qcy Z ?_))⟩)))⟩))))⟩);have aq:Bn 100 S:=λr F=>by obtain⟨b1,b2,b3,b4⟩:=g.bn r F;exact⟨by lia,by lia,by lia,by lia⟩
      refine(nmc Z (nmc Z (nmc Z ⟨p,d,i,ws,S,As,row,Z,e2,B,ht,ag,aq,aw,λU e H' kt R=>?_,λe h t H' s' h'=>?_⟩)))
      .exact⟨kt _ _ (.inl g.np) G,_,_,_,Z,.inl ⟨Z,U,As,g2.next I ad G ((qd8 ht).trans e) (λz hz=>.inl hz) R⟩⟩
      .exact⟨s' _ _ G,_,_,_,Z,.inr ⟨e,t,Z,ah e ((qd8 ht).trans h),h'⟩⟩
   .obtain⟨e,t,rfl,h2,h3⟩:=id fd;refine(nmc Z ⟨Z,(nmc Z (qal (λz=>nomatch z) (qa9 (nmc Z ⟨Z,(nmc Z (qal (λz=>nomatch z) (qa9 (nmc Z ⟨Z,(nmc Z (qal (λz=>nomatch z) ?_))⟩))))⟩))))⟩);exact⟨af,_,_,_,Z,.inr (fd.same s1)⟩
  rintro σ J ⟨v,C,Y,X,rfl,L⟩;have tn:((f.map V.str).length:Int).toNat=f.length:=by rw[Cv,lm]
  rw[tn]at L;obtain⟨S,q,hrs⟩:∃(S:List RR)(q:List Rw7),(C=.non/\qd6 f=q.map some/\qai [] 0 (q.map some)=.ok S/\∃As,Go2 M d S q 0 J S As)\/Fnd9 f C J:=by
   rcases L with ⟨e,S,As,g⟩|fd
   .have rd:=g.rd;rw[B5 (by lia)]at rd;have e2:=qo7 rd;rw[e2]at rd;exact⟨S,_,.inl ⟨e,e2,rd,As,Z,g.st,g.np,(λr F=>by obtain⟨b1,b2,b3,b4⟩:=g.bn r F;exact⟨by lia,by lia,by lia,by lia⟩),Z,Z⟩⟩
   .exact⟨[],[],.inr fd⟩
  clear L;have ai:qd6 f=q.map some->qai [] 0 (q.map some)=.ok S->qdo f=qar S 0 q:=λa b=>by unfold qdo;rw[a,b];dsimp only;rw[qo0]
  refine(nmc Z ⟨_,_,Z,.inl ⟨_,SqL.of v,Z⟩,_,Z,(by rw[lm];exact ac.1),(by rw[lm];exact ac.2),qej (lo:=0) (n:=((f.map V.str).length:Int).toNat) (λi σ J=>J M=some (.lst (f.map V.str))/\∃(C:V)(Y X:Option V),σ=[some (.ref M),some (.ref d),some C,Y,X]/\((C=.non/\qd6 f=q.map some/\qai [] 0 (q.map some)=.ok S/\∃rs As,Go2 M d S q i J rs As)\/Fnd9 f C J)) ⟨v,C,Y,X,Z,hrs.imp (λ⟨a,b,c,As,e⟩=>⟨a,b,c,S,As,e⟩) id⟩ ?_ ?_⟩)
  .rintro i σ J O ⟨v,C,Y,X,rfl,L⟩;have O:i<f.length:=by rw[tn]at O;exact O
   rw[DH];rcases L with ⟨rfl,D,rd,rs,As,g⟩|fd
   .obtain⟨l,el⟩:∃l,f[i]?=some l:=⟨_,Al O⟩;have ol:l.length<=200:=(lo l (At el)).1;have al:atI (f.map V.str) (i:Int)=some (.str l):=qbh (by rw[Ak,el];rfl);have I:(qd6 f)[i]?=some (opR l):=by unfold qd6;rw[Ak,el];rfl
    obtain⟨N,W⟩:=qj1 l 32;rw[<- qkm]at N W;have eb:=qfv l 32;rw[<- qkm]at eb;obtain⟨row,B⟩:∃row,q[i]?=some row:=⟨_,Al (by rw[D,Ac]at ao;lia)⟩;have ew:qc5 (BU l (wS " "))=some row:=by rw[D,Ak,B]at I;exact(A9 I).symm
    refine(nmc Z ⟨Z,(nmc Z (qcy Z (nmc Z (nmc Z (lxo (v) al ⟨Z,_,_,Z,Z,Z,fits (A3 ol Ez),fits (A3 N (by lia)),fits (A3 eb (by lia)),λp aa=>?_⟩)))))⟩);generalize BU l (wS " ")=ws at ew |-;generalize hh:upd J p _=J1;obtain⟨s1,e1⟩:=alg hh aa;clear hh;have af:=s1 _ _ v;have ae:=g.st.same s1;have g1:Go2 M d S q i J1 rs As:=⟨g.se,ae,g.np,g.bn,g.sd⟩;have hm:=At B;have jn:=qr3 qxu rd;have bs:=(qx9 (P:=[]) (λ_ _ _ _ _ _ _ h=>nomatch h) rd).did g.sd;rw[Bi]at jn bs;have sa:=(qfr g.se B).1;have ax:(qan rs (qaz row)).isSome=true:=by
     have:=jn.hs row hm;rw[<- g.sd.nm]at this;cases pp:qan rs (qaz row) with|some j=>rfl|none=>exact absurd this (qc7.mp pp)
    refine(nmc Z (nmc Z ⟨p,d,i,ws,rs,As,row,Z,e1,ew,ae,(λr F=>by obtain⟨b1,b2,b3,b4⟩:=g.bn r F;exact⟨by lia,by lia,by lia,by lia⟩),ax,(λx w o dd y m u er=>bs.get ae.nn (by rw[<- er];exact hm)),λU e H' kt R=>?_,λe h t H' s' h'=>?_⟩))
    .exact⟨kt _ _ (.inl g.np) af,_,_,_,Z,.inl ⟨Z,D,rd,U,As,g1.next B e R⟩⟩
    .exact⟨s' _ _ af,_,_,_,Z,.inr ⟨e,t,Z,(ai D rd).trans (sa.trans (qkh h _)),h'⟩⟩
   .obtain⟨e,t,rfl,h2,h3⟩:=id fd;exact(nmc Z ⟨Z,(nmc Z (qal (λz=>nomatch z) ⟨v,_,_,_,Z,.inr fd⟩))⟩)
  .rintro σ J ⟨v,C,Y,X,rfl,L⟩;rw[tn]at L;rcases L with ⟨rfl,D,rd,rs,As,g⟩|⟨e,t,rfl,h2,h3⟩
   .have se:=g.se;rw[B5 (by rw[D,Ac]at ao;lia)]at se;exact(nmc Z (k rs ((ai D rd).trans se) J As g.st))
   .exact(nmc Z (ke e h2 t J h3))
theorem qsg (T:Txt K mg a):FnOk P w K mg base CX0 2 a.lF a.pX ["_law_rules","_law_name_here","_law_order_here"] spCl9:=by
 refine T.dA.fn.ok qit (λvs H Q E h=>?_) (λcdv A outer s H vs Q E y h=>?_)
 .obtain⟨_,_,_,_,_,_,rfl,_⟩:=h
  all_goals rfl
 .obtain⟨d,Y,rs,As,n,C,rfl,st,l6,W,ho,U,hk,k⟩:=h;refine⟨_,(qe (qz (i:=3) qit.nd Z (Ay Z) (zj qf))
   (qe (qpd Bp (PW.pt (qdq (qu qct (pv 1) qas (qac _)) (qdq (qu qcc (pv 1) (pv 2) (by with_unfolding_all rfl)) (qdz (qu qcc (pv 1) (pv 3) (by with_unfolding_all rfl)))))) (qe (zd (qcd AJ AQ AR qbd (pv 3) (qb (pv 1) qf qc)))
   (qh (qz (i:=1) qit.nd Z (Ay Z) (zr zu (zf (qgz T) (y.mono Ez) Z T.kI.mgx T.kI.fn.kp T.kI.bd .nil qam (qb (pv 0) (qb (pv 1) qf qc) qc)) qg (λ_ _=>rfl))))))
   (qh (qk (zm (qb (pv 3) (qb (qd9 (qcb qct (pv 1) qas (qac _)) (qe1 (qcb qdj (pv 1) (pv 3) (by with_unfolding_all rfl)))) qf qga) qc)))))),?_⟩
  refine⟨qem,λq hq=>?_⟩;obtain⟨s0,S⟩:=alc (o:=.lst []) hq;generalize upd H q _=H0 at s0 S |-;have v:(rs.map RR.name).length=rs.length:=Ac _;have x:=qtd st.nn l6;have D:∀(c:List Nat)(o:Option Nat)(b:Bool)(H':Hp),Same H H'->H' q=some (.lst (nmL rs c))->Ch (fR rs) c o->c.Nodup->(∀j∈c,j<rs.length/\j∉n)->(c++o.toList)[0]?=some C->(b=false->∀j,o=some j->j∈n)->(b=true->∃j,o=some j/\j∈c)->∀t,H' t=none->Q (.ref t) (upd H' t (.tup [.ref q,.bl b])):=λc o b H' u g ch nd lt st b1 b2 t l=>k q t _ c o b (u.trans (zc l)) (zc l _ _ g) qi ch nd lt st b1 b2;refine⟨λm σ' H'=>Same H H'/\∃(c:List Nat)(o:Option Nat),σ'=[some (.ref d),some (qhp (rs.map RR.name) o),some (.ref Y),some (.ref q)]/\H' q=some (.lst (nmL rs c))/\Ch (fR rs) c o/\c.Nodup/\(∀j∈c,j<rs.length/\j∉n)/\(∀j,o=some j->j<rs.length)/\(c++o.toList)[0]?=some C/\m+c.length=7,⟨7,s0,[],some C,Z,S,(λi k e=>by cases e),.nil,(λj G=>absurd G Aq),(λj e=>by cases e;exact hk),Z,Z⟩,?_⟩;rintro m σ' H' ⟨u,c,o,rfl,g,ch,nd,lt,lo,J,hm⟩;cases o with
  |none =>exact(nmc Z ⟨Z,(nmc Z (qda Z (qa9 (nmc Z (nmc Z ⟨Z,(nmc Z (qda Z ⟨fits (show 2<=100000 by decide),λt l=>D c none false H' u g ch nd lt J (λ_ j z=>nomatch z) (λz=>nomatch z) t l⟩))⟩)))))⟩)
  |some j =>
   have G:=lo j rfl;dsimp only[qhp];refine(nmc Z ⟨Z,(nmc Z (qeu (λz=>nomatch z) (nmc Z (nmc Z ⟨_,_,Z,.inl (SqL.of (u _ _ ho)),Z,qa1 _,(nmc Z ?_)⟩))))⟩);have F:∀k∈c,k<(rs.map RR.name).length:=λk hk=>by rw[v];exact(lt k hk).1
   have I:∀k∈n,k<(rs.map RR.name).length:=λk hk=>by rw[v];exact U k hk
   have p:j<(rs.map RR.name).length:=by rw[v];exact G
   show if (!inV (.str (nm (rs.map RR.name) j)) ((n.map (nm (rs.map RR.name))).map V.str))=true then _ else _;rw[qbp];cases R:(n.map (nm (rs.map RR.name))).contains (nm (rs.map RR.name) j) with
   |true =>
    have B:=(qgq x.nd I p).mp R;have N:inV (.str (nm (rs.map RR.name) j)) (nmL rs c)=false:=by
     unfold nmL;rw[qbp];cases e:(c.map (nm (rs.map RR.name))).contains (nm (rs.map RR.name) j) with|false=>rfl|true=>exact absurd B (lt j ((qgq x.nd F p).mp e)).2
    refine qa9 (qa9 (nmc Z (nmc Z ⟨Z,(nmc Z (qeu (λz=>nomatch z) (nmc Z (nmc Z ⟨_,_,Z,.inl (SqL.of g),Z,qa1 _,?_⟩))))⟩)));show 2<=A4/\∀t,H' t=none->Q (.ref t) (upd H' t (.tup [.ref q,.bl (inV (.str (nm (rs.map RR.name) j)) (nmL rs c))]));rw[N];exact⟨fits (show 2<=100000 by decide),λt l=>D c (some j) false H' u g ch nd lt J (λ_ i z=>by cases z;exact B) (λz=>nomatch z) t l⟩
   |false =>
    have nj:j∉n:=λz=>by rw[(qgq x.nd I p).mpr z]at R;cases R
    have ln:=qmf nd λk hk=>(lt k hk).1;obtain⟨m,rfl⟩:∃f,m=f+1:=⟨m-1,by lia⟩;refine qby (nmc Z (nmc Z ⟨_,_,Z,.inl (SqL.of g),Z,qa1 _,(nmc Z ?_)⟩));show if (!inV (.str (nm (rs.map RR.name) j)) ((c.map (nm (rs.map RR.name))).map V.str))=true then _ else _;rw[qbp];cases ep:(c.map (nm (rs.map RR.name))).contains (nm (rs.map RR.name) j) with
    |true =>
     have B:=(qgq x.nd F p).mp ep;refine qa9 (nmc Z (nmc Z ⟨Z,(nmc Z (qeu (λz=>nomatch z) (nmc Z (nmc Z ⟨_,_,Z,.inl (SqL.of g),Z,qa1 _,?_⟩))))⟩));have N:inV (.str (nm (rs.map RR.name) j)) (nmL rs c)=true:=by unfold nmL;rw[qbp];exact ep
     show 2<=A4/\∀t,H' t=none->Q (.ref t) (upd H' t (.tup [.ref q,.bl (inV (.str (nm (rs.map RR.name) j)) (nmL rs c))]));rw[N];exact⟨fits (show 2<=100000 by decide),λt l=>D c (some j) true H' u g ch nd lt J (λz=>nomatch z) (λ_=>⟨j,Z,B⟩) t l⟩
    |false =>
     have B:j∉c:=λz=>by rw[(qgq x.nd F p).mpr z]at ep;cases ep
     have lz:(nmL rs c).length<=90000:=by unfold nmL;rw[Ac,Ac];lia
     refine qby ⟨λσ' H'=>Same H H'/\∃(c:List Nat)(o:Option Nat),σ'=[some (.ref d),some (qhp (rs.map RR.name) o),some (.ref Y),some (.ref q)]/\H' q=some (.lst (nmL rs c))/\Ch (fR rs) c o/\c.Nodup/\(∀j∈c,j<rs.length/\j∉n)/\(∀j,o=some j->j<rs.length)/\(c++o.toList)[0]?=some C/\m+c.length=7,λσ2 H2 z=>⟨m,Cc m,z⟩,?_⟩;refine(nmc Z ⟨.inl ⟨Z,_,SqL.of g⟩,(nmc Z ⟨_,_,_,Z,Z,g,qcz lz,?_⟩)⟩);have L:Same H (upd H' q (.lst (nmL rs c++[V.str (nm (rs.map RR.name) j)]))):=qao u hq;have X:upd H' q (.lst (nmL rs c++[V.str (nm (rs.map RR.name) j)])) q=some (.lst (nmL rs (c++[j]))):=by unfold nmL;rw[qi,Av,Av];rfl
     generalize upd H' q _=H2 at L X |-;obtain⟨r,y⟩:∃r,rs[j]?=some r:=⟨_,Al G⟩;have O:=qef st.nn y;rw[<- nm_R y]at O;refine(nmc Z (nmc Z ⟨d,_,rs,As,Z,st.same L,λj2 A M hA=>?_,λpn=>by rw[O]at pn;cases pn⟩));rw[O]at M;cases M;obtain⟨sv,us,h9⟩:=(st.same L).ru j r A y hA;have h4:atI (qm4 r A.pe A.pa A.pl sv A.py) 4=some (qhp (rs.map RR.name) (fR rs j)):=by rw[show qhp (rs.map RR.name) (fR rs j)=qev r.base from qjk W y];rfl
     refine⟨_,_,_,_,Z,Z,SqL.of h9.hq,h4,?_⟩;refine⟨L,c++[j],fR rs j,Z,X,ch.snoc,?_,λi hi=>?_,(λi e=>by rw[<- v];exact x.ok j i e),?_,by rw[Ag,AU];lia⟩
     .rw[AO];exact⟨nd,AM.mpr ⟨Aq,.nil⟩,λa ha b hb e=>B (by rw[<- Ai.mp hb,<- e];exact ha)⟩
     .rcases Az.mp hi with z|z
      .exact lt i z
      .rw[Ai.mp z];exact⟨G,nj⟩
     .have e:(c++[j])[0]?=some C:=J;rw[AT (by rw[Ag,AU];lia)];exact e
theorem qsh (T:Txt K mg a):FnOk P w K mg base CX0 3 a.mL a.pJ ["_law_rules"] spOr9:=by
 refine T.bN.fn.ok qel (λvs H Q E h=>?_) (λcdv A outer s H vs Q E v h=>?_)
 .obtain⟨_,_,_,rfl,_⟩:=h
  all_goals rfl
 .obtain⟨d,rs,As,rfl,st,l6,R,k,kn⟩:=h;refine⟨_,(qe (qz (i:=1) qel.nd Z (Ay Z) (zj qf))
   (qe (qch Bp Z (qbn (pv 0)) (qaj (i:=2) qel.nd Z (Ay Z)) (qe (qvi (zf (qsg T) (v.mono Ez) Z T.dA.mgx T.dA.fn.kp T.dA.bd .nil qam (qb (pv 0) (qb (zr zu (pv 2) qg (λ_ _=>rfl)) (qb (pv 1) qf qc) zp) qc)) (qle Z (qca (qaj (i:=3) qel.nd Z (Ay Z)) (qca (qaj (i:=4) qel.nd Z (Ay Z)) qh1))))
   (qe (ze (zh (pv 4)) (qh (qk qas)) qad)
   (qh (qz (i:=1) qel.nd Z (Ay Z) (zb qcv (pv 1) (qlu Z (by rfl) T.gA (by rfl) T.nJ qdn (qb (pv 3) qf qc))))))))
   (qh (qk (pv 1))))),?_⟩
  refine⟨qem,λO S=>?_⟩;obtain⟨s0,N⟩:=alc (o:=.lst []) S;generalize upd H O _=H0 at s0 N |-;have lnm:(rs.map RR.name).length=rs.length:=Ac _;refine(nmc Z ⟨_,Z,⟨_,SqL.of (st.same s0).hd⟩,qds (K:=K) (a:=d) (xs:=As.map λA=>V.ref A.p) (λi σ H'=>Same H H'/\∃(q:Addr)(c:List Nat)(J F D:Option V),σ=[some (.ref d),some (.ref q),J,F,D]/\H' q=some (.lst (nmL rs c))/\c.Nodup/\(∀j∈c,j<rs.length)/\Hg (fR rs) i c)
   ⟨s0,O,[],none,none,none,Z,N,.nil,(λj f=>absurd f Aq),.zero⟩ (λi σ H' _ h=>SqL.of (st.same h.1).hd) ?_ ?_⟩)
  .rintro i x σ H' m ⟨t,q,c,J,F,D,rfl,u,nd,g,n⟩;obtain⟨A,hA,rfl⟩:∃A,As[i]?=some A/\V.ref A.p=x:=by rw[Ak]at m;cases e:As[i]? with
    |none=>rw[e]at m;cases m
    |some A=>rw[e]at m;exact⟨A,Z,A9 m⟩
   have I:i<rs.length:=by rw[<- st.ln];exact(Ah.mp hA).1
   obtain⟨r,v⟩:∃r,rs[i]?=some r:=⟨_,Al I⟩;have y:=st.same t;obtain⟨sv,us,h9⟩:=y.ru i r A v hA;have en:=nm_R v;refine(nmc Z (nmc Z (lxo (h9.hq) Z (nmc Z ⟨d,q,rs,As,c,i,(by rw[en];rfl),y,l6,R,u,g,I,λq2 Y W L o b G e2 X ch B l C b1 b2=>?_⟩))));have li:=qmf B λk hk=>(l k hk).1;have lo:=qmf nd g;refine⟨Y,_,Z,SqT.of X,Z,_,_,Z,_,_,Z,Z,(nmc Z (nmc Z ?_))⟩;cases b with
   |true =>obtain⟨j,rfl,f⟩:=b2 rfl;exact qby (kn (ring_no n I ch (λj f=>(l j f).2) f C) W (t.trans G))
   |false =>
    refine qa9 (nmc Z (nmc Z ⟨q2,_,Z,SqL.of e2,λq3 n3=>?_⟩));have er:(nmL rs L).reverse=nmL rs L.reverse:=by unfold nmL;rw[List.map_reverse,List.map_reverse]
    rw[er];generalize U:upd W q3 _=H3;obtain⟨M,e3⟩:=alg U n3;clear U;refine⟨_,_,_,_,Z,Z,(G.trans M) _ _ u,e3,fits (by unfold nmL;rw[Ac,Ac,Ac,Ac,Dh];lia),λq4 n4=>?_⟩;refine⟨t.trans (G.trans (M.trans (zc n4))),q4,c++L.reverse,_,_,_,Z,?_,?_,λj f=>?_,.succ n (qrt ch (λj f=>(l j f).2) C (b1 Z))⟩
    .rw[qi];unfold nmL;rw[Av,Av]
    .rw[AO];exact⟨nd,List.pairwise_reverse.mpr (B.imp Ba),λa ha b hb e=>(l b (CG.mp hb)).2 (e ▸ ha)⟩
    .rcases Az.mp f with z|z
     .exact g j z
     .exact(l j (CG.mp z)).1
  .rintro σ H' ⟨t,q,c,J,F,D,rfl,u,nd,g,n⟩;rw[Ac,st.ln]at n;exact(nmc Z (k q H' c t u n g))
theorem qqx (T:Txt K mg a):FnOk P w K mg base CX0 2 a.nE a.lV ["_law_found","_law_rules"] spIr9:=by
 refine T.dE.fn.ok qfx (λvs H Q E h=>?_) (λcdv A outer s H vs Q E f h=>?_)
 .obtain⟨_,_,_,_,_,_,rfl,_⟩:=h
  all_goals rfl
 .obtain⟨t,l,d,rs,As,r,rfl,o,hl,st,N,c,X,k⟩:=h;refine⟨_,(qe (ze (PW.pt (qdb (qu qie (zr zt (pv 0) qg (λ_ _=>rfl)) zi (qac _)) (qdb (qu qsz (zr zt (pv 0) qg (λ_ _=>rfl)) qdr (qac _)) (qdp (qe0 (zh (zg qff (by rfl) T.kK qae (qb (zr zt (pv 0) qg (λ_ _=>rfl)) (qb (qdy (v:=.ty "list") Z T.gA qdn Z) qf qc) zp)))))))) (qh (qk qdr)) qad)
   (qe (qz (i:=2) qfx.nd Z (Ay Z) (zr zt (pv 0) qg (λ_ _=>rfl)))
   (qe (qch Bp Z (qd7 Z T.kX (qb (zg qa5 (by rfl) T.kH qa2 (qb (pv 2) qf qc)) qf zn)) (qaj (i:=3) qfx.nd Z (Ay Z)) (qe (qz (i:=4) qfx.nd Z (Ay Z) (zf (qgz T) (f.mono Ez) Z T.kI.mgx T.kI.fn.kp T.kI.bd .nil qam (qb (pv 1) (qb (zr zu (pv 2) (pv 3) (λ_ _=>rfl)) qf zp) qc)))
   (qh (ze (PW.pt (qdb (qu qfe (pv 4) qas (qac _)) (qdb (qu qie (qcd AJ PySem.F.slot_list_count PySem.F.type_list_count quf (pv 2) (qb (zr zu (pv 2) (pv 3) (λ_ _=>rfl)) qf zp)) qg (qac _)) (qdp (qu qie (zr zu (pv 4) qg (λ_ _=>rfl)) (zr zu (pv 2) (zb qau (zb qb2 (pv 3) qg) (zg qa5 (by rfl) T.kH qa2 (qb (pv 2) qf qc))) (λ_ _=>rfl)) (qac _)))))) (qh (qk qdr)) qad))))
   (qh (qk (qcb (qwx f.units) (pv 2) (zj qf) (qac _))))))),?_⟩
  have u:(rs.map RR.name).length=rs.length:=Ac _;have wr:=qtd st.nn X;have R:0<r.length:=List.length_pos_iff.mpr c.ne;have g:(nmL rs r).length=r.length:=by unfold nmL;rw[Ac,Ac]
  have lr:=qmf c.nd c.lt;refine(nmc Z (txo (o) Z ⟨Z,(nmc Z (qda Z (nmc Z (txo (o) Z ⟨_,_,Z,Z,(nmc Z (qa9 (nmc Z (txo (o) Z ⟨_,_,_,_,Z,.lst hl,qpr,(nmc Z (qa9 ?_))⟩))))⟩))))⟩));have C:=rb (n:=(nmL rs r).length) (by lia);refine(nmc Z (txo (o) Z (nmc Z ⟨_,_,Z,.inl ⟨_,SqL.of hl,Z⟩,_,Z,C.1,C.2,qej (lo:=0) (n:=((nmL rs r).length:Int).toNat) (λi σ H'=>H'=H/\∃J D:Option V,σ=[some (.ref t),some (.ref d),some (.ref l),J,D]) ⟨Z,none,none,Z⟩ ?_ ?_⟩)))
  .rintro i σ H' G ⟨rfl,J,D,rfl⟩;have G:i<r.length:=by rw[g]at G;lia
   rw[DH];obtain⟨j,ej⟩:∃j,r[i]?=some j:=⟨_,Al G⟩;have O:=At ej;have hj:=c.lt j O;have q:atI (nmL rs r) (i:Int)=some (.str (nm (rs.map RR.name) j)):=qbh (by unfold nmL;rw[Ak,Ak,ej];rfl);have nx:=c.nx i j ej;have lm:(i+1) % r.length<r.length:=Nat.mod_lt _ R;obtain⟨b,eb⟩:∃b,r[(i+1) % r.length]?=some b:=⟨_,Al lm⟩;rw[eb]at nx;have cnt:(r.map (nm (rs.map RR.name))).count (nm (rs.map RR.name) j)=1:=by have nd:(r.map (nm (rs.map RR.name))).Nodup:=List.pairwise_map.mpr (c.nd.imp_of_mem λ{x y} Y hy ne e=>ne (qox wr.nd (by rw[u];exact c.lt x Y) (by rw[u];exact c.lt y hy) e));rw[nd.count,if_pos (AS.mpr ⟨j,O,Z⟩)]
   have M:atI (nmL rs r) (((i:Int)+1) % (((nmL rs r).length:Nat):Int))=some (.str (nm (rs.map RR.name) b)):=by rw[g,show ((i:Int)+1) % ((r.length:Nat):Int)=(((i+1) % r.length:Nat):Int) by push_cast;rfl];exact qbh (by unfold nmL;rw[Ak,Ak,eb];rfl)
   obtain⟨r2,f⟩:∃r2,rs[j]?=some r2:=⟨_,Al hj⟩;have I:=qef st.nn f;rw[<- nm_R f]at I;have m:=qjk N f;rw[show bo (bsR rs) j=some b from nx]at m;have m:V.str (nm (rs.map RR.name) b)=qev r2.base:=m;refine(nmc Z (nmc Z (nmc Z (lxo (hl) q ⟨d,_,rs,As,Z,st,λj2 A B U=>?_,λpn=>by rw[I]at pn;cases pn⟩))));rw[I]at B;cases B;obtain⟨W,us,S⟩:=st.ru j r2 A f U;have h4:atI (qm4 r2 A.pe A.pa A.pl W A.py) 4=some (.str (nm (rs.map RR.name) b)):=by rw[m];rfl
   refine(nmc Z ⟨Z,(nmc Z (qal (λz=>nomatch z) (nmc Z ⟨.inl ⟨Z,_,SqL.of hl⟩,(nmc Z (nmc Z (lxo (hl) q ⟨l,_,_,Z,Z,hl,Z,(nmc Z (qda (by rw[cnt];rfl) ?_))⟩)))⟩)))⟩);refine(nmc Z (lxo (S.hq) h4 (nmc Z (nmc Z (iic Z Z (nmc Z ⟨_,_,Z,.inl ⟨_,SqL.of hl,Z⟩,(iic Z Z ⟨(pos (by rw[g];lia)),(lxo (hl) M ⟨Z,(nmc Z (qda Z ?_))⟩)⟩)⟩))))));exact⟨Z,_,_,Z⟩
  .rintro σ H' ⟨rfl,J,D,rfl⟩;have ne:(nmL rs r).isEmpty=false:=by
    cases e:nmL rs r with|nil=>rw[e]at g;simp at g;lia|cons=>rfl
   refine(nmc Z ⟨qem,λp L=>⟨_,_,_,Z,Z,SqL.of (zc L _ _ hl),SqL.of qi,?_⟩⟩);rw[ne];exact k _ (zc L)
theorem qm8 (T:Txt K mg a):FnOk P w K mg base CX0 1 a.fN a.mE ["self"] (spBH7 a):=by
 refine T.nK.fn.ok qm3 (λvs H Q E h=>?_) (λcdv A outer s H vs Q E hr h=>?_)
 .obtain⟨_,_,_,rfl,_⟩:=h
  all_goals rfl
 .obtain⟨x,nms,os,rfl,d,k⟩:=h;refine⟨_,(qh (qk (qax qe3 (by rfl) T.gA qdn (qb (qaq (pv 0) Z) qf qbe)))),?_⟩;obtain⟨dx,po,pd,c,b⟩:=d;exact(nmc Z (flc (c) (T.kO) (qm T.kY Ez) (rfl) ⟨_,_,Z,.inl (SqL.of b),λl hl=>k l hl⟩))
theorem qmv (T:Txt K mg a):FnOk P w K mg base CX0 2 a.fB a.lO ["self"] (spActK a):=by
 refine T.hX.fn.ok qed (λvs H Q E h=>?_) (λcdv A outer s H vs Q E hr h=>?_)
 .obtain⟨_,_,_,_,rfl,_⟩:=h
  all_goals rfl
 .obtain⟨x,rs,As,os,rfl,bk,bn,n1,aa,k⟩:=h;refine⟨_,(qe (qz (i:=1) qed.nd Z (Ay Z) (zj qf))
   (qe (qrl Bp Z (qaq (pv 0) Z) (qaj (i:=2) qed.nd Z (Ay Z)) (qh (qij (i:=1) qed.nd Z (Ay Z) (qf7 (pv 2) T.k9 T.pC (qh0 T) (hr.mono Ez) T.fW.bd .nil qam) qio)))
   (qh (qk (qjc Z (by rfl) T.lD (by rfl) T.lE (qb (pv 1) qf qc)))))),?_⟩
  obtain⟨dx,po,d,h1,h2,D⟩:=bk.bk;have l6:=bk.l6;have ln:=bk.ln;have ru:=bk.ru;refine⟨qem,λf B=>?_⟩;generalize M:upd H f _=H1;have L:Same H H1:=by rw[<- M];exact zc B
  have I:H1 f=some (.lst []):=by rw[<- M];exact qi
  clear M;have G:f≠d:=λz=>by rw[z,D]at B;cases B
  refine(nmc Z (flc (L _ _ h1) (T.kO) (qm T.kY Ez) (rfl) ⟨d,dcR rs As,Z,L _ _ D,λo=>⟨λi σ J=>(∀b u,b≠d->H b=some u->J b=some u)/\J d=some (.frz o (.dK (dcR rs As)))/\J f=some (.lst ((qgf (rs.take i)).map V.str))/\∃R:Option V,σ=[some (.ref x),some (.ref f),R],?_,λi σ J h=>h.2.1,?_,?_⟩⟩))
  .refine⟨λb u O e=>by rw[qp O];exact L _ _ e,qi,by rw[qp G];exact I,none,Z⟩
  .rintro i kv σ J hk ⟨c,W,C,R,rfl⟩;obtain⟨r,A,l,hA,Y⟩:=qx0 hk;rw[Y];have ac:=bn r (At l);have F:RuX a.k8 J A r:=by
    have nd:∀b u,H b=some u->(∀z,u ≠ .dK z)->b≠d:=λb u e n z=>by rw[z,D]at e;exact n _ (A9 e).symm
    obtain⟨v,us,g⟩:=ru i r A l hA;refine⟨v,us,c _ _ (nd _ _ g.hx λz q=>nomatch q) g.hx,?_,c _ _ (nd _ _ g.he λz q=>nomatch q) g.he,c _ _ (nd _ _ g.ha λz q=>nomatch q) g.ha,c _ _ (nd _ _ g.hl λz q=>nomatch q) g.hl,?_,c _ _ (nd _ _ g.hy λz q=>nomatch q) g.hy⟩
    .have hs:=g.hs;cases e:r.still with
     |none=>rw[e]at hs;exact hs
     |some st =>rw[e]at hs;obtain⟨p,I,y⟩:=hs;exact⟨p,I,c _ _ (nd _ _ y λz q=>nomatch q) y⟩
    .exact tups_of g.tl λb t e=>c _ _ (nd _ _ e λz q=>nomatch q) e
   obtain⟨v,us,g⟩:=id F;have U:=g.hx;refine(nmc Z (nmc Z ⟨A.p,A.dx,_,Z,U,Z,A,r,Z,F,by lia,by lia,by lia,λj J2 m N y=>?_⟩));have lt:=qjq (rs:=rs.take i) (n:=100) λz hz=>bn z (CW hz);rw[AZ]at lt;have lk:=qx3 ac;refine⟨f,j,_,_,Z,Z,N _ _ C,y,fits (by rw[Ac,Ac];lia),?_⟩;have X:∀b u,H b=some u->b≠f:=λb u e z=>by rw[z,B]at e;cases e
   refine⟨λb u O e=>by rw[qp (X b u e)];exact N _ _ (c b u O e),by rw[qp (Ba G)];exact N _ _ W,by rw[qi,qn7 l,Av],_,Z⟩
  .rintro σ J ⟨c,W,C,R,rfl⟩;rw[qji ln,B8]at C;have lt:=qjq bn;have S:Same H (upd J d (.dK (dcR rs As))):=λb u e=>by
    by_cases z:b=d
    .rw[z]at e |-;rw[D]at e;cases e;exact qi
    .rw[qp z];exact c b u z e
   refine(nmc Z ⟨f,qgf rs,Z,SqL.of (by rw[qp G];exact C),by lia,n1,aa,λj ss m pm pw=>?_⟩);have hq:H j=none:=by
    cases e:H j with|none=>rfl|some u=>rw[S _ _ e]at m;cases m
   exact k j _ ss hq (S.trans (zc m)) pm pw qi
theorem qqy (T:Txt K mg a):FnOk P w K mg base CX0 8 a.mD a.rB ["_law_text","_law_rules","_law_order_here"] (spIb9 a):=by
 refine T.dW.fn.ok qcg (λvs H Q E h=>?_) (λcdv A outer s H vs Q E b h=>?_)
 .obtain⟨_,_,_,_,_,_,rfl,_⟩:=h
  all_goals rfl
 .obtain⟨d,po,ls,rs,As,os,rfl,au,B,l,st,ho,hg,k⟩:=h;refine⟨_,(qe (qz (i:=3) qcg.nd Z (Ay Z) (zf (qiw T) (b.mono Ez) Z T.kS.mgx T.kS.fn.kp T.kS.bd .nil qwc (qb (pv 0) qf qc)))
   (qe (qz (i:=4) qcg.nd Z (Ay Z) (zj qf))
   (qe (qz (i:=5) qcg.nd Z (Ay Z) (zj qf))
   (qe (qch Bp Z (qbn (pv 1)) (qaj (i:=6) qcg.nd Z (Ay Z)) (qe (qz (i:=4) qcg.nd Z (Ay Z) (zb qcv (pv 4) (zf (qvb T) (b.mono Ez) Z T.bP.mgx T.bP.fn.kp T.bP.bd .nil qam (qb (pv 6) qf qc))))
   (qh (qz (i:=5) qcg.nd Z (Ay Z) (zb qcv (pv 5) (zf (qmu T) (b.mono Ez) Z T.gG.mgx T.gG.fn.kp T.gG.bd .nil qam (qb (pv 6) qf qc)))))))
   (qe (qz (i:=7) qcg.nd Z (Ay Z) (qcd B6 CN CO qi7 zi (qb (pv 4) qf qc)))
   (qe (ze (PW.pt (qdb (qu (qol b.units0) (qf7 (pv 3) T.kO T.pK (qg3 T) (b.mono Ez) T.fA.bd .nil qam) (qd1 (N:=["_law_rule"]) (js:=[none]) (XN:=["_law_text","_law_rules","_law_order_here","_law_book","_law_rows_here","_law_kinds","_law_rule","_law_due_here","_law_shown"]) (xs:=qab qgm) Z Z Z En (qbn (pv 1)) (λ_ _ _ _ _ _=>(qaj (i:=0) (show BY (["_law_rule"]:List Str) from by decide +kernel) Z (Ay Z) (C8 Z))) (λ_ _ _ _ _ _=>qcf) (λ_ _ _ _ _ _=>(zr (qwj (K:=K) Z) (pv 0) qg (λ_ _=>rfl)))) (qac _)) (qdp (qu (qol b.units0) (qf7 (pv 3) T.kO T.xX (qm8 T) (b.mono Ez) T.nK.bd .nil qam) (pv 2) (qac _))))) (qh (qk qdr)) qad)
   (qe (qz (i:=8) qcg.nd Z (Ay Z) (zf (qms T) (b.mono Ez) Z T.gD.mgx T.gD.fn.kp T.gD.bd .nil qam (qb (pv 3) qf qc)))
   (qe (ze (PW.pt (qdb (qe0 (zh (zg qff (by rfl) T.kK qae (qb (pv 8) (qb (qdy (v:=.ty "str") Z T.kP qcl Z) qf qc) qc)))) (qdb (qu qie (pv 8) (pv 7) (qac _)) (qdp (qu (qol b.units0) (qf7 (pv 3) T.kO T.xH (qmv T) (b.mono Ez) T.hX.bd .nil qam) (qjc Z (by rfl) T.lD (by rfl) T.lE (qb (pv 5) qf qc)) (qac _)))))) (qh (qk qdr)) qad)
   (qh (qk (qcb qav (zf (qms T) (b.mono Ez) Z T.gD.mgx T.gD.fn.kp T.gD.bd .nil qam (qb (zf (qiw T) (b.mono Ez) Z T.kS.mgx T.kS.fn.kp T.kS.bd .nil qwc (qb (pv 7) qf qc)) qf zn)) (pv 7) (qac _)))))))))))),?_⟩
  have l40:(qak rs).length<=40:=l.ln;have l6:=l.l6;have bx:=qo3 l.ok;have bn:Bn 100 rs:=λr b=>(l.ok r b).sz;obtain⟨z1,ag⟩:=once_sz l hg;have ae:∀r,¬Rg (bo (bsR rs)) (rs.map RR.name).length r:=λr C=>by rw[Ac]at C;exact hg_rg hg C
  refine(nmc Z ⟨ls,Z,au,λao ok=>?_,(λer h=>(by rw[B]at h;cases h))⟩);rw[B]at ok;cases ok;refine⟨λu HB Bs g sB bk=>?_,λx5 d5 l5 ax r5 _ _ _ _ C=>(ae _ C).elim⟩;have am:=bk.os.hg.uniq hg;subst am;refine⟨qem,λq0 n0=>?_⟩;generalize c:upd HB q0 _=H7;obtain⟨s7,e7⟩:=alg c n0;clear c;refine⟨qem,λq8 n8=>?_⟩;generalize c:upd H7 q8 _=H8;obtain⟨s8,e8⟩:=alg c n8;clear c;have aa:=s7.trans s8;have bq:=sB.trans aa;refine(nmc Z ⟨_,Z,⟨_,SqL.of (bq _ _ st.hd)⟩,qds (K:=K) (a:=d) (xs:=As.map λA=>V.ref A.p) (λi σ J=>Same HB J/\∃Y W,J Y=some (.lst (qbc (qak (rs.take i))))/\J W=some (.lst ((qgf (rs.take i)).map V.str))/\∃v7:Option V,σ=[some (.str (qco ls)),some (.ref d),some (.ref po),some (.ref u),some (.ref Y),some (.ref W),v7,none,none]) ⟨aa,q0,q8,s8 _ _ e7,e8,none,Z⟩ (λi σ J _ h=>SqL.of ((sB.trans h.1) _ _ st.hd)) ?_ ?_⟩)
  .rintro i v σ J y ⟨sJ,Y,W,hw,bb,v7,rfl⟩;rw[Ak]at y;cases eq:As[i]? with
   |none=>rw[eq]at y;cases y
   |some A =>
   rw[eq]at y;cases y;have o:i<rs.length:=by rw[<- st.ln];exact(Ah.mp eq).1
   have b:rs[i]?=some rs[i]:=Al o;have bf:=hd_next b;have bj:hd rs (i+1)<=(qak rs).length:=by have:=hd_le (rs:=rs) (show i+1<=rs.length by lia);unfold hd at this;rw[B8]at this;exact this
   unfold hd at bf bj;have B:=l.ok _ (By o);have lr:=((st.same (sB.trans sJ)).ru i _ A b eq).lr;refine(nmc Z (nmc Z ⟨A.p,rs[i],Z,lr,B,λpz J3 nz j ez=>⟨_,_,_,_,Z,Z,j _ _ hw,ez,fits (by rw[qe6,qe6];lia),λq2 ar=>?_⟩⟩));generalize c:upd J3 q2 _=J4;obtain⟨x,bc⟩:=alg c ar;clear c;have bv:=sJ.trans (j.trans x);have lt:=qjq (rs:=rs.take i) (n:=100) λz hz=>bn z (CW hz);rw[AZ]at lt;have lk:=qx3 (bn _ (By o));obtain⟨b1,b2,b3,b4⟩:=bn _ (By o);refine(nmc Z (nmc Z ⟨A.p,rs[i],Z,lr.same (j.trans x),by lia,by lia,by lia,λpk J5 nk t ek=>⟨_,_,_,_,Z,Z,(j.trans (x.trans t)) _ _ bb,ek,fits (by rw[Ac,Ac];lia),λq3 ad=>?_⟩⟩));refine⟨bv.trans (t.trans (zc ad)),q2,q3,?_,by rw[qi,qn7 b,Av],_,Z⟩;rw[(t.trans (zc ad)) _ _ bc,qbr b];unfold qak qbc;rw[Bc,Av,Av];simp[Bt]
  rintro σ H9 ⟨s9,Y,W,hw,af,v7,rfl⟩;rw[Ac,st.ln,B8]at hw af;have lg:=qn5 bx (by lia);have jg:=qqs lg;refine⟨Z,(nmc Z ⟨_,Y,(qak rs).map qaw,Z,Z,SqL.of hw,jg.1,?_⟩)⟩;rw[jg.2];have m:=bk.same s9;have U:=sB.trans s9;have aw:=st.same U;obtain⟨dx,pb,pd,X,bp,hx3⟩:=id m.bk;refine(nmc Z ⟨u,dx,_,Z,X,Z,u,rs,Bs,g,Z,m.bk,m.ln,m.l6,λqn J1 nn L eC=>?_⟩);have M:=aw.same L;let f:V->V:=λv=>match v with
   |.ref p=>(match J1 p with
    |some (.lst zs)=>zs.headD .non
    |_=>.non)
   |_=>.non
  have ef:∀(i:Nat)(A:RA),As[i]?=some A->∃r pe pa pl F py,rs[i]?=some r/\J1 A.p=some (.lst (qm4 r pe pa pl F py))/\f (.ref A.p)=.str r.name:=λi A hA=>by
   have o:i<rs.length:=by rw[<- st.ln];exact(Ah.mp hA).1
   obtain⟨F,us,D⟩:=M.ru i rs[i] A (Al o) hA;refine⟨rs[i],A.pe,A.pa,A.pl,F,A.py,Al o,D.hq,?_⟩;show (match J1 A.p with
    |some (.lst zs)=>zs.headD .non
    |_=>.non)=_
   rw[D.hq];rfl
  have em:(As.map λA=>V.ref A.p).map f=(rs.map RR.name).map V.str:=by
   apply Bz;intro i;rw[Ak,Ak,Ak,Ak];cases e:As[i]? with
   |none =>rw[Bh (by rw[<- st.ln];exact BF.mp e)];rfl
   |some A =>obtain⟨r,pe,pa,pl,F,py,D,h2,h3⟩:=ef i A e;rw[D];exact congrArg some h3
  refine(nmc Z ⟨_,Z,⟨_,SqL.of M.hd⟩,?_⟩);refine qbi f (λσ'=>∃v,σ'=[v]) (qbz (K:=K) (SqL.of M.hd)) (fits (by rw[Ac,st.ln];lia)) ⟨none,Z⟩ (λv σ' H' RR' y sm s4 q=>?_) qcx λp5 aq=>?_
  .obtain⟨v0,rfl⟩:=s4;obtain⟨A,hA,rfl⟩:=AS.mp y;obtain⟨i,o⟩:=AL hA;obtain⟨r,pe,pa,pl,F,py,D,h2,h3⟩:=ef i A o;have q:=q [some (.ref A.p)] ⟨_,Z⟩;rw[h3]at q;exact(nmc Z (lxo (sm _ _ h2) Z q))
  rw[em];generalize c:upd J1 p5 _=J2;obtain⟨S,bt⟩:=alg c aq;clear c;refine⟨_,_,_,_,Z,Z,SqL.of (S _ _ eC),SqL.of bt,qa1 _,qa1 _,(nmc Z ?_)⟩;rw[qh4 (qa1 _)];refine qa9 ?_;have I:=(m.same L).same S;have R:=L.trans S;have G:=R _ _ X;have ak:=R _ _ bp;refine(nmc Z ⟨u,dx,_,Z,G,Z,u,rs.map RR.name,g,Z,⟨dx,pb,pd,G,ak⟩,λq3 n3=>?_⟩);generalize c:upd J2 q3 _=J3;obtain⟨j,bg⟩:=alg c n3;clear c;have ah:=R.trans j;refine(nmc Z ⟨_,_,_,_,Z,Z,SqL.of bg,SqL.of ((U.trans ah) _ _ ho),qa1 _,qa1 _,(nmc Z ?_)⟩);show if (!qhb (nmL rs g) (nmL rs g))=true then _ else _;rw[qh4 (xs:=nmL rs g) (qa1 _)];refine qa9 ?_;refine(nmc Z ⟨u,rs,Bs,g,Z,I.same j,l.ok,by lia,λJ4 x=>?_⟩);have O:=ah.trans x;have bu:=m.same O;refine(nmc Z ⟨_,_,_,_,Z,.str _,qfu,(nmc Z (qa9 (nmc Z (nmc Z ⟨Z,(nmc Z (qda Z (nmc Z ⟨u,dx,_,Z,O _ _ X,Z,u,rs,Bs,g,Z,bu,bn,z1,ag,λqt J5 tt nt t pt wt et=>?_⟩)))⟩))))⟩);have lt:=qjq bn;have ac:=O.trans t;refine(nmc Z ⟨W,qgf rs,Z,SqL.of (ac _ _ af),by lia,z1,ag,λqD ss nD pD wD=>?_⟩);generalize c:upd J5 qD _=J6;obtain⟨ai,bw⟩:=alg c nD;clear c;rw[qww wt wD (pt.trans pD.symm)]at et;refine⟨_,_,_,_,Z,Z,SqL.of (ai _ _ et),SqL.of bw,qa1 _,qa1 _,(nmc Z ?_)⟩;rw[qh4 (qa1 _)];refine qa9 ?_;refine(nmc Z ⟨_,Z,lg,λao ok=>?_,(λer h=>(by rw[qn4 l]at h;cases h))⟩);rw[qn4 l]at ok;cases ok;refine⟨λx2 HB2 br bi bh I=>⟨x2,rs,br,bi,Z,I,l.ok,by lia,λH' sE=>?_⟩,λx5 d5 l5 ax r5 _ _ _ _ C=>(ae _ C).elim⟩;refine(nmc Z ⟨Z,?_⟩);show Q (.bl (decide (V.str (qco ((qak rs).map qaw))=V.str (qco ((qak rs).map qaw))))) H';rw[decide_eq_true Z];exact k _ (U.trans (ac.trans (ai.trans (bh.trans sE))))
theorem okLaw (T:Txt K mg a):FnOk P w K mg base CX0 10 a.rH a.rE ["_law_script"] (qs8 K):=by
 refine T.sD.fn.ok qg1 (λvs H Q E h=>?_) (λcdv A outer s H vs Q E f h=>?_)
 .obtain⟨_,_,rfl,_⟩:=h
  all_goals rfl
 .obtain⟨l,ns,rfl,B,hlen,k⟩:=h;refine⟨_,(qe (qz (i:=1) qg1.nd Z (Ay Z) (zf (qii T) (f.mono Ez) Z T.gI.mgx T.gI.fn.kp T.gI.bd .nil qam (qb (zf (qmt T) (f.mono Ez) Z T.gE.mgx T.gE.fn.kp T.gE.bd .nil qam (qb (zf (qcs T) (f.mono Ez) Z T.kG.mgx T.kG.fn.kp T.kG.bd .nil qam (qb (pv 0) (qb qg qf qj) qc)) (qb qg qf qj) zn)) (qb (zb qa7 (zf (qcs T) (f.mono Ez) Z T.kG.mgx T.kG.fn.kp T.kG.bd .nil qam (qb (pv 0) (qb qg qf qj) qc)) qg) qf zo) zn)))
   (qe (qz (i:=2) qg1.nd Z (Ay Z) (qax qjy (by rfl) T.kZ qeb (qb (qcb qav (zb qau (zb qa7 (zf (qcs T) (f.mono Ez) Z T.kG.mgx T.kG.fn.kp T.kG.bd .nil qam (qb (pv 0) (qb qg qf qj) qc)) qg) qg) qg (qac _)) qf qlq)))
   (qe (qz (i:=3) qg1.nd Z (Ay Z) (zf (qii T) (f.mono Ez) Z T.gI.mgx T.gI.fn.kp T.gI.bd .nil qam (qb (zf (qmt T) (f.mono Ez) Z T.gE.mgx T.gE.fn.kp T.gE.bd .nil qam (qb (zf (qcs T) (f.mono Ez) Z T.kG.mgx T.kG.fn.kp T.kG.bd .nil qam (qb (pv 0) (qb (zb qjw qg (pv 2)) qf zo) qc)) (qb qg qf qj) zn)) (qb (zb qa7 (zf (qcs T) (f.mono Ez) Z T.kG.mgx T.kG.fn.kp T.kG.bd .nil qam (qb (pv 0) (qb qg qf qj) qc)) qg) qf zo) zn)))
   (qe (qz (i:=4) qg1.nd Z (Ay Z) (zj qf))
   (qe (qch Bp Z (qd7 Z T.kX (qb (zb qa7 (zg (qjx Z) (by rfl) T.fO qma (qb qg (qb (zg (qnb Z) (by rfl) T.rQ qqe (qb (zb qjw (zg qa5 (by rfl) T.kH qa2 (qb (pv 0) qf qc)) qg) (qb qg qf qj) zo)) qf zn) qj)) qg) qf zo)) (qaj (i:=5) qg1.nd Z (Ay Z)) (qh (ze (qu qlg (pv 5) (zb qau (zb qa7 (zf (qcs T) (f.mono Ez) Z T.kG.mgx T.kG.fn.kp T.kG.bd .nil qam (qb (pv 0) (qb qg qf qj) qc)) qg) qg) (qac _)) (qh (zd (qcd AJ AQ AR qbd (pv 4) (qb (zf (qyg T) (f.mono Ez) Z T.bE.mgx T.bE.fn.kp T.bE.bd .nil qam (qb (pv 0) (qb (pv 5) (qb (pv 1) (qb (pv 3) qf qc) qc) qc) qc)) qf zn)))) qad)))
   (qe (qz (i:=6) qg1.nd Z (Ay Z) (qcd B6 CN CO qi7 zi (qb (pv 4) qf qc)))
   (qe (ze (qu qav (pv 6) zi (qac _)) (qh (qz (i:=4) qg1.nd Z (Ay Z) (zj qf))) qad)
   (qe (qz (i:=7) qg1.nd Z (Ay Z) (zj qf))
   (qe (qz (i:=8) qg1.nd Z (Ay Z) (zf (qyh T) (f.mono Ez) Z T.bF.mgx T.bF.fn.kp T.bF.bd .nil qam (qb (pv 4) (qb (pv 7) qf qc) qc)))
   (qe (ze (qu qct (pv 8) qas (qac _)) (qh (qk (zf (qsf T) (f.mono Ez) Z T.dX.mgx T.dX.fn.kp T.dX.bd .nil qam (qb (pv 6) (qb (zr zt (pv 8) qg (λ_ _=>rfl)) (qb (zr zt (pv 8) qg (λ_ _=>rfl)) qf zp) zp) qc)))) qad)
   (qe (qz (i:=9) qg1.nd Z (Ay Z) (zf (qsh T) (f.mono Ez) Z T.bN.mgx T.bN.fn.kp T.bN.bd .nil qam (qb (pv 7) qf qc)))
   (qe (qz (i:=10) qg1.nd Z (Ay Z) (zf (qn9 T) (f.mono Ez) Z T.gL.mgx T.gL.fn.kp T.gL.bd .nil qam (qb (pv 6) qf qc)))
   (qe (ze (qu qfe (pv 9) qas (qac _)) (qh (qk (zf (qqx T) (f.mono Ez) Z T.dE.mgx T.dE.fn.kp T.dE.bd .nil qam (qb (pv 10) (qb (pv 7) qf qc) qc)))) qad)
   (qh (qk (qd9 (qcb (op_eqT f.units0) (pv 10) (zm (qb zi (qb qas (qb qdr qf qj) qj) qj)) (qac _)) (qe1 (zf (qqy T) (f.mono Ez) Z T.dW.mgx T.dW.fn.kp T.dW.bd .nil qam (qb (pv 6) (qb (pv 7) (qb (pv 9) qf qc) qc) qc))))))))))))))))))),?_⟩
  refine(nmc Z ⟨_,_,_,Z,B,Ez,?_⟩);dsimp only[];refine⟨_,4,Z,.inl Ez,λp1 H1 ar n1 s1 e1 l1 bi br=>?_⟩;refine(nmc Z ⟨_,_,_,Z,s1.seq B,Ez,(icc Z Z ⟨Ez,Ez⟩ ?_)⟩);dsimp only[];refine⟨p1,_,ar,Z,e1,bi,br,by lia,λp2 H2 af s2 e2 l2 bt ax=>?_⟩;have ac:=s1.trans s2;refine(nmc Z ⟨_,_,_,Z,ac.seq B,Ez,(icc Z Z ⟨Ez,Ez⟩ (icc Z Z (pos Ez) ⟨Z,.inr ⟨_,Z,?_⟩⟩))⟩);dsimp only[];obtain⟨sm,es,hs0,hs1⟩:∃sm:Int,(if decide (V.int (cell ns 0 / 4 % 3)=V.int 1)=true then (1:Int) else 0)=sm/\0<=sm/\sm<=1:=⟨_,Z,by split <;>decide,by split <;>decide⟩;rw[es];refine(nmc Z (nmc Z (iic Z Z ⟨_,_,_,Z,ac.seq B,by lia,?_⟩)));dsimp only[];refine⟨_,26,Z,.inl Ez,λp3 H3 bf n3 s3 e3 l3 bp bg=>?_⟩;have aq:=ac.trans s3;refine(nmc Z ⟨_,_,_,Z,aq.seq B,Ez,(icc Z Z ⟨Ez,Ez⟩ ?_)⟩);dsimp only[];refine⟨p3,_,bf,Z,e3,bp,bg,by lia,λp4 H4 M s4 e4 l4 au bj=>?_⟩;have ak:=aq.trans s4;have bq:=(s3.trans s4) _ _ e2;refine⟨qem,λS n0=>?_⟩;generalize C:upd H4 S _=H5;obtain⟨s5,e5⟩:=alg C n0;clear C;have bc:=ak.trans s5;have r9:∀L:Int,∃N:Nat,(if (if (62:Int)<L-1 then (62:Int) else L-1) > 0 then (if (62:Int)<L-1 then (62:Int) else L-1) else 0) / 3=(N:Int)/\N<=20:=λL=>by
   by_cases c:(62:Int)<L-1
   .rw[if_pos c,if_pos Ez];exact⟨20,Z,A0 _⟩
   .rw[if_neg c];by_cases c2:L-1 > 0
    .rw[if_pos c2];exact⟨((L-1) / 3).toNat,by lia,by lia⟩
    .rw[if_neg c2];exact⟨0,Z,Ez⟩
  obtain⟨N,eN,hN⟩:=r9 (ns.map V.int).length;have W:=rb (n:=N) (by lia);have wn:WsOk 4 af:=⟨by lia,bt,ax⟩;have wk:WsOk 26 M:=⟨by lia,au,bj⟩;refine(nmc Z ⟨_,_,Z,.inl ⟨_,bc.seq B,Z⟩,(iic Z Z ⟨_,_,Z,_,_,Z,(icc Z Z ⟨Ez,Ez⟩ ⟨(N:Int),congrArg (λz=>[V.int z]) eN,W.1,W.2,qej (lo:=0) (n:=(N:Int).toNat) (λi σ J=>Same H4 J/\∃(g:List Str)(v5:Option V),J S=some (.lst (g.map V.str))/\g.length<=i/\(∀l∈g,OkW 200 l)/\σ=[some (.ref l),some (.ref p2),some (.int sm),some (.ref p4),some (.ref S),v5,none,none,none,none,none]) ⟨s5,[],none,e5,A0 _,(λl hl=>absurd hl Aq),Z⟩ ?_ ?_⟩)⟩)⟩)
  .rintro i σ J hi ⟨O,g,v5,R,hl,u,rfl⟩;rw[Cv]at hi;rw[DH];have sj:=ak.trans O;refine(nmc Z (nmc Z ⟨_,_,_,Z,sj.seq B,Ez,(icc Z Z ⟨Ez,Ez⟩ (icc Z Z (pos Ez) (iic Z Z (nmc Z (qba (λc=>?_) (λc=>⟨O,g,_,R,by lia,u,Z⟩))))))⟩));refine(nmc Z ⟨.inl ⟨Z,_,SqL.of R⟩,(nmc Z (nmc Z (nmc Z (nmc Z ⟨l,p2,p4,i,ns,af,M,Z,sj.seq B,by lia,O _ _ bq,O _ _ e4,wn,wk,λz J2 ai oz=>⟨_,_,_,Z,Z,ai _ _ R,qcz (by rw[Ac];lia),?_⟩⟩))))⟩);refine⟨qao (O.trans ai) n0,g++[z],_,by rw[qi,Av];rfl,by rw[Ag];show _+1<=_;lia,λy hy=>?_,Z⟩;rcases Az.mp hy with hy|hy
   .exact u y hy
   .rw[Ai.mp hy];exact qeo oz Ez
  rintro σ J ⟨O,g,v5,R,hl,u,rfl⟩;rw[Cv]at hl;clear W eN;have jg:=gjoin9 (by lia) u;refine⟨Z,(nmc Z ⟨_,S,g,Z,Z,SqL.of R,jg.1,?_⟩)⟩;rw[jg.2];apply qtg (p:=λ(I:Hp)(v:Option V)=>∃(m:Addr)(b:List Str),v=some (.ref m)/\I m=some (.lst (b.map V.str))/\qco g=qco b/\Lng b/\b.length<=40/\∀l∈b,OkW 200 l)
  .intro ae;refine(nmc Z ⟨Z,(nmc Z (qba (λc=>?_) (λc=>?_)))⟩)
   .have c:=V.str.inj (of_decide_eq_true c);refine⟨qem,λm n7=>?_⟩;generalize C:upd J m _=I;obtain⟨s7,e7⟩:=alg C n7;clear C;have qq:∃(q8:Addr)(b:List Str),some (V.ref m)=some (.ref q8)/\I q8=some (.lst (b.map V.str))/\qco g=qco b/\Lng b/\b.length<=40/\∀l∈b,OkW 200 l:=⟨m,[],Z,e7,c.trans qyb.symm,⟨Ez,(λl hl=>absurd hl Aq),(λz=>nomatch z)⟩,Ez,λl hl=>absurd hl Aq⟩;show qyl _ _ _ [some (.ref l),some (.ref p2),some (.int sm),some (.ref p4),some (.ref m),v5,some (.str (qco g)),none,none,none,none] I;generalize some (V.ref m)=v7 at qq |-;exact ae I v7 qq
   .exact ae J _ ⟨S,g,Z,R,Z,qyc (by lia) u (λz=>c (decide_eq_true (congrArg V.str z))),by lia,u⟩
  rintro I v ⟨m,b,rfl,h7,et,lg,ad,bh⟩;rw[et];refine⟨qem,λd nd=>?_⟩;generalize C:upd I d _=H8;obtain⟨s8,e8⟩:=alg C nd;clear C;refine(nmc Z (nmc Z ⟨m,d,b,Z,s8 _ _ h7,e8,(qg2 nd h7).symm,ad,bh,λrs x H9 As st=>?_,λe G t H9 D=>?_⟩))
  rotate_left
  .exact(nmc Z ⟨Z,(nmc Z (qeu (λz=>nomatch z) (nmc Z (nmc Z (txo (D) Z (nmc Z (txo (D) Z ⟨b,e,Z,lg,G,λH' _=>k H'⟩)))))))⟩)
  refine(nmc Z ⟨Z,(nmc Z (qda Z ?_))⟩);have X:=(gt_read ad x).1;refine(nmc Z ⟨d,rs,As,Z,st,X.l6,X.ba,λq bb os aa bu hg lto=>?_,λno bb aa=>?_⟩)
  .refine(nmc Z ⟨b,Z,lg,λaw j=>?_,λe G=>by rw[x]at G;cases G⟩);rw[x]at j;cases j;refine⟨λam t Y ao F D=>?_,λt ag Y r F D hl U=>by rw[Ac]at U;exact(hg_rg hg U).elim⟩;refine(nmc Z ⟨Z,(nmc Z (qal (λz=>nomatch z) ?_))⟩);refine(nmc Z ⟨fits (show 3<=100000 by decide),λt2 n2=>⟨_,_,_,_,Z,Z,SqT.of (zc n2 _ _ D),SqT.of qi,Z,Z,_,Z,?_⟩⟩);have ah:=F.trans (zc (o:=.tup [.str (wS "read"),.non,.bl true]) n2);refine qby (nmc Z (nmc Z (nmc Z ⟨d,q,b,rs,As,os,Z,lg,x,X,(st.same aa).same ah,ah _ _ bu,hg,λH' _=>k H'⟩)))
  .refine(nmc Z ⟨b,Z,lg,λaw j=>?_,λe G=>by rw[x]at G;cases G⟩);rw[x]at j;cases j;refine⟨λam t Y ao F D=>absurd ao.hg (no am),λt ag Y r F D hl U=>?_⟩;rw[Ac]at U;exact(nmc Z ⟨Z,(nmc Z (qcy Z (nmc Z (nmc Z ⟨t,ag,d,rs,As,r,Z,D,hl,(st.same aa).same F,X.ba,U,X.l6,λH' _=>k H'⟩))))⟩)
end
set_option maxHeartbeats 4000000 in
theorem all_mk {l:PySem.W.OpenLaw}{w:World}{K:Ae}{h:Heap}{mg:Str->Option Value}{fa:Addr}(X:K.In h)(G:h.Ns A8 mg)(hfa:mg "law"=some (.ref fa))
  {E7 E1 Ds FH F1 F2 E8 F8 B2 E2 BT E9 D2 Fu Cl D1 f0 f1 f2 f3 f4 f5 f6 f7 f8 f9 f10 f11 f12:Addr}{IW IJ:Option Addr}{IX:Array (Option Value)}{IY IK IL IM HX IN IO:Value}{f13 f14 f15 f16 f17 f18 f19 f20 f21 f22 f23 f24 f25 f26 f27 f28 f29 f30 f31 f32 f33 f34 f35 f36 f37 f38 f39 f40 f41 f42 f43 f44 f45 f46 f47 f48 f49 f50 f51 f52 f53 f54 f55:Addr}{IZ Ja:Option Addr}{Jb:Array (Option Value)}{Jc Jd Je Jf IV Jg:Value}{GG Hc Hb FY:Tok}{GH:Addr}{IP:Option Addr}{IQ:Nat}{IG IH II:Tok}{IR:Array (Option Value)}{GI:Addr}{IS:Option Addr}{IT:Nat}{IU:Array (Option Value)}{FZ:Addr}{HY:Option Addr}{HZ:Nat}{Hf Hh Hi Hj Hk Hl Hm Hn Ho Hq:Tok}{Ia:Array (Option Value)}{G0:Addr}{Ib:Option Addr}{Ic:Nat}{Hr Hs Ht Hu Hv Hw Hx Hy Hz HA:Tok}{Id:Array (Option Value)}{G1:Addr}{Ie:Option Addr}{Ig:Nat}{HC HD HE:Tok}{Ih:Array (Option Value)}{G2:Addr}{Ii:Option Addr}{Ij:Nat}{HF HG HH:Tok}{Ik:Array (Option Value)}{G8:Addr}{Il:Option Addr}{Im:Nat}{HI HJ HK HL HM HN:Tok}{Io:Array (Option Value)}{G9:Addr}{Ip:Option Addr}{Iq:Nat}{HP HQ HR HS:Tok}{Ir:Array (Option Value)}{Ga:Addr}{Iu:Option Addr}{Iv:Nat}{HU HV HW:Tok}{Iw:Array (Option Value)}
  (Gb:AC K A8 "Adrift"=some (some (.ref E7)))(GJ:AC K A8 "Book"=some (some (.ref E1)))(Fv:AC K A8 "CourtError"=some (some (.ref Ds)))(GK:AC K A8 "Full"=some (some (.ref FH)))(Gp:AC K A8 "NoAct"=some (some (.ref F1)))(Gq:AC K A8 "NoDay"=some (some (.ref F2)))(Gc:AC K A8 "NoName"=some (some (.ref E8)))(Gr:AC K A8 "NoRow"=some (some (.ref F8)))(Gd:AC K A8 "NoRule"=some (some (.ref B2)))(FP:AC K A8 "NoTable"=some (some (.ref E2)))(Ge:AC K A8 "NoTerm"=some (some (.ref BT)))(Gf:AC K A8 "Parted"=some (some (.ref E9)))(GL:AC K A8 "Ring"=some (some (.ref D2)))(GM:AC K A8 "Rule"=some (some (.ref Fu)))(Gs:AC K A8 "Twice"=some (some (.ref Cl)))(Gu:AC K A8 "Unfit"=some (some (.ref D1)))(p0:Pd K "is_figure" qj2 f0)(p1:Pd K "is_written_number" qdm f1)(p2:Pd K "number" qoq f2)(p3:Pm K D2 "__init__" "Ring.__init__" qj3 f3)(p4:Pd K "untaken" qly f4)(p5:Pd K "hanging_order" qf0 f5)(p6:Pd K "is_small_letter" qfj f6)(p7:Pd K "is_name" qk4 f7)(p8:Pm K E1 "__init__" "Book.__init__" qj4 f8)(p9:Pd K "lines_of" qlz f9)(p10:Pd K "value_of" ql0 f10)(p11:Pd K "row_of" qor f11)(a12:AW K (.ref Fu) "__init__"=some (some (.ref f12)))(t12:Ct K (.ref f12)=some (.type "function"))(l12:K.lookup f12=some ⟨IY,IW,.func (BB "__init__" "Rule.__init__" (qce qb7) (qbw qb7) (qab qb7) IO IK IL IM IJ HX IN),IX⟩)(c12:Co K HX "Rule.__init__"=true)(k12:Bq K (.ref f12)=true)(pk12:∀(u0 u1 u2 u3 u4 u5 u6 u7 u8:Value)(S:Setting),PySem.W.peek K S (bindArgs (BB "__init__" "Rule.__init__" (qce qb7) (qbw qb7) (qab qb7) IO IK IL IM IJ HX IN) ⟨[u0,u1,u2,u3,u4,u5,u6,u7,u8],[]⟩)=some [(Aa "self",u0),(Aa "name",u1),(Aa "who",u2),(Aa "owes",u3),(Aa "opens",u4),(Aa "base",u5),(Aa "many",u6),(Aa "unit",u7),(Aa "still",u8)])(Fw:∀(u0 u1 u2 u3 u4 u5 u6 u7:Value)(S:Setting),PySem.W.peek K S (bindArgs (BB "__init__" "Rule.__init__" (qce qb7) (qbw qb7) (qab qb7) IO IK IL IM IJ HX IN) ⟨[u0,u1,u2,u3,u4,u5,u6,u7],[]⟩)=some [(Aa "self",u0),(Aa "name",u1),(Aa "who",u2),(Aa "owes",u3),(Aa "opens",u4),(Aa "base",u5),(Aa "many",u6),(Aa "unit",u7),(Aa "still",BE)])(p13:Pm K Cl "__init__" "Twice.__init__" qip f13)(p14:Pm K D1 "__init__" "Unfit.__init__" qiq f14)(p15:Pd K "read_term" qj5 f15)(p16:Pm K BT "__init__" "NoTerm.__init__" qhi f16)(p17:Pm K Fu "all_kinds" "Rule.all_kinds" qeq f17)(p18:Pd K "kinds_in" ql1 f18)(p19:Pd K "is_unfit" qjd f19)(p20:Pd K "read_more" qj6 f20)(p21:Pd K "read_row" ql2 f21)(p22:Pd K "settle_yields" qf1 f22)(p23:Pd K "settle_names" qgj f23)(p24:Pm K B2 "__init__" "NoRule.__init__" qhj f24)(p25:Pd K "read_book" qj7 f25)(p26:Pm K E1 "term_names" "Book.term_names" qfk f26)(p27:Pd K "term_row_shown" qf2 f27)(p28:Pd K "rows_shown" qd5 f28)(p29:Pm K E1 "rule_of" "Book.rule_of" qhk f29)(p30:Pd K "show_book" qj8 f30)(p31:Pd K "_law_cell_at" qir f31)(p32:Pd K "_law_words" qj9 f32)(p33:Pd K "_law_some_kept" qgk f33)(p34:Pd K "_law_sorts" qe8 f34)(p35:Pd K "_law_rows" ql3 f35)(p36:Pd K "_law_told" ql4 f36)(p37:Pd K "_law_right" qka f37)(p38:Pd K "_law_name" ql5 f38)(p39:Pd K "_law_written" qfw f39)(p40:Pd K "_law_good" qje f40)(p41:Pd K "_law_term_row" qhl f41)(p42:Pd K "_law_row" qk5 f42)(p43:Pd K "_law_known" qh7 f43)(p44:Pd K "_law_of" qrm f44)(p45:Pd K "_law_term" ql6 f45)(p46:Pd K "_law_role" ql7 f46)(p47:Pd K "_law_tied" ql8 f47)(p48:Pd K "_law_due" qos f48)(p49:Pd K "_law_climb" qkb f49)(p50:Pd K "_law_order" qkc f50)(p51:Pd K "_law_is_ring" qis f51)(p52:Pm K E1 "hanging" "Book.hanging" qgl f52)(p53:Pm K E1 "act_kinds" "Book.act_kinds" qf3 f53)(p54:Pd K "_law_is_book" qgm f54)(a55:AC K A8 "law"=some (some (.ref f55)))(l55:K.lookup f55=some ⟨Jc,IZ,.func (BB "law" "law" (qce qum) (qbw qum) (qab qum) .none Jd Je Jf Ja IV Jg),Jb⟩)(c55:Co K IV "law"=true)(k55:Bq K (.ref f55)=true)(FI:AC K A8 "ValueError"=some none)(Ix:AC K A8 "all"=some none)(Iy:AC K A8 "any"=some none)(Hd:AC K A8 "bool"=some none)(FN:AC K A8 "enumerate"=some none)(Iz:AC K A8 "int"=some none)(FJ:AC K A8 "isinstance"=some none)(IA:AC K A8 "len"=some none)(He:AC K A8 "list"=some none)(IB:AC K A8 "max"=some none)(IC:AC K A8 "min"=some none)(GN:AC K A8 "range"=some none)(FQ:AC K A8 "reversed"=some none)(ID:AC K A8 "set"=some none)(Gv:AC K A8 "sorted"=some none)(IE:AC K A8 "str"=some none)(IF:AC K A8 "zip"=some none)(F9:AC K A8 "LONGEST_NAME"=some (some (.int 8 GG)))(FO:AC K A8 "MOST_ROWS"=some (some (.int 40 Hc)))(FK:AC K A8 "MOST_TERMS"=some (some (.int 6 Hb)))(E3:AC K A8 "MOST_LONGER_ROWS"=some (some (.int 2 FY)))(GO:AC K A8 "UNITS"=some (some (.ref GH)))(Gw:K.lookup GH=some ⟨.type "tuple",IP,.seq #[.str (Aa "days") IG,.str (Aa "weeks") IH,.str (Aa "court") II] IQ,IR⟩)(GP:AC K A8 "FORMS"=some (some (.ref GI)))(Gx:K.lookup GI=some ⟨.type "tuple",IS,.seq #[.ref FZ,.ref G0,.ref G1,.ref G2,.ref G8,.ref G9,.ref Ga] IT,IU⟩)(FR:K.lookup FZ=some ⟨.type "tuple",HY,.seq #[.str (Aa "term") Hf,.str (Aa "NAME") Hh,.str (Aa "of") Hi,.str (Aa "NAME") Hj,.str (Aa "due") Hk,.str (Aa "NAME") Hl,.str (Aa "from") Hm,.str (Aa "NAME") Hn,.int 40 Ho,.str (Aa "UNIT") Hq] HZ,Ia⟩)(FS:K.lookup G0=some ⟨.type "tuple",Ib,.seq #[.str (Aa "term") Hr,.str (Aa "NAME") Hs,.str (Aa "of") Ht,.str (Aa "NAME") Hu,.str (Aa "due") Hv,.str (Aa "NAME") Hw,.str (Aa "behind") Hx,.str (Aa "NAME") Hy,.int 40 Hz,.str (Aa "UNIT") HA] Ic,Id⟩)(FT:K.lookup G1=some ⟨.type "tuple",Ie,.seq #[.str (Aa "ends") HC,.str (Aa "NAME") HD,.str (Aa "NAME") HE] Ig,Ih⟩)(FU:K.lookup G2=some ⟨.type "tuple",Ii,.seq #[.str (Aa "anew") HF,.str (Aa "NAME") HG,.str (Aa "NAME") HH] Ij,Ik⟩)(FV:K.lookup G8=some ⟨.type "tuple",Il,.seq #[.str (Aa "longer") HI,.str (Aa "NAME") HJ,.str (Aa "NAME") HK,.int 20 HL,.str (Aa "times") HM,.int 3 HN] Im,Io⟩)(FW:K.lookup G9=some ⟨.type "tuple",Ip,.seq #[.str (Aa "still") HP,.str (Aa "NAME") HQ,.str (Aa "NAME") HR,.str (Aa "NAME") HS] Iq,Ir⟩)(FX:K.lookup Ga=some ⟨.type "tuple",Iu,.seq #[.str (Aa "yields") HU,.str (Aa "NAME") HV,.str (Aa "NAME") HW] Iv,Iw⟩)(GQ:qy6 K E1=true)(GR:mkB K E1 f8=true)(GS:xNo K E1 ["name","who","owes","opens","base","many","unit","still","ends","anew","longer","yields","order","by_name","names","at"]=true)(E4:qls K E1 "term_names" f26=true)(Fa:qls K E1 "rule_of" f29=true)(ED:qls K E1 "hanging" f52=true)(El:qls K E1 "act_kinds" f53=true)(Fx:qwa K Ds=true)(Gg:qrd K B2 (some (.ref f24))=true)(Gh:xNo K B2 ["name","who","owes","opens","base","many","unit","still","ends","anew","longer","yields","order","by_name","names","at"]=true)(Gi:qhf K B2 [Ap Ds,BV "ValueError",Ap B2,Ap BT,Ap Cl,Ap D1,Ap D2] [true,true,true,false,false,false,false]=true)(Gj:qrd K BT (some (.ref f16))=true)(Gk:xNo K BT ["name","who","owes","opens","base","many","unit","still","ends","anew","longer","yields","order","by_name","names","at"]=true)(Gm:qhf K BT [Ap Ds,BV "ValueError",Ap B2,Ap BT,Ap Cl,Ap D1,Ap D2] [true,true,false,true,false,false,false]=true)(GU:qrd K D2 (some (.ref f3))=true)(GV:xNo K D2 ["name","who","owes","opens","base","many","unit","still","ends","anew","longer","yields","order","by_name","names","at"]=true)(GW:qhf K D2 [Ap Ds,BV "ValueError",Ap B2,Ap BT,Ap Cl,Ap D1,Ap D2] [true,true,false,false,false,false,true]=true)(GX:qy6 K Fu=true)(GY:mkB K Fu f12=true)(GZ:xNo K Fu ["name","who","owes","opens","base","many","unit","still","ends","anew","longer","yields","order","by_name","names","at"]=true)(Em:qls K Fu "all_kinds" f17=true)(Gy:qrd K Cl (some (.ref f13))=true)(Gz:xNo K Cl ["name","who","owes","opens","base","many","unit","still","ends","anew","longer","yields","order","by_name","names","at"]=true)(GA:qhf K Cl [Ap Ds,BV "ValueError",Ap B2,Ap BT,Ap Cl,Ap D1,Ap D2] [true,true,false,false,true,false,false]=true)(GB:qrd K D1 (some (.ref f14))=true)(GC:xNo K D1 ["name","who","owes","opens","base","many","unit","still","ends","anew","longer","yields","order","by_name","names","at"]=true)(GD:qhf K D1 [Ap Ds,BV "ValueError",Ap B2,Ap BT,Ap Cl,Ap D1,Ap D2] [true,true,false,false,false,true,false]=true)(Gn:qim K B2=true)(Eo:(Ad K (.ref B2) (.ref E7) == some false)=true)(Fb:(Ad K (.ref B2) (.ref FH) == some false)=true)(EE:(Ad K (.ref B2) (.ref F1) == some false)=true)(EF:(Ad K (.ref B2) (.ref F2) == some false)=true)(Ep:(Ad K (.ref B2) (.ref E8) == some false)=true)(EG:(Ad K (.ref B2) (.ref F8) == some false)=true)(Es:(Ad K (.ref B2) (.ref B2) == some true)=true)(E5:(Ad K (.ref B2) (.ref E2) == some false)=true)(Et:(Ad K (.ref B2) (.ref BT) == some false)=true)(Eu:(Ad K (.ref B2) (.ref E9) == some false)=true)(Fc:(Ad K (.ref B2) (.ref D2) == some false)=true)(EH:(Ad K (.ref B2) (.ref Cl) == some false)=true)(EI:(Ad K (.ref B2) (.ref D1) == some false)=true)(Go:qim K BT=true)(Ev:(Ad K (.ref BT) (.ref E7) == some false)=true)(Fd:(Ad K (.ref BT) (.ref FH) == some false)=true)(EJ:(Ad K (.ref BT) (.ref F1) == some false)=true)(EK:(Ad K (.ref BT) (.ref F2) == some false)=true)(Ew:(Ad K (.ref BT) (.ref E8) == some false)=true)(EL:(Ad K (.ref BT) (.ref F8) == some false)=true)(Ex:(Ad K (.ref BT) (.ref B2) == some false)=true)(E6:(Ad K (.ref BT) (.ref E2) == some false)=true)(Ey:(Ad K (.ref BT) (.ref BT) == some true)=true)(EA:(Ad K (.ref BT) (.ref E9) == some false)=true)(Fe:(Ad K (.ref BT) (.ref D2) == some false)=true)(EM:(Ad K (.ref BT) (.ref Cl) == some false)=true)(EN:(Ad K (.ref BT) (.ref D1) == some false)=true)(Ha:qim K D2=true)(Ff:(Ad K (.ref D2) (.ref E7) == some false)=true)(FL:(Ad K (.ref D2) (.ref FH) == some false)=true)(Fy:(Ad K (.ref D2) (.ref F1) == some false)=true)(Fz:(Ad K (.ref D2) (.ref F2) == some false)=true)(Fg:(Ad K (.ref D2) (.ref E8) == some false)=true)(FA:(Ad K (.ref D2) (.ref F8) == some false)=true)(Fh:(Ad K (.ref D2) (.ref B2) == some false)=true)(EO:(Ad K (.ref D2) (.ref E2) == some false)=true)(Fi:(Ad K (.ref D2) (.ref BT) == some false)=true)(Fj:(Ad K (.ref D2) (.ref E9) == some false)=true)(FM:(Ad K (.ref D2) (.ref D2) == some true)=true)(FB:(Ad K (.ref D2) (.ref Cl) == some false)=true)(FC:(Ad K (.ref D2) (.ref D1) == some false)=true)(GE:qim K Cl=true)(EQ:(Ad K (.ref Cl) (.ref E7) == some false)=true)(FD:(Ad K (.ref Cl) (.ref FH) == some false)=true)(Fk:(Ad K (.ref Cl) (.ref F1) == some false)=true)(Fl:(Ad K (.ref Cl) (.ref F2) == some false)=true)(ER:(Ad K (.ref Cl) (.ref E8) == some false)=true)(Fm:(Ad K (.ref Cl) (.ref F8) == some false)=true)(ES:(Ad K (.ref Cl) (.ref B2) == some false)=true)(EB:(Ad K (.ref Cl) (.ref E2) == some false)=true)(ET:(Ad K (.ref Cl) (.ref BT) == some false)=true)(EU:(Ad K (.ref Cl) (.ref E9) == some false)=true)(FE:(Ad K (.ref Cl) (.ref D2) == some false)=true)(Fn:(Ad K (.ref Cl) (.ref Cl) == some true)=true)(Fo:(Ad K (.ref Cl) (.ref D1) == some false)=true)(GF:qim K D1=true)(EV:(Ad K (.ref D1) (.ref E7) == some false)=true)(FF:(Ad K (.ref D1) (.ref FH) == some false)=true)(Fp:(Ad K (.ref D1) (.ref F1) == some false)=true)(Fq:(Ad K (.ref D1) (.ref F2) == some false)=true)(EW:(Ad K (.ref D1) (.ref E8) == some false)=true)(Fr:(Ad K (.ref D1) (.ref F8) == some false)=true)(EY:(Ad K (.ref D1) (.ref B2) == some false)=true)(EC:(Ad K (.ref D1) (.ref E2) == some false)=true)(EZ:(Ad K (.ref D1) (.ref BT) == some false)=true)(F0:(Ad K (.ref D1) (.ref E9) == some false)=true)(FG:(Ad K (.ref D1) (.ref D2) == some false)=true)(Fs:(Ad K (.ref D1) (.ref Cl) == some false)=true)(Ft:(Ad K (.ref D1) (.ref D1) == some true)=true)
  : ∃fd:AA,(∀(s:Af)(v:Value),BindsTo s fd ⟨[v],[]⟩ [("_law_script",v)])/\∀base:Heap,K.In base->base.Ns A8 mg->FnOk l.prog w K mg base CX0 10 fa fd ["_law_script"] (qs8 K):=by
 have e:=hfa.symm.trans (Bb X G a55);cases e;obtain⟨g0,d0⟩:=qa8 X G p0 (ps:=["sign"]) λ_ _ _ _ _ _=>qfl λ_=>rfl;obtain⟨g1,d1⟩:=qa8 X G p1 (ps:=["text","most_figures"]) λ_ _ _ _ _ _=>qgn λ_ _=>rfl;obtain⟨g2,d2⟩:=qa8 X G p2 (ps:=["text","most"]) λ_ _ _ _ _ _=>qgn λ_ _=>rfl;obtain⟨g3,d3⟩:=qhm p3 (ps:=["self","names"]) λ_ _ _ _ _ _=>qgn λ_ _=>rfl;obtain⟨g4,d4⟩:=qa8 X G p4 (ps:=["name","bases","taken"]) λ_ _ _ _ _ _=>qky λ_ _ _=>rfl;obtain⟨g5,d5⟩:=qa8 X G p5 (ps:=["rules"]) λ_ _ _ _ _ _=>qfl λ_=>rfl;obtain⟨g6,d6⟩:=qa8 X G p6 (ps:=["sign"]) λ_ _ _ _ _ _=>qfl λ_=>rfl;obtain⟨g7,d7⟩:=qa8 X G p7 (ps:=["thing"]) λ_ _ _ _ _ _=>qfl λ_=>rfl;obtain⟨g8,d8⟩:=qhm p8 (ps:=["self","rules"]) λ_ _ _ _ _ _=>qgn λ_ _=>rfl;obtain⟨g9,d9⟩:=qa8 X G p9 (ps:=["text"]) λ_ _ _ _ _ _=>qfl λ_=>rfl;obtain⟨g10,d10⟩:=qa8 X G p10 (ps:=["word","asked"]) λ_ _ _ _ _ _=>qgn λ_ _=>rfl;obtain⟨g11,d11⟩:=qa8 X G p11 (ps:=["line"]) λ_ _ _ _ _ _=>qfl λ_=>rfl;obtain⟨g13,d13⟩:=qhm p13 (ps:=["self","name"]) λ_ _ _ _ _ _=>qgn λ_ _=>rfl;obtain⟨g14,d14⟩:=qhm p14 (ps:=["self","at"]) λ_ _ _ _ _ _=>qgn λ_ _=>rfl;obtain⟨g15,d15⟩:=qa8 X G p15 (ps:=["told","at","row"]) λ_ _ _ _ _ _=>qky λ_ _ _=>rfl;obtain⟨g16,d16⟩:=qhm p16 (ps:=["self","name"]) λ_ _ _ _ _ _=>qgn λ_ _=>rfl;obtain⟨g17,d17⟩:=qhm p17 (ps:=["self"]) λ_ _ _ _ _ _=>qfl λ_=>rfl;obtain⟨g18,d18⟩:=qa8 X G p18 (ps:=["row"]) λ_ _ _ _ _ _=>qfl λ_=>rfl;obtain⟨g19,d19⟩:=qa8 X G p19 (ps:=["rule","row"]) λ_ _ _ _ _ _=>qgn λ_ _=>rfl;obtain⟨g20,d20⟩:=qa8 X G p20 (ps:=["rule","at","row"]) λ_ _ _ _ _ _=>qky λ_ _ _=>rfl;obtain⟨g21,d21⟩:=qa8 X G p21 (ps:=["told","at","row"]) λ_ _ _ _ _ _=>qky λ_ _ _=>rfl;obtain⟨g22,d22⟩:=qa8 X G p22 (ps:=["told","rule","at","other"]) λ_ _ _ _ _ _=>arg4 λ_ _ _ _=>rfl;obtain⟨g23,d23⟩:=qa8 X G p23 (ps:=["told","at","row"]) λ_ _ _ _ _ _=>qky λ_ _ _=>rfl;obtain⟨g24,d24⟩:=qhm p24 (ps:=["self","at"]) λ_ _ _ _ _ _=>qgn λ_ _=>rfl;obtain⟨g25,d25⟩:=qa8 X G p25 (ps:=["text"]) λ_ _ _ _ _ _=>qfl λ_=>rfl;obtain⟨g26,d26⟩:=qhm p26 (ps:=["self"]) λ_ _ _ _ _ _=>qfl λ_=>rfl;obtain⟨g27,d27⟩:=qa8 X G p27 (ps:=["rule"]) λ_ _ _ _ _ _=>qfl λ_=>rfl;obtain⟨g28,d28⟩:=qa8 X G p28 (ps:=["rule"]) λ_ _ _ _ _ _=>qfl λ_=>rfl;obtain⟨g29,d29⟩:=qhm p29 (ps:=["self","name"]) λ_ _ _ _ _ _=>qgn λ_ _=>rfl;obtain⟨g30,d30⟩:=qa8 X G p30 (ps:=["book"]) λ_ _ _ _ _ _=>qfl λ_=>rfl;obtain⟨g31,d31⟩:=qa8 X G p31 (ps:=["_law_script","_law_k"]) λ_ _ _ _ _ _=>qgn λ_ _=>rfl;obtain⟨g32,d32⟩:=qa8 X G p32 (ps:=["_law_cell","_law_many"]) λ_ _ _ _ _ _=>qgn λ_ _=>rfl;obtain⟨g33,d33⟩:=qa8 X G p33 (ps:=["_law_words_here","_law_cell"]) λ_ _ _ _ _ _=>qgn λ_ _=>rfl;obtain⟨g34,d34⟩:=qa8 X G p34 (ps:=["_law_rule"]) λ_ _ _ _ _ _=>qfl λ_=>rfl;obtain⟨g35,d35⟩:=qa8 X G p35 (ps:=["_law_rule"]) λ_ _ _ _ _ _=>qfl λ_=>rfl;obtain⟨g36,d36⟩:=qa8 X G p36 (ps:=["_law_text"]) λ_ _ _ _ _ _=>qfl λ_=>rfl;obtain⟨g37,d37⟩:=qa8 X G p37 (ps:=["_law_text","_law_word","_law_field"]) λ_ _ _ _ _ _=>qky λ_ _ _=>rfl;obtain⟨g38,d38⟩:=qa8 X G p38 (ps:=["_law_word"]) λ_ _ _ _ _ _=>qfl λ_=>rfl;obtain⟨g39,d39⟩:=qa8 X G p39 (ps:=["_law_word","_law_most"]) λ_ _ _ _ _ _=>qgn λ_ _=>rfl;obtain⟨g40,d40⟩:=qa8 X G p40 (ps:=["_law_words_here"]) λ_ _ _ _ _ _=>qfl λ_=>rfl;obtain⟨g41,d41⟩:=qa8 X G p41 (ps:=["_law_cells","_law_name_here","_law_names","_law_kinds","_law_many"]) λ_ _ _ _ _ _=>arg5 λ_ _ _ _ _=>rfl;obtain⟨g42,d42⟩:=qa8 X G p42 (ps:=["_law_script","_law_k","_law_names","_law_kinds"]) λ_ _ _ _ _ _=>arg4 λ_ _ _ _=>rfl;obtain⟨g43,d43⟩:=qa8 X G p43 (ps:=["_law_rule"]) λ_ _ _ _ _ _=>qfl λ_=>rfl;obtain⟨g44,d44⟩:=qa8 X G p44 (ps:=["_law_rules","_law_name_here"]) λ_ _ _ _ _ _=>qgn λ_ _=>rfl;obtain⟨g45,d45⟩:=qa8 X G p45 (ps:=["_law_words_here","_law_rules","_law_at"]) λ_ _ _ _ _ _=>qky λ_ _ _=>rfl;obtain⟨g46,d46⟩:=qa8 X G p46 (ps:=["_law_words_here","_law_rules","_law_at"]) λ_ _ _ _ _ _=>qky λ_ _ _=>rfl;obtain⟨g47,d47⟩:=qa8 X G p47 (ps:=["_law_words_here","_law_rules","_law_at"]) λ_ _ _ _ _ _=>qky λ_ _ _=>rfl;obtain⟨g48,d48⟩:=qa8 X G p48 (ps:=["_law_rows_here","_law_rules"]) λ_ _ _ _ _ _=>qgn λ_ _=>rfl;obtain⟨g49,d49⟩:=qa8 X G p49 (ps:=["_law_rules","_law_name_here","_law_order_here"]) λ_ _ _ _ _ _=>qky λ_ _ _=>rfl;obtain⟨g50,d50⟩:=qa8 X G p50 (ps:=["_law_rules"]) λ_ _ _ _ _ _=>qfl λ_=>rfl;obtain⟨g51,d51⟩:=qa8 X G p51 (ps:=["_law_found","_law_rules"]) λ_ _ _ _ _ _=>qgn λ_ _=>rfl;obtain⟨g52,d52⟩:=qhm p52 (ps:=["self"]) λ_ _ _ _ _ _=>qfl λ_=>rfl;obtain⟨g53,d53⟩:=qhm p53 (ps:=["self"]) λ_ _ _ _ _ _=>qfl λ_=>rfl;obtain⟨g54,d54⟩:=qa8 X G p54 (ps:=["_law_text","_law_rules","_law_order_here"]) λ_ _ _ _ _ _=>qky λ_ _ _=>rfl;have F12:=qy9 (st:=qb7) l12 c12 k12;have b12:Binds K _ ["self","name","who","owes","opens","base","many","unit","still"] []:=qwn (ds:=[]) λus hl S=>match us,hl with | [u0,u1,u2,u3,u4,u5,u6,u7,u8],_=>pk12 u0 u1 u2 u3 u4 u5 u6 u7 u8 S
 have F55:=qq7 (st:=qum) l55 c55 k55;have b55:=F55.binds (ps:=["_law_script"]) λ_ _ _ _ _ _ us hl=>match us,hl with | [_],_=>rfl
 have he_RuleInit_8:Binds K _ ["self","name","who","owes","opens","base","many","unit","still"] [.none]:=qwn λus hl S=>match us,(show us.length=8 by rw[Ag]at hl;exact Nat.add_right_cancel hl) with | [u0,u1,u2,u3,u4,u5,u6,u7],_=>Fw u0 u1 u2 u3 u4 u5 u6 u7 S
 have T:Txt K mg {lI:=f0,mF:=g0,rC:=f1,pL:=g1,lN:=f2,rO:=g2,fT:=f3,pY:=g3,nV:=f4,rK:=g4,r6:=f5,mR:=g5,lZ:=f6,pA:=g6,fZ:=f7,pH:=g7,fH:=f8,nB:=g8,nA:=f9,mS:=g9,mM:=f10,nC:=g10,pO:=f11,nM:=g11,fU:=f12,fF:=_,fG:=f13,nN:=g13,fV:=f14,rP:=g14,pM:=f15,nQ:=g15,fP:=f16,rM:=g16,fX:=f17,hV:=g17,hZ:=f18,lY:=g18,rD:=f19,nU:=g19,mV:=f20,rG:=g20,pU:=f21,mB:=g21,mI:=f22,rL:=g22,mZ:=f23,lG:=g23,fC:=f24,rJ:=g24,lT:=f25,lW:=g25,fK:=f26,pF:=g26,nF:=f27,pB:=g27,pV:=f28,pE:=g28,dZ:=f29,lH:=g29,rA:=f30,mJ:=g30,pS:=f31,mW:=g31,m7:=f32,nH:=g32,nG:=f33,nR:=g33,r8:=f34,rR:=g34,mT:=f35,mH:=g35,m9:=f36,mP:=g36,pP:=f37,pI:=g37,hG:=f38,mO:=g38,nZ:=f39,pR:=g39,mC:=f40,lP:=g40,nO:=f41,lA:=g41,lQ:=f42,pQ:=g42,pW:=f43,mG:=g43,rF:=f44,rN:=g44,lJ:=f45,mY:=g45,pN:=f46,lR:=g46,lU:=f47,mQ:=g47,lC:=f48,lK:=g48,lF:=f49,pX:=g49,mL:=f50,pJ:=g50,nE:=f51,lV:=g51,fN:=f52,mE:=g52,fB:=f53,lO:=g53,mD:=f54,rB:=g54,rH:=fa,rE:=_,gW:=E7,kL:=E1,kQ:=Ds,gU:=FH,gS:=F1,gY:=F2,gN:=E8,gO:=F8,kF:=B2,gT:=E2,kE:=BT,gP:=E9,kC:=D2,k8:=Fu,kD:=Cl,kB:=D1,fM:=GH,bV:=GI,dG:=FZ,dY:=G0,bI:=G1,dO:=G2,dL:=G8,bQ:=G9,bX:=Ga}:={
  dI:=d0,
  bG:=d1,
  bH:=d2,
  fE:=d3,
  dB:=d4,
  dF:=d5,
  bL:=d6,
  dS:=d7,
  nP:=d8,
  bU:=d9,
  bZ:=d10,
  bT:=d11,
  xL:=⟨F12,b12,t12⟩,
  fY:=d13,
  gK:=d14,
  bD:=d15,
  kW:=d16,
  fW:=d17,
  dP:=d18,
  dN:=d19,
  bS:=d20,
  bR:=d21,
  dD:=d22,
  bM:=d23,
  fD:=d24,
  kS:=d25,
  fA:=d26,
  dH:=d27,
  dJ:=d28,
  pG:=d29,
  gD:=d30,
  kG:=d31,
  gE:=d32,
  gI:=d33,
  bK:=d34,
  bP:=d35,
  gL:=d36,
  dX:=d37,
  dC:=d38,
  kT:=d39,
  bJ:=d40,
  gH:=d41,
  bE:=d42,
  gG:=d43,
  kI:=d44,
  dQ:=d45,
  bO:=d46,
  dM:=d47,
  bF:=d48,
  dA:=d49,
  bN:=d50,
  dE:=d51,
  nK:=d52,
  hX:=d53,
  dW:=d54,
  sD:=⟨F55,Bb X G a55,b55⟩,
  sO:=Bb X G Gb,
  tR:=Bb X G GJ,
  kO:=qwg GQ,
  sM:=mk_of GR,
  kY:=GS,
  pK:=qi6 E4,
  xG:=qi6 Fa,
  xX:=qi6 ED,
  xH:=qi6 El,
  kR:=Bb X G Fv,
  bA:=xb_of Fx,
  tW:=Bb X G GK,
  tZ:=Bb X G Gp,
  xQ:=Bb X G Gq,
  yC:=Bb X G Gc,
  xR:=Bb X G Gr,
  lM:=Bb X G Gd,
  kU:=qpy Gg,
  bY:=Gh,
  gX:=Gi,
  y0:=Bb X G FP,
  gQ:=Bb X G Ge,
  kN:=qpy Gj,
  bC:=Gk,
  gZ:=Gm,
  rS:=Bb X G Gf,
  gR:=Bb X G GL,
  gM:=qpy GU,
  nW:=GV,
  mU:=GW,
  sI:=Bb X G GM,
  k9:=qwg GX,
  xY:=mk_of GY,
  kA:=GZ,
  pC:=qi6 Em,
  dU:=Bb X G Gs,
  gJ:=qpy Gy,
  mK:=Gz,
  bW:=GA,
  gF:=Bb X G Gu,
  kM:=qpy GB,
  gB:=GC,
  fL:=GD,
  fQ:=qp0 Gn,
  sP:=beq_iff_eq.mp Eo,
  tH:=beq_iff_eq.mp Fb,
  xZ:=beq_iff_eq.mp EE,
  xS:=beq_iff_eq.mp EF,
  sU:=beq_iff_eq.mp Ep,
  yG:=beq_iff_eq.mp EG,
  sT:=beq_iff_eq.mp Es,
  xE:=beq_iff_eq.mp E5,
  yO:=beq_iff_eq.mp Et,
  sV:=beq_iff_eq.mp Eu,
  yL:=beq_iff_eq.mp Fc,
  yS:=beq_iff_eq.mp EH,
  yN:=beq_iff_eq.mp EI,
  dR:=qp0 Go,
  y6:=beq_iff_eq.mp Ev,
  yB:=beq_iff_eq.mp Fd,
  xB:=beq_iff_eq.mp EJ,
  xD:=beq_iff_eq.mp EK,
  yF:=beq_iff_eq.mp Ew,
  tT:=beq_iff_eq.mp EL,
  tD:=beq_iff_eq.mp Ex,
  sS:=beq_iff_eq.mp E6,
  tE:=beq_iff_eq.mp Ey,
  xF:=beq_iff_eq.mp EA,
  yP:=beq_iff_eq.mp Fe,
  yU:=beq_iff_eq.mp EM,
  yR:=beq_iff_eq.mp EN,
  yE:=qp0 Ha,
  sK:=beq_iff_eq.mp Ff,
  sC:=beq_iff_eq.mp FL,
  xC:=beq_iff_eq.mp Fy,
  tS:=beq_iff_eq.mp Fz,
  sG:=beq_iff_eq.mp Fg,
  xP:=beq_iff_eq.mp FA,
  tN:=beq_iff_eq.mp Fh,
  tJ:=beq_iff_eq.mp EO,
  rV:=beq_iff_eq.mp Fi,
  rY:=beq_iff_eq.mp Fj,
  tI:=beq_iff_eq.mp FM,
  tG:=beq_iff_eq.mp FB,
  xJ:=beq_iff_eq.mp FC,
  sX:=qp0 GE,
  tU:=beq_iff_eq.mp EQ,
  tK:=beq_iff_eq.mp FD,
  sW:=beq_iff_eq.mp Fk,
  sZ:=beq_iff_eq.mp Fl,
  yD:=beq_iff_eq.mp ER,
  yI:=beq_iff_eq.mp Fm,
  tL:=beq_iff_eq.mp ES,
  yK:=beq_iff_eq.mp EB,
  tO:=beq_iff_eq.mp ET,
  rZ:=beq_iff_eq.mp EU,
  yM:=beq_iff_eq.mp FE,
  tY:=beq_iff_eq.mp Fn,
  yQ:=beq_iff_eq.mp Fo,
  gC:=qp0 GF,
  xN:=beq_iff_eq.mp EV,
  tX:=beq_iff_eq.mp FF,
  xU:=beq_iff_eq.mp Fp,
  xA:=beq_iff_eq.mp Fq,
  xV:=beq_iff_eq.mp EW,
  tP:=beq_iff_eq.mp Fr,
  rT:=beq_iff_eq.mp EY,
  xO:=beq_iff_eq.mp EC,
  xI:=beq_iff_eq.mp EZ,
  yJ:=beq_iff_eq.mp F0,
  yT:=beq_iff_eq.mp FG,
  xM:=beq_iff_eq.mp Fs,
  xK:=beq_iff_eq.mp Ft,
  rW:=he_RuleInit_8,
  bB:=Bd X G FI,
  fS:=Bd X G Ix,
  sR:=Bd X G Iy,
  yH:=Bd X G Hd,
  pZ:=Bd X G FN,
  kZ:=Bd X G Iz,
  kK:=Bd X G FJ,
  kH:=Bd X G IA,
  gA:=Bd X G He,
  fO:=Bd X G IB,
  rQ:=Bd X G IC,
  kX:=Bd X G GN,
  nJ:=Bd X G FQ,
  lE:=Bd X G ID,
  lD:=Bd X G Gv,
  kP:=Bd X G IE,
  sY:=Bd X G IF,
  rU:=⟨_,Bb X G F9⟩,
  y9:=⟨_,Bb X G FO⟩,
  xT:=⟨_,Bb X G FK⟩,
  rX:=⟨_,Bb X G E3⟩,
  xW:=Bb X G GO,tM:=λH=>.inr ⟨_,_,_,Gw,rfl,rfl,by show 3<=A4;rw[Bl];decide,.cons ⟨_,rfl⟩ (.cons ⟨_,rfl⟩ (.cons ⟨_,rfl⟩ (.nil)))⟩,
  sL:=Bb X G GP,pT:=λH=>.inr ⟨_,_,_,Gx,rfl,rfl,by show 7<=A4;rw[Bl];decide,.cons rfl (.cons rfl (.cons rfl (.cons rfl (.cons rfl (.cons rfl (.cons rfl (.nil)))))))⟩,
  tF:=λH=>.inr ⟨_,_,_,FR,rfl,rfl,by show 10<=A4;rw[Bl];decide,.cons ⟨_,rfl⟩ (.cons ⟨_,rfl⟩ (.cons ⟨_,rfl⟩ (.cons ⟨_,rfl⟩ (.cons ⟨_,rfl⟩ (.cons ⟨_,rfl⟩ (.cons ⟨_,rfl⟩ (.cons ⟨_,rfl⟩ (.cons ⟨_,rfl⟩ (.cons ⟨_,rfl⟩ (.nil))))))))))⟩,
  sQ:=λH=>.inr ⟨_,_,_,FS,rfl,rfl,by show 10<=A4;rw[Bl];decide,.cons ⟨_,rfl⟩ (.cons ⟨_,rfl⟩ (.cons ⟨_,rfl⟩ (.cons ⟨_,rfl⟩ (.cons ⟨_,rfl⟩ (.cons ⟨_,rfl⟩ (.cons ⟨_,rfl⟩ (.cons ⟨_,rfl⟩ (.cons ⟨_,rfl⟩ (.cons ⟨_,rfl⟩ (.nil))))))))))⟩,
  sN:=λH=>.inr ⟨_,_,_,FT,rfl,rfl,by show 3<=A4;rw[Bl];decide,.cons ⟨_,rfl⟩ (.cons ⟨_,rfl⟩ (.cons ⟨_,rfl⟩ (.nil)))⟩,
  yA:=λH=>.inr ⟨_,_,_,FU,rfl,rfl,by show 3<=A4;rw[Bl];decide,.cons ⟨_,rfl⟩ (.cons ⟨_,rfl⟩ (.cons ⟨_,rfl⟩ (.nil)))⟩,
  tV:=λH=>.inr ⟨_,_,_,FV,rfl,rfl,by show 6<=A4;rw[Bl];decide,.cons ⟨_,rfl⟩ (.cons ⟨_,rfl⟩ (.cons ⟨_,rfl⟩ (.cons ⟨_,rfl⟩ (.cons ⟨_,rfl⟩ (.cons ⟨_,rfl⟩ (.nil))))))⟩,
  tQ:=λH=>.inr ⟨_,_,_,FW,rfl,rfl,by show 4<=A4;rw[Bl];decide,.cons ⟨_,rfl⟩ (.cons ⟨_,rfl⟩ (.cons ⟨_,rfl⟩ (.cons ⟨_,rfl⟩ (.nil))))⟩,
  sF:=λH=>.inr ⟨_,_,_,FX,rfl,rfl,by show 3<=A4;rw[Bl];decide,.cons ⟨_,rfl⟩ (.cons ⟨_,rfl⟩ (.cons ⟨_,rfl⟩ (.nil)))⟩}
 exact⟨_,λs v=>.of_eq rfl,λbase _ _=>okLaw T⟩
theorem walk {l:PySem.W.OpenLaw}{q:AK}{loose:List Str}{XP:(Str->Option Value)->Heap->Prop}{YP:World->Heap->Prop}{d:DefRec}{K:Params->Ae}(hn:l.most=some 63)(hdf:d.params.defaults=[])
  (hY:∀(w:World)(h:Heap),YP w h->(K w.params).In h)
  (F:∀(w:World)(mg:Str->Option Value)(fa:Addr)(h:Heap),(K w.params).In h->h.Ns A8 mg->mg d.name=some (.ref fa) ->
   ∃fd:AA,(∀(s:Af)(u:Value),BindsTo s fd ⟨[u],[]⟩ [("_law_script",u)])/\∀base:Heap,(K w.params).In base->base.Ns A8 mg->FnOk l.prog w (K w.params) mg base CX0 10 fa fd ["_law_script"] (qs8 (K w.params))) :
  PySem.W.WalkO q loose XP YP l.row.toRowW d [] (λf vs=>PySem.call f vs) :=
 L2.walk_of (n:=63) (k:=10) (x := "_law_script") (CX:=λ_=>CX0) (sp:=λw=>qs8 (K w.params)) hn Ez hdf ⟨rfl,Ez,Ez⟩ hY F (λ_ _ a ns hl _ hS=>⟨a,ns,rfl,hS,hl,λ_=>rfl⟩) λ_ _ _ _ _ z=>z
end K49
namespace PySem.W.Fast
def tw15154402081611801092:=()
def tw8846272943910820411:=()
def tw11212616305644519099:=()
def tw4219270776103240386:=()
def tw16055784895648034710:=()
def tw16149061397383557783:=()
def tw9965433221727378404:=()
def tw4697514531829775433:=()
def tw16204797414080673437:=()
def tw5374960168982244324:=()
def tw9125205701540996892:=()
def tw2503023747032458564:=()
def tw10722786168477244886:=()
def tw2497036956068198025:=()
def tw15182863520462902916:=()
def tw9868580701544645488:=()
def tw4153579315233625794:=()
def tw15782917425386954534:=()
def tw5721213635736853990:=()
def tw12161555853148474635:=()
def tw6699580115999264134:=()
def tw17344386671945516941:=()
def tw10961433634329003699:=()
def tw3537731385104519899:=()
def tw15637379422780642056:=()
def tw3302315261395745769:=()
def tw16424784529163207710:=()
def tw4455557847663816513:=()
def tw14906527592495251111:=()
def tw8527900017450794348:=()
def tw2075820872864957201:=()
def tw9859810663395256529:=()
def tw9555361866763336000:=()
def tw14402184065359197224:=()
def tw9795170520273753200:=()
def tw6278204671899711435:=()
def tw6623649688408871455:=()
def tw3149252781175590085:=()
def tw6053742756285328533:=()
def tw5706515167348054171:=()
def tw18404167178558572740:=()
def tw10899237297497463352:=()
def tw17936754104396512692:=()
def tw1116728313030604489:=()
def tw3420043067626386099:=()
def tw3619327534542005413:=()
def tw4900007794085530240:=()
def tw7453229161420077793:=()
def tw7439147395895533583:=()
def tw2755772364609796129:=()
def tw2883356893569128172:=()
def tw14720355503486762804:=()
def tw5983533550367275611:=()
def tw16187249449527984382:=()
def tw4909501711675695923:=()
def tw16943587524318997763:=()
def tw10808747802587249803:=()
def tw6802491238962169899:=()
def tw7880535476296657583:=()
def tw8256078841455613856:=()
def tw12570442274058670990:=()
def tw6041062867240326631:=()
def tw937047330098477490:=()
def tw10433416415286433704:=()
def tw805364074615247461:=()
def tw16522068343926411673:=()
def tw16420333677706359277:=()
def tw3317957341473045673:=()
def tw3349010357117373313:=()
def tw2139742636938661288:=()
def tw1159309595866145919:=()
def tw4282457446415742883:=()
def tw6255865312681714264:=()
def tw4012272639192783301:=()
def tw1223356203994695886:=()
def tw6081128792175069170:=()
def tw12254232530723531825:=()
def tw10072338054204354560:=()
def tw2158480218813614071:=()
def tw3868648841261415385:=()
def tw867668053257466031:=()
def tw3958130252876358674:=()
def tw18176888274139640477:=()
def tw18018955875067735577:=()
def tw14704680910938239912:=()
def tw2970506149872461249:=()
def tw772263049488556387:=()
def tw16026200921081812999:=()
def tw5784907819136643411:=()
def tw16586878141181713317:=()
def tw12416610294302123224:=()
def tw17062821193967725814:=()
def tw1961256433562123565:=()
def tw1011183705752970342:=()
def tw13119314984706949588:=()
def tw1805647990871067934:=()
def tw14112274115896082108:=()
def tw12504095117611030087:=()
def tw4404565290037004734:=()
def tw10586474846485889901:=()
def tw12043093315169263516:=()
def tw16694559375088625275:=()
def tw11572701282178800319:=()
def tw12578338042077102004:=()
def tw6386511501004871195:=()
def tw2643653937128950789:=()
def tw7345822143235891231:=()
def tw11585026959870739746:=()
def tw13067072683424615477:=()
def tw14271049542776249421:=()
def tw7384644918753746212:=()
def tw144365427688334123:=()
def tw13634405767954444108:=()
def tw1734527756643248766:=()
def tw6261054357930439826:=()
def tw7837385300069328656:=()
def tw13981679715674934795:=()
def tw6173431589401549583:=()
def tw11746714691650905611:=()
def tw16253081079896744263:=()
def tw1420923577495359428:=()
def tw3617363691636541368:=()
def tw8994853666996641592:=()
def tw6565764742952987308:=()
def tw18339517152474997592:=()
def tw2808691535207289927:=()
def tw7404077726995167288:=()
def tw6624694749459236000:=()
def tw2107925882880347953:=()
def tw10296120884463024750:=()
def tw16143554330848165414:=()
def tw12190763514962698977:=()
def tw12511027901162666935:=()
def tw2251050898259103210:=()
def tw8985171753716284105:=()
def tw11387045789739169963:=()
def tw1797472625791386664:=()
def tw3320161521543734275:=()
def tw8552908533250703191:=()
def tw15640970214550751814:=()
def tw6663149765684121204:=()
def tw17496175826217552483:=()
def tw10707483689282355576:=()
def tw12713622395831008955:=()
def tw10474036754624673474:=()
def tw12153803930417064077:=()
def tw578907436063558286:=()
def tw11114869080842131976:=()
def tw17533941678080391396:=()
def tw11318317551324846888:=()
def tw7867765047031884238:=()
def tw8393997441088294169:=()
def tw16789237223853592836:=()
def tw12340879089948625636:=()
def tw1835968771739049641:=()
def tw11485639942007317847:=()
def tw988653570427366386:=()
def tw8723539761509613984:=()
def tw12063263720889248003:=()
def tw1099125258288004516:=()
def tw9276404884645684012:=()
def tw6414541862694225661:=()
def tw2821452917440327899:=()
def tw10424574477089076682:=()
def tw11499774506873844493:=()
def tw1484608251354844138:=()
def tw5516974101103220553:=()
def tw16105727506487153810:=()
end PySem.W.Fast
open PySem PySem.W PyProof.Rows
set_option maxRecDepth 100000 in
set_option maxHeartbeats 0 in
theorem PySem.Challenge.cw_termcourt_k49_whole_books_holds : PySem.Challenge.rw_termcourt_k49_whole_books.Holds := by
 w_on; o_law; k_head; (case hw=>w_witness2)
 k_fill
 refine K49.walk (l:=PySem.Challenge.rw_termcourt_k49_whole_books) rfl rfl (λw h Y=>PySem.W.kIn_of Y) ?F
 case F =>
  intro w mg fa h KX G hmg
  refine' K49.all_mk KX G hmg ?Gb ?GJ ?Fv ?GK ?Gp ?Gq ?Gc ?Gr ?Gd ?FP ?Ge ?Gf ?GL ?GM ?Gs ?Gu ?p0 ?p1 ?p2 ?p3 ?p4 ?p5 ?p6 ?p7 ?p8 ?p9 ?p10 ?p11 ?a12 ?t12 ?l12 ?c12 ?k12 ?pk12 ?Fw ?p13 ?p14 ?p15 ?p16 ?p17 ?p18 ?p19 ?p20 ?p21 ?p22 ?p23 ?p24 ?p25 ?p26 ?p27 ?p28 ?p29 ?p30 ?p31 ?p32 ?p33 ?p34 ?p35 ?p36 ?p37 ?p38 ?p39 ?p40 ?p41 ?p42 ?p43 ?p44 ?p45 ?p46 ?p47 ?p48 ?p49 ?p50 ?p51 ?p52 ?p53 ?p54 ?a55 ?l55 ?c55 ?k55 ?FI ?Ix ?Iy ?Hd ?FN ?Iz ?FJ ?IA ?He ?IB ?IC ?GN ?FQ ?ID ?Gv ?IE ?IF ?F9 ?FO ?FK ?E3 ?GO ?Gw ?GP ?Gx ?FR ?FS ?FT ?FU ?FV ?FW ?FX ?GQ ?GR ?GS ?E4 ?Fa ?ED ?El ?Fx ?Gg ?Gh ?Gi ?Gj ?Gk ?Gm ?GU ?GV ?GW ?GX ?GY ?GZ ?Em ?Gy ?Gz ?GA ?GB ?GC ?GD ?Gn ?Eo ?Fb ?EE ?EF ?Ep ?EG ?Es ?E5 ?Et ?Eu ?Fc ?EH ?EI ?Go ?Ev ?Fd ?EJ ?EK ?Ew ?EL ?Ex ?E6 ?Ey ?EA ?Fe ?EM ?EN ?Ha ?Ff ?FL ?Fy ?Fz ?Fg ?FA ?Fh ?EO ?Fi ?Fj ?FM ?FB ?FC ?GE ?EQ ?FD ?Fk ?Fl ?ER ?Fm ?ES ?EB ?ET ?EU ?FE ?Fn ?Fo ?GF ?EV ?FF ?Fp ?Fq ?EW ?Fr ?EY ?EC ?EZ ?F0 ?FG ?Fs ?Ft
  (case Gb|GJ|Fv|GK|Gp|Gq|Gc|Gr|Gd|FP|Ge|Gf|GL|GM|Gs|Gu=>k_is)
  (case p0|p1|p2=>refine' K49.pd_of ?pa ?pl ?pc ?pk; (case pa|pl|pc|pk=>k_is))
  (case p3=>refine' K49.pm_of ?pa ?pt ?pl ?pc ?pk; (case pa|pt|pl|pc|pk=>k_is))
  (case p4|p5|p6|p7=>refine' K49.pd_of ?pa ?pl ?pc ?pk; (case pa|pl|pc|pk=>k_is))
  (case p8=>refine' K49.pm_of ?pa ?pt ?pl ?pc ?pk; (case pa|pt|pl|pc|pk=>k_is))
  (case p9|p10|p11=>refine' K49.pd_of ?pa ?pl ?pc ?pk; (case pa|pl|pc|pk=>k_is))
  (case a12|t12|l12|c12|k12=>k_is)
  (case pk12|Fw=>intros; kernel_rfl)
  (case p13|p14=>refine' K49.pm_of ?pa ?pt ?pl ?pc ?pk; (case pa|pt|pl|pc|pk=>k_is))
  (case p15=>refine' K49.pd_of ?pa ?pl ?pc ?pk; (case pa|pl|pc|pk=>k_is))
  (case p16|p17=>refine' K49.pm_of ?pa ?pt ?pl ?pc ?pk; (case pa|pt|pl|pc|pk=>k_is))
  (case p18|p19|p20|p21|p22|p23=>refine' K49.pd_of ?pa ?pl ?pc ?pk; (case pa|pl|pc|pk=>k_is))
  (case p24=>refine' K49.pm_of ?pa ?pt ?pl ?pc ?pk; (case pa|pt|pl|pc|pk=>k_is))
  (case p25=>refine' K49.pd_of ?pa ?pl ?pc ?pk; (case pa|pl|pc|pk=>k_is))
  (case p26=>refine' K49.pm_of ?pa ?pt ?pl ?pc ?pk; (case pa|pt|pl|pc|pk=>k_is))
  (case p27|p28=>refine' K49.pd_of ?pa ?pl ?pc ?pk; (case pa|pl|pc|pk=>k_is))
  (case p29=>refine' K49.pm_of ?pa ?pt ?pl ?pc ?pk; (case pa|pt|pl|pc|pk=>k_is))
  (case p30|p31|p32|p33|p34|p35|p36|p37|p38|p39|p40|p41|p42|p43|p44|p45|p46|p47|p48|p49|p50|p51=>refine' K49.pd_of ?pa ?pl ?pc ?pk; (case pa|pl|pc|pk=>k_is))
  (case p52|p53=>refine' K49.pm_of ?pa ?pt ?pl ?pc ?pk; (case pa|pt|pl|pc|pk=>k_is))
  (case p54=>refine' K49.pd_of ?pa ?pl ?pc ?pk; (case pa|pl|pc|pk=>k_is))
  (case a55|l55|c55|k55|FI|Ix|Iy|Hd|FN|Iz|FJ|IA|He|IB|IC|GN|FQ|ID|Gv|IE|IF|F9|FO|FK|E3|GO|Gw|GP|Gx|FR|FS|FT|FU|FV|FW|FX=>k_is)
  (case GQ|GR|GS|E4|Fa|ED|El|Fx|Gg|Gh|Gi|Gj|Gk|Gm|GU|GV|GW|GX|GY|GZ|Em|Gy|Gz|GA|GB|GC|GD|Gn|Eo|Fb|EE|EF|Ep|EG|Es|E5|Et|Eu|Fc|EH|EI|Go|Ev|Fd|EJ|EK|Ew|EL|Ex|E6|Ey|EA|Fe|EM|EN|Ha|Ff|FL|Fy|Fz|Fg|FA|Fh|EO|Fi|Fj|FM|FB|FC|GE|EQ|FD|Fk|Fl|ER|Fm|ES|EB|ET|EU|FE|Fn|Fo|GF|EV|FF|Fp|Fq|EW|Fr|EY|EC|EZ|F0|FG|Fs|Ft=>kernel_rfl)
