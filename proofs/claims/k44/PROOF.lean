import PyProof.Rows.All
import Wide.All
import OpenK.AllK
import Wide.FinOn
import Lean
import PyProof.EqAt
import PyProof.EqKinds
import PyProof.TupleCall
import PySem.Challenge.RW_termcourt_k44_rows_refused
set_option Elab.async false
set_option linter.all false
set_option maxRecDepth 100000
/-! THE HAND LAYER,for ints,bools,texts,own classes,LISTS and tuples (index,slices,in,append,pop ..),calls,loops. Paste it whole ahead of your own text; what your proof does not reach may be deleted. -/
local macro_rules|`(En)=>`(by decide +kernel)|`(Ez)=>`(by decide)
open PySem.Str renaming ofString->Aa,cps_append->CS,join->Dw
open List renaming length_map->Ab,getElem?_eq_some_iff->Af,length_append->Ag,mem_singleton->Ai,getElem?_eq_getElem->Aj,mem_cons_self->Ak,getElem?_map->An,mem_cons->Ao,length_take->Ap,length_cons->Aq,not_mem_nil->Ar,mem_cons_of_mem->At,size_toArray->Av,mem_of_getElem?->Aw,mem_append->Ax,map_append->Ay,map_cons->A6,length_drop->AB,mem_append_right->AE,append_assoc->AG,mem_map->AI,getElem?_append_right->AL,nodup_append->AO,all_eq_true->AQ,map_map->AR,getElem?_append_left->AS,getD_eq_getElem?_getD->AU,nodup_cons->AW,cons_append->AY,nil_append->Bd,range->Bh,mem_append_left->Bi,getElem?_of_mem->Bj,flatMap_cons->Bk,take_append_drop->Bl,flatMap_append->Bp,getElem?_set_self->Bq,take_of_length_le->Bs,mem_of_mem_take->Bu,getElem_mem->Bv,append_nil->Bw,getElem?_eq_none->By,take_length->B0,take_sublist->B1,map_nil->B4,mem_of_mem_drop->B5,map_take->B7,length_singleton->B9,contains_iff_mem->BA,lookup_cons->BD,cons_lt_cons_iff->BN,mem_flatMap->BS,ext_getElem?->BY,length_set->Cb,Nodup->Cd,getElem?_set->Ck,length_range->Cm,length_nil->Cn,getElem?_eq_none_iff->Co,drop_eq_getElem_cons->Cp,all_cons->Cr,map_drop->Cs,mem_range->Ct,cons_ne_nil->C3,mem_or_eq_of_mem_set->C9,lookup->CC,take_add_one->CD,count_append->CH,all_map->CY,find?_cons->Dc,length->Dg,contains_eq_mem->Dj,filterMap_cons->Dp,length_reverse->Dr,length_take_le->Dt,getElem?_take_of_lt->Du,any_cons->Dv,mem_filter->Dx,getElem?_drop->D5,take_zero->DD,foldl_append->DE,getElem?_reverse->DH,any_eq_true->DK,filter_cons->DL,take_append->DP,mem_reverse->DQ,getElem?_set_ne->DU,forIn_cons->DW,all_append->Ea,length_pos_iff->Ed,getElem?_range->Ee,findSome?_cons->Ef,mem_filterMap->Ej
open PySem.W renaming exmOne->Ac,Frag->Ae,nsIn->AA,findIn->AK,mg_of->AV,keepIn->Be,mg_none_of->Bm,fnOf->Bx,kitOne->BC,Looks->BG,kia_one->BK,emptyDict->BX,codeIn->Ca,typeIn->Ci,instObj->Cy,hasDictIn->CB,callWith_K->CW,plainGet->Dl,lookIn->D7,specialIn->D8,mroIn->DS,plainGet_of->Ec,isFn->Eh
open PySem renaming wpAny_bind->Ad,Shared->Ah,sizeLine->A0,wpAny_pure->A2,Spec->A4,mainGlobals->A7,FuncData->AD,Builtin->AM,Program->AN,Around->AX,sizeLine_eq->Bf,NameKind->Bo,wpAny_truthy_bool->BF,wpAny_field->BH,wpAny_Call_Name_kw->BJ,PassesOwn->BM,wpAny_mono->BO,wpAny_holding->Cg,wpAny_seqItems->Cj,wpAny_passesOwn->CA,mem_of_lookup->CN,wpAny_getItem_str_slice->CP,wpAny_callSpecial?_slot->CT,wpAny_call->CU,codeAny_mono->CV,wpAny_setField_rec->Da,wpAny_setField->Di,Within->Dk,wpAny_execs_nil->Dy,Paired->Dz,tupleKind_room_in1->D4,wpAny_pyIter_list->D6,wpAny_newObj_type->DA,plainObj_wpAny_Assign_Attribute->DF,call_meets->DJ,wpAny_call_entry->DM,IsPair->DN,wpAny_standAt->DR,codeAny_call_builtin->DV,post_val_or_str->DX,wpAny_loadPart->Ek
open PySem.Value renaming ref->Al,none->BI,type->BW,bool->Ei
open PySem.Heap renaming get?_push_of_some->Am,lt_size->A3,get?_push_size->A5,get?_update_other->B3,get?_update_self->B8,SameBut->Cq,size_push->Cu
open Nat renaming le_trans->Au,le_refl->A1,lt_of_lt_of_le->A8,ne_of_lt->AJ,zero_le->Bt,le_of_ble_eq_true->Bz,le_of_eq->BQ,lt_irrefl->Cf,le_succ->Cv,ne_of_gt->C0,lt_succ_self->CO,zero_add->Db,sub_self->Dn,succ_le_succ->Do,succ_pos->DC,le_add_right->DO,not_lt_zero->DZ
open Or renaming inl->Az,inr->CK
open Bool renaming false_ne_true->A9,and_eq_true->AC,false_and->BP,eq_iff_iff->Cz,true_and->C2,and_false->CQ,false_eq_true->CZ,eq_false_iff->DB,decide_and->Eb
open Option.some renaming inj->AF
open Array renaming length_toList->AH,getElem?_eq_some_iff->C4,toList_append->Dq,getElem?_toList->DG
open PySem.F renaming plainAttrs_list->AT,slot_list_append->AZ,type_list_append->Ba,plainAttrs_str->Bb,slot_str_split->BU,type_str_split->BV,slot_tuple_iterator_next->C5,slot_str_join->C7,type_str_join->C8,excBase_ValueError->Dh,slot_zip_next->DY
open Ne renaming symm->Bc
open PySem.NameKind renaming free->Bg
open PyProof.Rows renaming callWith_type1->Br,callWith_builtin1->DI,AllBare->Eg
open False renaming elim->B6
open PySem.SeqAt renaming EqAt->BB
open PySem.Txt renaming split->BE,slice->Cw,slice_le->Dm
open PySem.PassesOwn renaming never->BL
open List.Sublist renaming refl->BZ
open PySem.Obj renaming data_mapFields->Cc,isFreed_of_fields->C6,mapFields->CL,mapSeq->D3
open Option renaming bind_some->Ce,isSome_iff_exists->CJ,map_some->Dd
open Int renaming zero_add->C1,toNat_natCast->CG
open Nat.succ renaming inj->CF
open True renaming intro->CI
open Sum renaming inr->CM
open ForInStep renaming yield->De
open List.cons renaming inj->Df
open PySem.Calls renaming spliced_cons->D0,spliced_nil->D9
open Int.ofNat renaming inj->DT
namespace L2
open PySem PySem.Spec PyProof.Rows
noncomputable abbrev Key:=Sum Int Str
noncomputable def qlw:Key->Value->Bool
 | .inl k,v=>Value.isInt k v
 | .inr x,v=>Value.isStrOf x v
noncomputable def keyH (w:World):Key->Int
 | .inl k=>hashInt k
 | .inr x=>hashStr w x
theorem qb3:∀ {k:Key} {v:Value},qlw k v=true->(∃ i t,k=Sum.inl i/\v=Value.int i t) \/ (∃ x t,k=CM x/\v=Value.str x t)
 | .inl i,v,h=>by
  obtain ⟨t,e⟩:=Value.isInt_shape (k:=i) (v:=v) h
  exact .inl ⟨i,t,rfl,e⟩
 | .inr x,v,h=>by
  obtain ⟨t,e⟩:=Value.isStrOf_shape (x:=x) (v:=v) h
  exact .inr ⟨x,t,rfl,e⟩
theorem qrm (i:Int) (t:Tok):qlw (.inl i) (.int i t)=true:=by simp [qlw,Value.isInt]
theorem qro (x:Str) (t:Tok):qlw (.inr x) (.str x t)=true:=by simp [qlw,Value.isStrOf]
theorem qyl (a b:Int):decide ((Sum.inl a:Key)=Sum.inl b)=(a == b):=by
 by_cases e:a=b
 .subst e; simp
 .have h:¬ (Sum.inl a:Key)=Sum.inl b:=λq=>e (Sum.inl.inj q)
  rw [decide_eq_false h]
  exact (beq_eq_false_iff_ne.mpr e).symm
theorem qym (a b:Str):decide ((CM a:Key)=CM b)=decide (a=b):=by
 by_cases e:a=b
 .subst e; simp
 .have h:¬ (CM a:Key)=CM b:=λq=>e (CM.inj q)
  rw [decide_eq_false h,decide_eq_false e]
theorem qyn (a:Int) (b:Str):decide ((Sum.inl a:Key)=CM b)=false:=decide_eq_false (λq=>nomatch q)
theorem qyo (a:Str) (b:Int):decide ((CM a:Key)=Sum.inl b)=false:=decide_eq_false (λq=>nomatch q)
noncomputable def qb4 (prog:AN) (w:World):PySem.KeyKind prog w Key where
 is:=qlw
 hash:=keyH w
 inj:=λv a b ha hb=>by
  rcases qb3 ha with ⟨i,t,rfl,rfl⟩ | ⟨x,t,rfl,rfl⟩
  .rcases qb3 hb with ⟨j,u,rfl,e⟩ | ⟨y,u,rfl,e⟩
   .injection e with e1 _; rw [e1]
   .exact nomatch e
  .rcases qb3 hb with ⟨j,u,rfl,e⟩ | ⟨y,u,rfl,e⟩
   .exact nomatch e
   .injection e with e1 _; rw [e1]
 byValue:=λk v h=>by
  rcases qb3 h with ⟨i,t,rfl,rfl⟩ | ⟨x,t,rfl,rfl⟩ <;> rfl
 pyHash:=λhv h=>by
  rcases qb3 hv with ⟨i,t,rfl,rfl⟩ | ⟨x,t,rfl,rfl⟩
  .exact wpAny_pyHash_int h
  .exact wpAny_pyHash_str h
 eqBool:=λhu hv h=>by
  rcases qb3 hu with ⟨i,t,rfl,rfl⟩ | ⟨x,t,rfl,rfl⟩
  .rcases qb3 hv with ⟨j,u,rfl,rfl⟩ | ⟨y,u,rfl,rfl⟩
   .rw [qyl] at h; exact wpAny_eqBool_int h
   .rw [qyn] at h; exact BB.int_str i t y u _ _ _ _ h
  .rcases qb3 hv with ⟨j,u,rfl,rfl⟩ | ⟨y,u,rfl,rfl⟩
   .rw [qyo] at h; exact BB.str_int x t j u _ _ _ _ h
   .rw [qym] at h; exact wpAny_eqBool_str h
 «strs» := λk x t v h=>by
  rcases qb3 h with ⟨i,u,rfl,e⟩ | ⟨y,u,rfl,e⟩
  .exact nomatch e
  .injection e with e1 _
   subst e1
   cases v <;> rfl
theorem qnw (prog:AN) (w:World) (i:Int) (t:Tok):(qb4 prog w).is (.inl i) (.int i t)=true:=qrm i t
theorem qnx (prog:AN) (w:World) (x:Str) (t:Tok):(qb4 prog w).is (.inr x) (.str x t)=true:=qro x t
end L2
namespace L2
open PySem PySem.Spec PyProof.Rows
inductive V where
 | non | bl (b:Bool) | int (i:Int) | str (x:Str) | byt (b:Array UInt8) | flt (b:UInt64) | ref (a:Addr) | ty (n:String)
 deriving DecidableEq
noncomputable def RelV:V->Value->Prop
 | .non,u=>u=BI
 | .bl b,u=>u=Ei b
 | .int i,u=>∃ t,u=Value.int i t
 | .str x,u=>∃ t,u=Value.str x t
 | .byt b,u=>∃ t,u=Value.bytes b t
 | .flt b,u=>∃ t,u=Value.float b t
 | .ref a,u=>u=Al a
 | .ty n,u=>u=BW n
noncomputable abbrev Vals:List V->List Value->Prop:=Dz RelV
theorem Vals.length {xs:List V} {us:List Value} (r:Vals xs us):xs.length=us.length:=Dz.length r
theorem Vals.get:∀ {xs:List V} {us:List Value} {i:Nat} {x:V},Vals xs us->xs[i]?=some x->∃ u,us[i]?=some u/\RelV x u
 | _,_,_,_,.nil,e=>by simp at e
 | _,_,0,_,.cons r _,e=>by simp at e; subst e; exact ⟨_,rfl,r⟩
 | _,_,i + 1,x,.cons _ t,e=>by
  obtain ⟨u,h1,h2⟩:=Vals.get (i:=i) (x:=x) t (by simpa using e)
  exact ⟨u,by simpa using h1,h2⟩
theorem Vals.set {x:V} {u:Value} (r:RelV x u):∀ {xs:List V} {us:List Value} (i:Nat),Vals xs us->Vals (xs.set i x) (us.set i u)
 | _,_,_,.nil=>.nil
 | _,_,0,.cons _ t=>.cons r t
 | _,_,i + 1,.cons q t=>.cons q (Vals.set r i t)
theorem Vals.append:∀ {xs ys:List V} {us ws:List Value},Vals xs us->Vals ys ws->Vals (xs ++ ys) (us ++ ws)
 | _,_,_,_,.nil,s=>s
 | _,_,_,_,.cons r t,s=>.cons r (Vals.append t s)
theorem Vals.take:∀ {xs:List V} {us:List Value} (n:Nat),Vals xs us->Vals (xs.take n) (us.take n)
 | _,_,0,_=>.nil
 | _,_,_ + 1,.nil=>.nil
 | _,_,n + 1,.cons r t=>.cons r (Vals.take n t)
theorem Vals.drop:∀ {xs:List V} {us:List Value} (n:Nat),Vals xs us->Vals (xs.drop n) (us.drop n)
 | _,_,0,r=>r
 | _,_,_ + 1,.nil=>.nil
 | _,_,n + 1,.cons _ t=>Vals.drop n t
noncomputable def RelO:Option V->Option Value->Prop
 | some v,some u=>RelV v u
 | none,none=>True
 | _,_=>False
noncomputable def KV {κ:Type}:List (κ × V)->List (κ × Value)->Prop:=Dz λ(p:κ × V) (q:κ × Value)=>p.1=q.1/\RelV p.2 q.2
noncomputable def kV:Key->V
 | .inl i=>.int i
 | .inr x=>.str x
inductive HO where
 /-- a list -/
 | lst (xs:List V)
 /-- a tuple (never changes) -/
 | tup (xs:List V)
 /-- a dict whose keys are ints and texts; one whose keys are tuples of ints and texts (the empty one is both) -/
 | dK (kvs:List (Key × V)) | dT (kvs:List (List Key × V))
 /-- a set of ints: its members,its size -/
 | set (S:Int->Bool) (n:Nat)
 /-- an instance of the class at C,its dict at dx,its attributes -/
 | ins (C dx:Addr) (fs:List (Str × V))
 /-- the dict of the instance at x -/
 | own (x:Addr)
 /-- the dict of an exception -/
 | xd (fs:List (Str × V))
 /-- a bound method,f of x -/
 | met (f x:Addr)
 /-- a range object lo,lo + 1,.. below hi -/
 | rng (lo hi:Int)
 /-- a thing that is known to the object (the script; a dict while a loop walks it): read,never written while it is so -/
 | frz (o:Obj) (u:HO)
 /-- a code object's table -/
 | tbl (ps:Array Value)
 /-- any other thing,by what is true of its one object (a def of one's own: SetO a S n:=HO.ext λh=>..) -/
 | ext (φ:Heap->Prop)
noncomputable abbrev Hp:=Addr->Option HO
noncomputable def upd (H:Hp) (a:Addr) (o:HO):Hp:=λb=>if b=a then some o else H b
theorem qu {H:Hp} {a:Addr} {o:HO}:upd H a o a=some o:=by unfold upd; rw [if_pos rfl]
theorem zd {H:Hp} {a b:Addr} {o:HO} (h:b ≠ a):upd H a o b=H b:=by unfold upd; rw [if_neg h]
theorem qqp {H:Hp} {a:Addr} {o u:HO}:upd (upd H a o) a u=upd H a u:=by
 funext b; unfold upd; split <;> rfl
theorem ne_of {H:Hp} {a b:Addr} {o u:HO} (h:H a=some o) (h':H b=some u) (d:o ≠ u):a ≠ b:=by
 intro e; subst e; rw [h] at h'; exact d (AF h')
theorem qag {H:Hp} {a b:Addr} {o:HO} (h:H a=some o) (h':H b=none):a ≠ b:=by
 intro e; subst e; rw [h] at h'; cases h'
section
variable (P:AN) (w:World)
noncomputable def ObjOk (H:Hp) (h:Heap) (a:Addr):HO->Prop
 | .lst xs=>xs.length <= A0/\∃ (its:List Value) (n:Nat),Vals xs its/\h.get? a=some { cls:=.type "list",data:=.seq its.toArray n }
 | .tup xs=>xs.length <= A0/\∃ its:List Value,Vals xs its/\IsTup h a its.toArray
 | .dK kvs=>kvs.length <= A0/\(a == sysModules)=false/\∃ vs,KV kvs vs/\h.DictOf (qb4 P w) a vs
 | .dT kvs=>kvs.length <= A0/\(a == sysModules)=false/\∃ xs:List (List Key × Addr × Value),
   Dz (λ(p:List Key × V) (q:List Key × Addr × Value)=>p.1=q.1/\H q.2.1=some (.tup (p.1.map kV))/\RelV p.2 q.2.2) kvs xs /\
   ∃ o es ep,h.get? a=some o/\o.ExactDict/\o.data=.dict es ep/\es.toList=xs.map (entryOfKey (tupleKind (qb4 P w)))/\(xs.map (·.1)).Nodup
 | .set S n=>h.SetOf (intKind P w) a S n
 | .ins C dx fs=>H dx=some (.own a)/\fs.length <= 1000/\dx ≠ a/\h.get? a=some (Cy C dx) /\
   ∃ mA,h.Ns1 dx mA/\(∀ f,RelO (fs.lookup f) (mA f))/\Dk mA (fs.map (·.1))
 | .own _=>∃ o,h.get? a=some o
 | .xd fs=>∃ mA,h.Ns1 a mA/\∀ f,RelO (fs.lookup f) (mA f)
 | .rng lo hi=>∃ t u v,h.get? a=some { cls:=.type "range",data:=.fields #[.int lo t,.int hi u,.int 1 v] }
 | .frz o u=>h.get? a=some o/\ObjOk H h a u
 | .tbl ps=>h.get? a=some { cls:=.none,data:=.fields ps }
 | .met f x=>h.get? a=some (PySem.W.methodObj (.ref f) (.ref x))
 | .ext φ=>φ h/\(∃ o,h.get? a=some o)/\∀ h1 h2:Heap,φ h1->(∀ o,h1.get? a=some o->h2.get? a=some o)->φ h2
noncomputable def HOk (H:Hp) (h:Heap):Prop:=∀ a o,H a=some o->ObjOk P w H h a o
end
section
variable {P:AN} {w:World} {H H':Hp} {h h':Heap} {a:Addr} {o:HO}
theorem ObjOk.lt (x:ObjOk P w H h a o):a < h.objs.size:=by
 cases o with
 | lst xs=>obtain ⟨_,_,_,_,e⟩:=x; exact A3 e
 | tup xs=>obtain ⟨_,_,_,p⟩:=x; exact p.lt
 | dK kvs=>obtain ⟨_,_,_,_,o,_,_,e,_⟩:=x; exact A3 e
 | dT kvs=>obtain ⟨_,_,_,_,o,_,_,e,_⟩:=x; exact A3 e
 | set S n=>obtain ⟨o,_,_,_,e,_⟩:=x; exact A3 e
 | ins C dx fs=>obtain ⟨_,_,_,e,_⟩:=x; exact A3 e
 | own y=>obtain ⟨_,e⟩:=x; exact A3 e
 | xd fs=>obtain ⟨_,⟨_,_,_,e,_⟩,_⟩:=x; exact A3 e
 | rng lo hi=>obtain ⟨_,_,_,e⟩:=x; exact A3 e
 | frz ob u=>obtain ⟨e,_⟩:=x; exact A3 e
 | tbl ps=>exact A3 (show h.get? a=some _ from x)
 | met f y=>exact A3 (show h.get? a=some _ from x)
 | ext φ=>obtain ⟨_,⟨_,e⟩,_⟩:=x; exact A3 e
theorem Dz.mapP {α β:Type} {F G:α->β->Prop}:∀ {l₁:List α} {l₂:List β},Dz F l₁ l₂->(∀ a b,F a b->G a b)->Dz G l₁ l₂
 | _,_,.nil,_=>.nil
 | _,_,.cons r t,f=>.cons (f _ _ r) (Dz.mapP t f)
theorem ObjOk.stay (x:ObjOk P w H h a o) (k:∀ b u,(b=a \/ H b=some (.own a))->h.get? b=some u->h'.get? b=some u)
  (ho:∀ b,H b=some (.own a)->H' b=some (.own a)) (ht:∀ b xs,H b=some (.tup xs)->H' b=some (.tup xs)):ObjOk P w H' h' a o:=by
 induction o with
 | lst xs=>obtain ⟨z,its,n,r,e⟩:=x; exact ⟨z,its,n,r,k _ _ (.inl rfl) e⟩
 | tup xs=>obtain ⟨z,its,r,ob,e,c⟩:=x; exact ⟨z,its,r,ob,k _ _ (.inl rfl) e,c⟩
 | dK kvs=>obtain ⟨z,y,vs,r,ob,es,ep,e,c⟩:=x; exact ⟨z,y,vs,r,ob,es,ep,k _ _ (.inl rfl) e,c⟩
 | dT kvs =>
  obtain ⟨z,y,xs,r,ob,es,ep,e,c⟩:=x
  exact ⟨z,y,xs,Dz.mapP r λp q z=>⟨z.1,ht _ _ z.2.1,z.2.2⟩,ob,es,ep,k _ _ (.inl rfl) e,c⟩
 | set S n=>obtain ⟨ob,es,ep,t,e,c⟩:=x; exact ⟨ob,es,ep,t,k _ _ (.inl rfl) e,c⟩
 | ins C dx fs =>
  obtain ⟨d,z,ne,e,mA,⟨od,es,ep,e2,c⟩,r⟩:=x
  exact ⟨ho _ d,z,ne,k _ _ (.inl rfl) e,mA,⟨od,es,ep,k _ _ (.inr d) e2,c⟩,r⟩
 | own y=>obtain ⟨ob,e⟩:=x; exact ⟨ob,k _ _ (.inl rfl) e⟩
 | xd fs=>obtain ⟨mA,⟨od,es,ep,e,c⟩,r⟩:=x; exact ⟨mA,⟨od,es,ep,k _ _ (.inl rfl) e,c⟩,r⟩
 | rng lo hi=>obtain ⟨t,u,v,e⟩:=x; exact ⟨t,u,v,k _ _ (.inl rfl) e⟩
 | frz ob u ih=>obtain ⟨e,q⟩:=x; exact ⟨k _ _ (.inl rfl) e,ih q⟩
 | tbl ps =>
  have e:h.get? a=some { cls:=.none,data:=.fields ps }:=x
  show h'.get? a=some { cls:=.none,data:=.fields ps }
  exact k a _ (.inl rfl) e
 | met f y =>
  have e:h.get? a=some (PySem.W.methodObj (.ref f) (.ref y)):=x
  show h'.get? a=some (PySem.W.methodObj (.ref f) (.ref y))
  exact k a _ (.inl rfl) e
 | ext φ=>obtain ⟨p,⟨o,e⟩,st⟩:=x; exact ⟨st _ _ p λo q=>k _ _ (.inl rfl) q,⟨o,k _ _ (.inl rfl) e⟩,st⟩
theorem HOk.lt (x:HOk P w H h) (e:H a=some o):a < h.objs.size:=(x a o e).lt
theorem HOk.fresh (x:HOk P w H h) (e:h.objs.size <= a):H a=none:=by
 cases q:H a with
 | none=>rfl
 | some u=>exact absurd (A8 (x.lt q) e) (Cf _)
theorem HOk.kept (x:HOk P w H h) (k:∀ b u,h.get? b=some u->h'.get? b=some u):HOk P w H h':=λa o e =>
 (x a o e).stay (λb u _ q=>k b u q) (λ_ q=>q) λ_ _ q=>q
theorem HOk.laid (x:HOk P w H h) (k:∀ b u,h.get? b=some u->h'.get? b=some u) (hp:h.objs.size <= a) (new:ObjOk P w (upd H a o) h' a o):HOk P w (upd H a o) h':=λb u e=>by
 have hn:=x.fresh hp
 by_cases hb:b=a
 .subst hb; rw [qu] at e; cases e; exact new
 .rw [zd hb] at e
  exact (x b u e).stay (λc v _ q=>k c v q) (λc q=>by rw [zd (qag q hn)]; exact q) λc xs q=>by rw [zd (qag q hn)]; exact q
end
noncomputable def Rd (H:Hp) (a:Addr) (u:HO):Prop:=H a=some u \/ ∃ o,H a=some (.frz o u)
theorem Rd.ok {P:AN} {w:World} {H:Hp} {h:Heap} {a:Addr} {u:HO} (r:Rd H a u) (x:HOk P w H h):ObjOk P w H h a u:=by
 rcases r with r | ⟨o,r⟩
 .exact x a u r
 .obtain ⟨_,q⟩:=x a _ r
  exact q
noncomputable def Mut:Option HO->Prop
 | some (.lst _)=>True
 | some (.dK _)=>True
 | some (.dT _)=>True
 | some (.set _ _)=>True
 | some (.ins _ _ _)=>True
 | some (.ext _)=>True
 | _=>False
section
variable {P:AN} {w:World} {H:Hp} {h h':Heap} {x e:Addr} {o':HO}
theorem HOk.write (ok:HOk P w H h) (mu:Mut (H x)) (he:e=x \/ H e=some (.own x)) (k:∀ b u,b ≠ e->h.get? b=some u->h'.get? b=some u) (heo:∃ u,h'.get? e=some u)
  (new:ObjOk P w (upd H x o') h' x o'):HOk P w (upd H x o') h':=λb u q=>by
 have nown:∀ c y,H c=some (.own y)->c ≠ x:=λc y r z=>by subst z; rw [r] at mu; exact mu
 have ntup:∀ c xs,H c=some (.tup xs)->c ≠ x:=λc xs r z=>by subst z; rw [r] at mu; exact mu
 by_cases hb:b=x
 .subst hb; rw [qu] at q; cases q; exact new
 .rw [zd hb] at q
  by_cases hbe:b=e
  .have q':H b=some (.own x):=by
    rcases he with z | z
    .exact absurd (hbe.trans z) hb
    .rw [hbe]; exact z
   rw [q] at q'; cases q'
   obtain ⟨v,hv⟩:=heo
   exact ⟨v,by rw [hbe]; exact hv⟩
  .refine (ok b u q).stay (λc v hc r=>k c v ?_ r) (λc r=>by rw [zd (nown c b r)]; exact r) λc xs r=>by rw [zd (ntup c xs r)]; exact r
   rcases hc with rfl | hc
   .exact hbe
   .rintro rfl
    rcases he with z | z
    .exact nown c b hc z
    .rw [hc] at z; cases z; exact hb rfl
end
structure Un (fs ex:List Addr) (H H':Hp) (h h':Heap):Prop where
 keep:∀ b o,h.get? b=some o->H b=none->b ∉ fs->b ∉ ex->h'.get? b=some o
 slot:∀ b o,h.get? b=some o->H b=none->b ∈ fs->b ∉ ex->∃ sl,h'.get? b=some { o with slots:=sl }
 free:∀ b o,h.get? b=some o->H b=none->b ∉ ex->H' b=none
 there:∀ b o,h.get? b=some o->b ∉ ex->∃ o',h'.get? b=some o'
 tups:∀ b xs,H b=some (.tup xs)->H' b=some (.tup xs)
 frzs:∀ b o u,H b=some (.frz o u)->H' b=some (.frz o u)
 tbls:∀ b ps,H b=some (.tbl ps)->∃ qc6,H' b=some (.tbl (ps ++ qc6))
section
variable {fs fs' ex ex':List Addr} {H H1 H2:Hp} {h h1 h2 h':Heap} {a x e:Addr} {o:HO}
theorem Un.any (u:Un fs ex H H1 h h1) {b:Addr} {ob:Obj} (q:h.get? b=some ob) (n:H b=none) (hx:b ∉ ex):∃ sl,h1.get? b=some { ob with slots:=sl }:=by
 by_cases hb:b ∈ fs
 .exact u.slot b ob q n hb hx
 .exact ⟨ob.slots,u.keep b ob q n hb hx⟩
theorem Un.kept (k:∀ b u,h.get? b=some u->h'.get? b=some u):Un fs ex H H h h' :=
 ⟨λb ob q _ _ _=>k b ob q,λb ob q _ _ _=>⟨ob.slots,k b ob q⟩,λ_ _ _ n _=>n,λb ob q _=>⟨ob,k b ob q⟩,λ_ _ q=>q,λ_ _ _ q=>q,λ_ ps q=>⟨#[],by rw [q]; simp⟩⟩
theorem Un.refl:Un fs ex H H h h:=Un.kept λ_ _ q=>q
theorem Un.laid (k:∀ b u,h.get? b=some u->h'.get? b=some u) (hp:h.objs.size <= a) (hn:H a=none):Un fs ex H (upd H a o) h h' where
 keep:=λb u q _ _ _=>k b u q
 slot:=λb u q _ _ _=>⟨u.slots,k b u q⟩
 free:=λb u q n _=>by rw [zd (AJ (A8 (A3 q) hp))]; exact n
 there:=λb u q _=>⟨u,k b u q⟩
 tups:=λb xs q=>by rw [zd (qag q hn)]; exact q
 frzs:=λb u xs q=>by rw [zd (qag q hn)]; exact q
 tbls:=λb ps q=>⟨#[],by rw [zd (qag q hn),q]; simp⟩
theorem Un.write (mu:Mut (H x)) (he:e=x \/ H e=some (.own x)) (k:∀ b u,b ≠ e->h.get? b=some u->h'.get? b=some u) (heo:∃ u,h'.get? e=some u):Un fs ex H (upd H x o) h h':=by
 have hx:∀ b,H b=none->b ≠ x:=λb n z=>by subst z; rw [n] at mu; exact mu
 have hb:∀ b,H b=none->b ≠ e:=λb n z=>by
  subst z
  rcases he with r | r
  .exact hx b n r
  .rw [n] at r; cases r
 have hm:∀ b u,H b=some u->¬ Mut (some u)->b ≠ x:=λb u q nm z=>by subst z; rw [q] at mu; exact nm mu
 refine ⟨λb u q n _ _=>k b u (hb b n) q,λb u q n _ _=>⟨u.slots,k b u (hb b n) q⟩,λb u q n _=>by rw [zd (hx b n)]; exact n,λb u q _ => ?_,
  λb xs q=>by rw [zd (hm b _ q λz=>z)]; exact q,λb u xs q=>by rw [zd (hm b _ q λz=>z)]; exact q,λb ps q=>⟨#[],by rw [zd (hm b _ q λz=>z),q]; simp⟩⟩
 by_cases hbe:b=e
 .subst hbe; exact heo
 .exact ⟨u,k b u hbe q⟩
end
noncomputable def trk (h:Heap) (H:Hp):List Addr:=(Bh h.objs.size).filter λa=>(H a).isSome
noncomputable def qmz (h:Heap) (H:Hp):Heap:=PySem.W.hideAll h (trk h H)
theorem qrp (h:Heap) (H:Hp):(qmz h H).objs.size=h.objs.size:=PySem.W.hideAll_size _ _
theorem qtj {h:Heap} {H:Hp} {b:Addr} {o:Obj} (e:h.get? b=some o) (n:H b=none):(qmz h H).get? b=some o :=
 PySem.W.hideAll_get _ e λhm=>by
  have q:(H b).isSome=true:=(Dx.mp hm).2
  rw [n] at q; simp at q
theorem qv8 {h:Heap} {H:Hp} {b:Addr} {o:Obj} (e:(qmz h H).get? b=some o):h.get? b=some o/\H b=none:=by
 have e':h.get? b=some o:=PySem.W.of_hideAll (trk h H) e
 refine ⟨e',?_⟩
 cases q:H b with
 | none=>rfl
 | some x =>
  have hm:b ∈ trk h H:=Dx.mpr ⟨Ct.mpr (A3 e'),by simp [q]⟩
  have z:(qmz h H).get? b=none:=PySem.W.hideAll_none (trk h H) hm
  rw [z] at e; cases e
noncomputable def qv9 (g h:Heap) (L:Addr):List (Addr × Obj):=(Bh h.objs.size).filterMap λa=>if a=L \/ (g.get? a).isSome=true then none else (h.get? a).map λo=>(a,o)
noncomputable def qbl (g h:Heap) (L d:Addr):List (Addr × Obj):=(qv9 g h L).filter λp=>decide (p.1 ≠ d)
end L2
namespace L2
open PySem PySem.Spec PyProof.Rows
structure Mod (K:Ae) (mg:Str->Option Value) (base:Heap):Prop where
 kin:K.In base
 glob:base.Ns A7 mg
 blt:∃ mb,base.Ns builtinsNs mb/\∀ x:Str,x ≠ "__name__" -> mb x=bootBuiltins x
 nolimit:base.NoLimit
structure Cx where
 prog:AN
 w:World
 K:Ae
 mg:Str->Option Value
 base:Heap
 A:AX
 N:List Str
 s₀:Ah
 H₀:Hp
 env:Env
 outer:List Env
 stack:List Env
 ex:List Addr
 fn:Str->Bool
 calm:Bool
 pn:List (Addr × Obj)
 xe:Value->Ah->Prop
noncomputable def frs (l:List Env):List Addr:=l.filterMap (·.frame)
noncomputable abbrev Cx.fs (X:Cx):List Addr:=frs X.outer
noncomputable def Vis (sc:Scope) (x:Str):Prop:=sc.names.lookup x=some .local \/ sc.names.lookup x=some .cell \/ sc.names.lookup x=some .free
noncomputable def Loc (sc:Scope) (x:Str):Prop:=sc.names.lookup x=some .local \/ sc.names.lookup x=some .cell
noncomputable def Look (env:Env) (h:Heap) (m:Str->Option Value) (x:Str) (u:Value):Prop :=
 (env.kindOf x=some .local/\m x=some u) \/ ((env.kindOf x=some .cell \/ env.kindOf x=some .free)/\∃ c,env.cells.lookup x=some c/\h.IsCell c (some u))
structure Cx.Ok (X:Cx):Prop where
 mod:Mod X.K X.mg X.base
 kind:X.env.scope.kind=.function
 glob:X.env.globals=A7
 blt:X.env.builtins=builtinsNs
 above:X.s₀.heap.objs.size <= X.env.locals
 inj:∀ x y c,X.env.cells.lookup x=some c->X.env.cells.lookup y=some c->x=y
 has:∀ x,(X.env.kindOf x=some .cell \/ X.env.kindOf x=some .free)->∃ c,X.env.cells.lookup x=some c
 cab:∀ x c,X.fn x=true->X.env.cells.lookup x=some c->X.s₀.heap.objs.size <= c
 hd:X.calm=true->X.A.handled=none
 frames:X.A.frames=some X.stack
 stk:X.stack=X.outer \/ (X.stack=X.env :: X.outer/\X.env.frame=some X.env.locals)
 exf:∀ b ∈ X.ex,b ≠ X.env.locals/\∀ x c,X.env.cells.lookup x=some c->c ≠ b
 bs:∀ b o,X.base.get? b=some o->X.s₀.heap.get? b=some o/\X.H₀ b=none
 bsz:X.base.objs.size <= X.s₀.heap.objs.size
 noex:∀ b o,X.base.get? b=some o->b ∉ X.ex
 exfs:∀ b ∈ X.ex,b ∉ X.fs
 funs:X.s₀.heap.FunFrames X.base X.outer
 frf:∀ b ∈ X.fs,X.H₀ b=none
structure Inv (X:Cx) (pins:List (Addr × Obj)) (σ:List (Option V)) (H:Hp) (s:Ah):Prop where
 ok:X.Ok
 os:s.os=X.s₀.os
 bare:Eg s.gens
 base:Un X.fs X.ex X.H₀ H X.s₀.heap s.heap
 loc:∃ m,s.heap.Ns X.env.locals m/\∀ (i:Nat) (x:Str) (v:V),X.N[i]?=some x->σ[i]?=some (some v)->Vis X.env.scope x->∃ u,RelV v u/\Look X.env s.heap m x u
 cell:∀ x c,X.env.cells.lookup x=some c->∃ v,s.heap.IsCell c v
 free:H X.env.locals=none
 freeC:∀ x c,X.env.cells.lookup x=some c->H c=none
 pin:∀ p ∈ X.pn ++ pins,s.heap.get? p.1=some p.2/\H p.1=none/\p.1 ≠ X.env.locals/\p.1 ∉ X.fs/\∀ v,p.2.data ≠ .cell v
 hok:HOk X.prog X.w H s.heap
 len:σ.length=X.N.length
section
variable {X:Cx} {pins:List (Addr × Obj)} {σ:List (Option V)} {H H':Hp} {s:Ah} {h':Heap}
theorem Cx.Ok.nofr (ok:X.Ok) {b:Addr} {o:Obj} (e:X.base.get? b=some o):b ∉ X.fs:=λhb=>by
 have:=(ok.funs.mem hb).1
 rw [e] at this; cases this
theorem Inv.bs (I:Inv X pins σ H s):∀ b o,X.base.get? b=some o->s.heap.get? b=some o/\H b=none:=λb o e =>
 ⟨I.base.keep b o (I.ok.bs b o e).1 (I.ok.bs b o e).2 (I.ok.nofr e) (I.ok.noex b o e),I.base.free b o (I.ok.bs b o e).1 (I.ok.bs b o e).2 (I.ok.noex b o e)⟩
theorem Inv.bk (I:Inv X pins σ H s):∀ b o,X.base.get? b=some o->s.heap.get? b=some o:=λb o e=>(I.bs b o e).1
theorem Inv.mod (I:Inv X pins σ H s):Mod X.K X.mg X.base:=I.ok.mod
theorem Inv.kIn (I:Inv X pins σ H s):X.K.In s.heap:=I.ok.mod.kin.keeps I.bk
theorem Inv.lt (I:Inv X pins σ H s):X.env.locals < s.heap.objs.size:=let ⟨_,hn,_⟩:=I.loc; hn.lt
theorem Inv.sz (I:Inv X pins σ H s):X.s₀.heap.objs.size <= s.heap.objs.size:=Au I.ok.above (Nat.le_of_lt I.lt)
theorem Inv.nofs (I:Inv X pins σ H s) {a:Addr} (h:s.heap.objs.size <= a):a ∉ X.fs:=λhb=>by
 obtain ⟨_,o,ho,_⟩:=I.ok.funs.mem hb
 exact absurd (A8 (A3 ho) (Au I.sz h)) (Cf _)
theorem Inv.cne (I:Inv X pins σ H s):∀ x c,X.env.cells.lookup x=some c->c ≠ X.env.locals:=λx c e z=>by
 obtain ⟨v,o,ho,hd⟩:=I.cell x c e
 obtain ⟨m,⟨o',es,ep,ho',hd',_⟩,_⟩:=I.loc
 rw [z,ho'] at ho; cases ho; rw [hd'] at hd; cases hd
theorem Inv.funs (I:Inv X pins σ H s):s.heap.FunFrames X.base X.outer:=by
 have all:∀ (l:List Env),(∀ b ∈ frs l,b ∈ X.fs)->X.s₀.heap.FunFrames X.base l->s.heap.FunFrames X.base l:=by
  intro l
  induction l with
  | nil=>intro _ _; trivial
  | cons env r ih =>
   intro hs hl
   obtain ⟨hk,⟨L,o,hf,hn,ho,hd⟩,hr⟩:=hl
   have hL:L ∈ X.fs:=hs L (by unfold frs; rw [Dp,hf]; exact Ak)
   obtain ⟨sl,e⟩:=I.base.slot L o ho (I.ok.frf L hL) hL λz=>I.ok.exfs L z hL
   exact ⟨hk,⟨L,_,hf,hn,e,hd⟩,ih (λb hb=>hs b (by unfold frs; rw [Dp,hf]; exact At _ hb)) hr⟩
 exact all X.outer (λ_ hb=>hb) I.ok.funs
theorem Inv.stack (I:Inv X pins σ H s):s.heap.FunFrames X.base X.stack:=by
 rcases I.ok.stk with e | ⟨e,hf⟩
 .rw [e]; exact I.funs
 .rw [e]
  obtain ⟨m,hn,_⟩:=I.loc
  refine .cons (by rw [I.ok.kind]; decide) hf hn ?_ I.funs
  exact Heap.get?_none_of_le (Au I.ok.bsz I.ok.above)
theorem Inv.stkSub (I:Inv X pins σ H s):∀ b ∈ frs X.stack,b ∈ X.env.locals :: X.fs:=λb hb=>by
 rcases I.ok.stk with e | ⟨e,hf⟩
 .rw [e] at hb; exact At _ hb
 .rw [e] at hb
  unfold frs at hb
  rw [Dp,hf] at hb
  exact hb
theorem Inv.stkFree (I:Inv X pins σ H s):∀ b ∈ frs X.stack,H b=none:=λb hb=>by
 rcases Ao.mp (I.stkSub b hb) with e | hb
 .rw [e]; exact I.free
 .obtain ⟨_,o,ho,_⟩:=I.ok.funs.mem hb
  exact I.base.free b o ho (I.ok.frf b hb) λz=>I.ok.exfs b z hb
theorem Inv.step {g':Array GenState} {t':Nat} {d':Drawn} {ch:List Addr} (I:Inv X pins σ H s)
  (hch:∀ b ∈ ch,(b ∈ X.ex \/ X.s₀.heap.objs.size <= b)/\b ≠ X.env.locals/\(∀ x c,X.env.cells.lookup x=some c->c ≠ b)/\∀ p ∈ X.pn ++ pins,p.1 ≠ b)
  (keep:∀ b o,b ≠ X.env.locals->b ∉ X.fs->b ∉ ch->s.heap.get? b=some o->H b=none->h'.get? b=some o)
  (slot:∀ b o,b ≠ X.env.locals->b ∈ X.fs->b ∉ ch->s.heap.get? b=some o->H b=none->∃ sl,h'.get? b=some { o with slots:=sl }) (free:∀ b o,b ∉ ch->s.heap.get? b=some o->H b=none->H' b=none)
  (there:∀ b o,b ∉ ch->s.heap.get? b=some o->∃ o',h'.get? b=some o')
  (tups:∀ b xs,H b=some (.tup xs)->H' b=some (.tup xs)) (frzs:∀ b o u,H b=some (.frz o u)->H' b=some (.frz o u)) (tbls:∀ b ps,H b=some (.tbl ps)->∃ qc6,H' b=some (.tbl (ps ++ qc6)))
  (ns:∀ m,s.heap.Ns X.env.locals m->h'.Ns X.env.locals m) (hok:HOk X.prog X.w H' h') (hg:Eg g') :
  Inv X pins σ H' { s with heap:=h',gens:=g',drawn:=d',toks:=t' }:=by
 have neL:∀ b o,X.s₀.heap.get? b=some o->b ≠ X.env.locals:=λb o e=>AJ (A8 (A3 e) I.ok.above)
 have neC:∀ b o,X.s₀.heap.get? b=some o->b ∉ X.ex->b ∉ ch:=λb o e hx hb=>by
  rcases (hch b hb).1 with z | z
  .exact hx z
  .exact absurd (A8 (A3 e) z) (Cf _)
 have cellK:∀ x c,X.env.cells.lookup x=some c->∀ v,s.heap.IsCell c v->h'.IsCell c v:=λx c e v ⟨o,ho,hd⟩=>by
  have nch:c ∉ ch:=λz=>(hch c z).2.2.1 x c e rfl
  by_cases hc:c ∈ X.fs
  .obtain ⟨sl,q⟩:=slot c o (I.cne x c e) hc nch ho (I.freeC x c e)
   exact ⟨_,q,hd⟩
  .exact ⟨o,keep c o (I.cne x c e) hc nch ho (I.freeC x c e),hd⟩
 refine ⟨I.ok,I.os,hg,⟨λb o e n hb hx => ?_,λb o e n hb hx => ?_,λb o e n hx => ?_,λb o e hx => ?_,λb xs e=>tups b xs (I.base.tups b xs e),λb o xs e=>frzs b o xs (I.base.frzs b o xs e),λb ps e => ?_⟩,?_,λx c e => ?_,?_,λx c e => ?_,λp hp => ?_,hok,I.len⟩
 .exact keep b o (neL b o e) hb (neC b o e hx) (I.base.keep b o e n hb hx) (I.base.free b o e n hx)
 .obtain ⟨sl,e1⟩:=I.base.slot b o e n hb hx
  obtain ⟨sl',e2⟩:=slot b _ (neL b o e) hb (neC b o e hx) e1 (I.base.free b o e n hx)
  exact ⟨sl',e2⟩
 .obtain ⟨o',e1⟩:=I.base.there b o e hx
  exact free b o' (neC b o e hx) e1 (I.base.free b o e n hx)
 .obtain ⟨o',e1⟩:=I.base.there b o e hx
  exact there b o' (neC b o e hx) e1
 .obtain ⟨m1,e1⟩:=I.base.tbls b ps e
  obtain ⟨m2,e2⟩:=tbls b _ e1
  exact ⟨m1 ++ m2,by rw [e2,Array.append_assoc]⟩
 .obtain ⟨m,hn,hl⟩:=I.loc
  refine ⟨m,ns m hn,λi x v e1 e2 e3 => ?_⟩
  obtain ⟨u,r,l⟩:=hl i x v e1 e2 e3
  refine ⟨u,r,?_⟩
  rcases l with l | ⟨k,c,e,z⟩
  .exact .inl l
  .exact .inr ⟨k,c,e,cellK x c e _ z⟩
 .obtain ⟨v,z⟩:=I.cell x c e
  exact ⟨v,cellK x c e v z⟩
 .obtain ⟨m,⟨o,_,_,ho,_⟩,_⟩:=I.loc
  exact free _ o (λz=>(hch _ z).2.1 rfl) ho I.free
 .obtain ⟨v,o,ho,hd⟩:=I.cell x c e
  exact free c o (λz=>(hch c z).2.2.1 x c e rfl) ho (I.freeC x c e)
 .obtain ⟨e,n,ne,nf,d⟩:=I.pin p hp
  have nch:p.1 ∉ ch:=λz=>(hch p.1 z).2.2.2 p hp rfl
  exact ⟨keep p.1 p.2 ne nf nch e n,free p.1 p.2 nch e n,ne,nf,d⟩
theorem Inv.un {t':Nat} (I:Inv X pins σ H s) (u:Un X.fs [] H H' s.heap h') (hok:HOk X.prog X.w H' h'):Inv X pins σ H' { s with heap:=h',toks:=t' }:=by
 obtain ⟨m,⟨o,es,ep,ho,r⟩,_⟩:=id I.loc
 obtain ⟨sl,hL⟩:=u.any ho I.free (by simp)
 exact I.step (g':=s.gens) (d':=s.drawn) (ch:=[]) (λ_ z=>nomatch z) (λb o _ hb _ e n=>u.keep b o e n hb (by simp)) (λb o _ hb _ e n=>u.slot b o e n hb (by simp)) (λb o _ e n=>u.free b o e n (by simp)) (λb o _ e=>u.there b o e (by simp)) u.tups u.frzs u.tbls (λm' hm=>by
  obtain ⟨o',es',ep',ho',r'⟩:=hm
  rw [ho] at ho'; cases ho'
  exact ⟨_,es',ep',hL,r'⟩) hok I.bare
theorem Inv.call {g':Array GenState} {t':Nat} {d':Drawn} {ch:List Addr} (I:Inv X pins σ H s) (u:Un (frs X.stack) ch H H' s.heap h') (hok:HOk X.prog X.w H' h') (hg:Eg g')
  (hch:∀ b ∈ ch,(b ∈ X.ex \/ X.s₀.heap.objs.size <= b)/\b ≠ X.env.locals/\(∀ x c,X.env.cells.lookup x=some c->c ≠ b)/\∀ p ∈ X.pn ++ pins,p.1 ≠ b) :
  Inv X pins σ H' { s with heap:=h',gens:=g',drawn:=d',toks:=t' }:=by
 obtain ⟨m,⟨o,es,ep,ho,r⟩,_⟩:=id I.loc
 obtain ⟨sl,hL⟩:=u.any ho I.free λz=>(hch _ z).2.1 rfl
 exact I.step (ch:=ch) hch (λb o hL hb hc e n=>u.keep b o e n (λz=>(Ao.mp (I.stkSub b z)).elim hL hb) hc) (λb o _ _ hc e n=>u.any e n hc) (λb o hc e n=>u.free b o e n hc) (λb o hc e=>u.there b o e hc) u.tups u.frzs u.tbls (λm' hm=>by
  obtain ⟨o',es',ep',ho',r'⟩:=hm
  rw [ho] at ho'; cases ho'
  exact ⟨_,es',ep',hL,r'⟩) hok hg
theorem Inv.turned {t':Nat} {it:Addr} (I:Inv X pins σ H s) (k:∀ b o,b ≠ it->s.heap.get? b=some o->h'.get? b=some o) (hn:H it=none) (hL:it ≠ X.env.locals)
  (h1:it ∈ X.ex \/ X.s₀.heap.objs.size <= it) (h2:∀ x c,X.env.cells.lookup x=some c->c ≠ it) (h3:∀ p ∈ X.pn ++ pins,p.1 ≠ it):Inv X pins σ H { s with heap:=h',toks:=t' }:=by
 have nit:∀ b u,H b=some u->b ≠ it:=λb u e z=>by rw [z,hn] at e; cases e
 refine I.step (g':=s.gens) (d':=s.drawn) (ch:=[it]) (λb hb => ?_) (λb o _ _ hc e _=>k b o (λz=>hc (by simp [z])) e) (λb o _ _ hc e _=>⟨o.slots,k b o (λz=>hc (by simp [z])) e⟩) (λ_ _ _ _ n=>n)
  (λb o hc e=>⟨o,k b o (λz=>hc (by simp [z])) e⟩) (λ_ _ e=>e) (λ_ _ _ e=>e) (λb ps e=>⟨#[],by rw [e]; simp⟩) (λm hm => ?_) (λb u e => ?_) I.bare
 .have e:b=it:=by simpa using hb
  subst e
  exact ⟨h1,hL,h2,h3⟩
 .obtain ⟨o,es,ep,ho,r⟩:=hm
  exact ⟨o,es,ep,k _ o (Bc hL) ho,r⟩
 .refine (I.hok b u e).stay (λc v hc q=>k c v ?_ q) (λ_ q=>q) λ_ _ q=>q
  rcases hc with z | z
  .rw [z]; exact nit b u e
  .exact nit c _ z
theorem Inv.tok (I:Inv X pins σ H s) (t:Nat):Inv X pins σ H { s with toks:=t }:=I.un (h':=s.heap) (t':=t) Un.refl I.hok
theorem Inv.kept {t':Nat} (I:Inv X pins σ H s) (k:∀ b u,s.heap.get? b=some u->h'.get? b=some u):Inv X pins σ H { s with heap:=h',toks:=t' }:=I.un (Un.kept k) (I.hok.kept k)
theorem Inv.laid {a:Addr} {o:HO} {t':Nat} (I:Inv X pins σ H s) (k:∀ b u,s.heap.get? b=some u->h'.get? b=some u) (hp:s.heap.objs.size <= a) (new:ObjOk X.prog X.w (upd H a o) h' a o) :
  Inv X pins σ (upd H a o) { s with heap:=h',toks:=t' }:=I.un (Un.laid k hp (I.hok.fresh hp)) (I.hok.laid k hp new)
theorem Inv.write {x e:Addr} {o:HO} {t':Nat} (I:Inv X pins σ H s) (mu:Mut (H x)) (he:e=x \/ H e=some (.own x)) (k:∀ b u,b ≠ e->s.heap.get? b=some u->h'.get? b=some u) (heo:∃ u,h'.get? e=some u)
  (new:ObjOk X.prog X.w (upd H x o) h' x o):Inv X pins σ (upd H x o) { s with heap:=h',toks:=t' }:=I.un (Un.write mu he k heo) (I.hok.write mu he k heo new)
theorem Inv.pins_of {pins':List (Addr × Obj)} (I:Inv X pins σ H s) (h:∀ p ∈ pins',s.heap.get? p.1=some p.2/\H p.1=none/\p.1 ≠ X.env.locals/\p.1 ∉ X.fs/\∀ v,p.2.data ≠ .cell v):Inv X pins' σ H s :=
 ⟨I.ok,I.os,I.bare,I.base,I.loc,I.cell,I.free,I.freeC,λp hp=>(Ax.mp hp).elim (λz=>I.pin p (Bi _ z)) (h p),I.hok,I.len⟩
theorem qj2 {N:List Str} (hN:N.Nodup) {i j:Nat} {x:Str} (a:N[i]?=some x) (b:N[j]?=some x):i=j:=by
 obtain ⟨h1,e1⟩:=Af.mp a
 obtain ⟨h2,e2⟩:=Af.mp b
 exact (List.getElem_inj hN).mp (e1.trans e2.symm)
theorem qrr {M:Model} {A:AX} {E:Value->Ah->Prop} {i:Nat} {x:Str} {v:V} {u:Value} {Q:Unit->Ah->Prop} (I:Inv X pins σ H s) (hN:X.N.Nodup) (hi:X.N[i]?=some x) (hx:Loc X.env.scope x) (r:RelV v u)
  (h:∀ s',Inv X pins (σ.set i (some v)) H s'->(∃ a,Cq a s.heap s'.heap/\(a=X.env.locals \/ X.env.cells.lookup x=some a))->Q () s') (hf:X.fn x=true \/ X.env.scope.names.lookup x=some .local:=by first | exact .inl rfl | exact .inr rfl | assumption):wpAny M A (storeName X.env x u) Q E s:=by
 obtain ⟨m,hn,hl⟩:=id I.loc
 have hcls:(X.env.scope.kind == .class || (X.env.scope.kind == .module && X.env.locals != X.env.globals))=false:=by rw [I.ok.kind]; rfl
 have hiσ:i < σ.length:=by rw [I.len]; exact (Af.mp hi).1
 have cne:=I.cne
 have tracked:∀ {a:Addr} {h':Heap},(∃ o,s.heap.get? a=some o/\H a=none)->Cq a s.heap h'->HOk X.prog X.w H h':=λ{a h'} ha hs b ob e=>by
  obtain ⟨_,_,hfree⟩:=ha
  refine (I.hok b ob e).stay (λc w' hc q=>(hs.2 c ?_).trans q) (λ_ q=>q) λ_ _ q=>q
  rintro rfl
  rcases hc with rfl | hc
  .rw [hfree] at e; cases e
  .rw [hfree] at hc; cases hc
 rcases hx with hk | hk
 .refine wpAny_storeName_local hk hn (λh' hn' hs => ?_) hcls
  obtain ⟨oL,_,_,hoL,_⟩:=id hn
  refine h _ ⟨I.ok,I.os,I.bare,⟨λb o e n hb hx => ?_,λb o e n hb hx => ?_,I.base.free,λb o e hx => ?_,I.base.tups,I.base.frzs,I.base.tbls⟩,⟨_,hn',λj y v' e1 e2 e3 => ?_⟩,λy c e => ?_,I.free,I.freeC,λp hp => ?_,tracked ⟨oL,hoL,I.free⟩ hs,by simpa using I.len⟩ ⟨_,hs,.inl rfl⟩
  .exact (hs.2 b (AJ (A8 (A3 e) I.ok.above))).trans (I.base.keep b o e n hb hx)
  .obtain ⟨sl,e1⟩:=I.base.slot b o e n hb hx
   exact ⟨sl,(hs.2 b (AJ (A8 (A3 e) I.ok.above))).trans e1⟩
  .obtain ⟨o',e1⟩:=I.base.there b o e hx
   exact ⟨o',(hs.2 b (AJ (A8 (A3 e) I.ok.above))).trans e1⟩
  .by_cases hj:j=i
   .subst hj
    rw [hi] at e1; cases e1
    rw [Bq hiσ] at e2
    cases e2
    exact ⟨u,r,.inl ⟨hk,by simp⟩⟩
   .rw [DU (Bc hj)] at e2
    obtain ⟨u',r',q⟩:=hl j y v' e1 e2 e3
    refine ⟨u',r',?_⟩
    rcases q with ⟨k,e⟩ | ⟨k,c,e,z⟩
    .refine .inl ⟨k,?_⟩
     have:y ≠ x:=λe=>hj (qj2 hN e1 (e ▸ hi))
     simp [this,e]
    .exact .inr ⟨k,c,e,z.sameBut hs (cne y c e)⟩
  .obtain ⟨w',z⟩:=I.cell y c e
   exact ⟨w',z.sameBut hs (cne y c e)⟩
  .obtain ⟨e,n,ne,nf,d⟩:=I.pin p hp
   exact ⟨(hs.2 p.1 ne).trans e,n,ne,nf,d⟩
 .have hfn:X.fn x=true:=by
   rcases hf with z | z
   .exact z
   .rw [z] at hk; cases hk
  obtain ⟨c,hc⟩:=I.ok.has x (.inl hk)
  obtain ⟨w',z⟩:=I.cell x c hc
  refine wpAny_storeName_cell I.ok.kind hk hc z (λh' hc' hs => ?_)
  obtain ⟨oc,hoc,hocd⟩:=id z
  refine h { s with heap:=h' } ⟨I.ok,I.os,I.bare,⟨λb o e n hb hx => ?_,λb o e n hb hx => ?_,I.base.free,λb o e hx => ?_,I.base.tups,I.base.frzs,I.base.tbls⟩,⟨m,hn.sameBut hs (Bc (cne x c hc)),λj y v' e1 e2 e3 => ?_⟩,λy c' e => ?_,I.free,I.freeC,λp hp => ?_,tracked ⟨oc,hoc,I.freeC x c hc⟩ hs,by simpa using I.len⟩ ⟨c,hs,.inr hc⟩
  .exact (hs.2 b (AJ (A8 (A3 e) (I.ok.cab x c hfn hc)))).trans (I.base.keep b o e n hb hx)
  .obtain ⟨sl,e1⟩:=I.base.slot b o e n hb hx
   exact ⟨sl,(hs.2 b (AJ (A8 (A3 e) (I.ok.cab x c hfn hc)))).trans e1⟩
  .obtain ⟨o',e1⟩:=I.base.there b o e hx
   exact ⟨o',(hs.2 b (AJ (A8 (A3 e) (I.ok.cab x c hfn hc)))).trans e1⟩
  .by_cases hj:j=i
   .subst hj
    rw [hi] at e1; cases e1
    rw [Bq hiσ] at e2
    cases e2
    exact ⟨u,r,.inr ⟨.inl hk,c,hc,hc'⟩⟩
   .rw [DU (Bc hj)] at e2
    obtain ⟨u',r',q⟩:=hl j y v' e1 e2 e3
    refine ⟨u',r',?_⟩
    rcases q with q | ⟨k,c',e,z'⟩
    .exact .inl q
    .refine .inr ⟨k,c',e,z'.sameBut hs ?_⟩
     rintro rfl
     exact hj (qj2 hN e1 (I.ok.inj _ _ _ e hc ▸ hi))
  .by_cases hcc:c'=c
   .subst hcc; exact ⟨_,hc'⟩
   .obtain ⟨w2,z2⟩:=I.cell y c' e
    exact ⟨w2,z2.sameBut hs hcc⟩
  .obtain ⟨e,n,ne,nf,d⟩:=I.pin p hp
   refine ⟨(hs.2 p.1 ?_).trans e,n,ne,nf,d⟩
   intro q
   rw [q,hoc] at e
   have q':oc=p.2:=AF e
   exact d w' (by rw [<- q']; exact hocd)
theorem qhw {M:Model} {A:AX} {E:Value->Ah->Prop} {i:Nat} {x:Str} {v:V} {u:Value} {Q:Unit->Ah->Prop} (I:Inv X pins σ H s) (hN:X.N.Nodup) (hi:X.N[i]?=some x) (hx:Loc X.env.scope x) (r:RelV v u)
  (h:∀ s',Inv X pins (σ.set i (some v)) H s'->Q () s') (hf:X.fn x=true \/ X.env.scope.names.lookup x=some .local:=by first | exact .inl rfl | exact .inr rfl | assumption):wpAny M A (storeName X.env x u) Q E s :=
 qrr I hN hi hx r (λs' I' _=>h s' I') hf
theorem Inv.call' {s':Ah} {ch:List Addr} (I:Inv X pins σ H s) (ho:s'.os=s.os) (u:Un (frs X.stack) ch H H' s.heap s'.heap) (hok:HOk X.prog X.w H' s'.heap) (hg:Eg s'.gens)
  (hch:∀ b ∈ ch,(b ∈ X.ex \/ X.s₀.heap.objs.size <= b)/\b ≠ X.env.locals/\(∀ x c,X.env.cells.lookup x=some c->c ≠ b)/\∀ p ∈ X.pn ++ pins,p.1 ≠ b):Inv X pins σ H' s':=by
 obtain ⟨h',g',d',t',o'⟩:=s'
 have e:o'=s.os:=ho
 subst e
 exact I.call (g':=g') (t':=t') (d':=d') u hok hg hch
end
noncomputable abbrev XK:=Value->Option Addr->Hp->Prop
noncomputable abbrev St:=List (Option V)
noncomputable abbrev VK:=V->Hp->Prop
noncomputable abbrev TE:=St->Hp->VK->Prop
noncomputable abbrev TT:=St->Hp->(Bool->Hp->Prop)->Prop
noncomputable abbrev TA:=St->Hp->(List V->Hp->Prop)->Prop
structure Ends where
 nx:St->Hp->Prop
 rt:VK
 bk:St->Hp->Prop:=λ_ _=>False
 ct:St->Hp->Prop:=λ_ _=>False
noncomputable abbrev TS:=Ends->St->Hp->Prop
noncomputable def EP (X:Cx) (pins:List (Addr × Obj)) (σ:St) (Q:VK) (u:Value) (s':Ah):Prop:=∃ v H',Inv X pins σ H' s'/\RelV v u/\Q v H'
noncomputable def TP (X:Cx) (pins:List (Addr × Obj)) (σ:St) (Q:Bool->Hp->Prop) (b:Bool) (s':Ah):Prop:=∃ H',Inv X pins σ H' s'/\Q b H'
noncomputable def AP (X:Cx) (pins:List (Addr × Obj)) (σ:St) (Q:List V->Hp->Prop) (us:List Value) (s':Ah):Prop:=∃ vs H',Inv X pins σ H' s'/\Vals vs us/\Q vs H'
noncomputable def SP (X:Cx) (pins:List (Addr × Obj)) (D:Ends) (f:Flow) (s':Ah):Prop :=
 match f with
 | .next=>∃ σ' H',Inv X pins σ' H' s'/\D.nx σ' H'
 | .brk=>∃ σ' H',Inv X pins σ' H' s'/\D.bk σ' H'
 | .cont=>∃ σ' H',Inv X pins σ' H' s'/\D.ct σ' H'
 | .ret u=>∃ v σ' H',Inv X pins σ' H' s'/\RelV v u/\D.rt v H'
noncomputable def PE (X:Cx) (e:Expr) (t:TE):Prop :=
 ∀ (pins:List (Addr × Obj)) (s:Ah) (σ:St) (H:Hp) (Q:VK),Inv X pins σ H s->t σ H Q->wpAny (model X.prog X.w) X.A (eval e X.env) (EP X pins σ Q) X.xe s
noncomputable def PT (X:Cx) (e:Expr) (t:TT):Prop :=
 ∀ (pins:List (Addr × Obj)) (s:Ah) (σ:St) (H:Hp) (Q:Bool->Hp->Prop),Inv X pins σ H s->t σ H Q->wpAny (model X.prog X.w) X.A (isTrue e X.env (eval e X.env)) (TP X pins σ Q) X.xe s
noncomputable def PW (X:Cx) (e:Expr) (t:TT):Prop :=
 ∀ (whole:Sem Value) (pins:List (Addr × Obj)) (s:Ah) (σ:St) (H:Hp) (Q:Bool->Hp->Prop),Inv X pins σ H s->t σ H Q->wpAny (model X.prog X.w) X.A (isTrue e X.env whole) (TP X pins σ Q) X.xe s
theorem PW.pt {X:Cx} {e:Expr} {t:TT} (h:PW X e t):PT X e t:=h _
noncomputable def PA (X:Cx) (es:List Expr) (t:TA):Prop :=
 ∀ (pos:Pos) (pins:List (Addr × Obj)) (s:Ah) (σ:St) (H:Hp) (Q:List V->Hp->Prop),Inv X pins σ H s->t σ H Q->wpAny (model X.prog X.w) X.A (spliced (backTo pos (starEach es X.env))) (AP X pins σ Q) X.xe s
noncomputable def PS (X:Cx) (st:Stmt) (t:TS):Prop :=
 ∀ (pins:List (Addr × Obj)) (s:Ah) (σ:St) (H:Hp) (D:Ends),Inv X pins σ H s->t D σ H->wpAny (model X.prog X.w) X.A (exec st X.env) (SP X pins D) X.xe s
noncomputable def PSs (X:Cx) (st:List Stmt) (t:TS):Prop :=
 ∀ (pins:List (Addr × Obj)) (s:Ah) (σ:St) (H:Hp) (D:Ends),Inv X pins σ H s->t D σ H->wpAny (model X.prog X.w) X.A (execs st X.env) (SP X pins D) X.xe s
theorem thn {α:Type} {t:Sem α} {Q Q':α->Ah->Prop} {M:Model} {A:AX} {E:Value->Ah->Prop} {s:Ah} (h:wpAny M A t Q E s) (hQ:∀ a s,Q a s->Q' a s):wpAny M A t Q' E s:=BO h hQ λ_ _ x=>x
end L2
namespace L2
open PySem PySem.Spec PyProof.Rows
section
variable {X:Cx}
noncomputable def tVar (i:Nat):TE:=λσ H Q=>∃ v,σ[i]?=some (some v)/\Q v H
noncomputable def tC (v:V):TE:=λ_ H Q=>Q v H
theorem qyp {i:Nat} {x:Str} {pos:Pos} (hN:X.N[i]?=some x) (hv:Vis X.env.scope x) (hd:(x == ("__debug__" : Str))=false:=by decide) (hcd:(x == ("__classdict__" : Str))=false:=by decide):PE X (.Name x pos) (tVar i):=by
 intro pins s σ H Q I h
 obtain ⟨v,e,h⟩:=h
 obtain ⟨m,hn,hl⟩:=I.loc
 obtain ⟨u,r,l⟩:=hl i x v hN e hv
 have fin:EP X pins σ Q u s:=⟨v,H,I,r,h⟩
 rcases l with ⟨hk,hm⟩ | ⟨hk,c,hc,hcell⟩
 .exact wpAny_Name (wpAny_loadName_local I.ok.kind hk hn hm fin) hd
 .rcases hk with hk | hk
  .exact wpAny_Name (wpAny_loadName_cell I.ok.kind hk hc hcell fin) hd
  .exact wpAny_Name (wpAny_loadName_free I.ok.kind hk hc hcell fin hcd) hd
theorem qp {i j pos}:PE X (.Constant (.int i) j pos) (tC (.int i)):=λ_ _ _ H _ I h=>wpAny_Constant_int ⟨.int i,H,I.tok _,⟨_,rfl⟩,h⟩
theorem qd0 {b j pos}:PE X (.Constant (.bool b) j pos) (tC (.bl b)):=λ_ _ _ H _ I h=>Constant_bool ⟨.bl b,H,I,rfl,h⟩
theorem qbu {j pos}:PE X (.Constant .none j pos) (tC .non):=λ_ _ _ H _ I h=>Constant_none ⟨.non,H,I,rfl,h⟩
theorem zp {x j pos}:PE X (.Constant (.str x) j pos) (tC (.str x)):=λ_ _ _ H _ I h=>Calls.Constant_str ⟨.str x,H,I.tok _,⟨_,rfl⟩,h⟩
noncomputable def Gl (X:Cx) (x:Str):Prop:=X.env.kindOf x=some .globalImplicit
theorem qey {E:Value->Ah->Prop} {pins:List (Addr × Obj)} {s:Ah} {σ:St} {H:Hp} {x:Str} {u:Value} {pos:Pos} {Q:Value->Ah->Prop} (I:Inv X pins σ H s) (hg:Gl X x) (hm:X.mg x=some u) (h:Q u s)
  (hd:(x == ("__debug__" : Str))=false:=by decide):wpAny (model X.prog X.w) X.A (eval (.Name x pos) X.env) Q E s :=
 Calls.Name_function_global I.ok.kind hg (Calls.loadGlobal_global (by rw [I.ok.glob]; exact I.mod.glob.keeps I.bk) hm h) hd
theorem qe5 {E:Value->Ah->Prop} {pins:List (Addr × Obj)} {s:Ah} {σ:St} {H:Hp} {x:Str} {u:Value} {pos:Pos} {Q:Value->Ah->Prop} (I:Inv X pins σ H s) (hg:Gl X x) (hm:X.mg x=none) (hv:bootBuiltins x=some u) (h:Q u s)
  (hn:x ≠ "__name__" := by decide) (hd:(x == ("__debug__" : Str))=false:=by decide):wpAny (model X.prog X.w) X.A (eval (.Name x pos) X.env) Q E s:=by
 obtain ⟨mb,h1,h2⟩:=I.mod.blt
 exact Calls.Name_function_global I.ok.kind hg (Calls.loadGlobal_builtin (by rw [I.ok.glob]; exact I.mod.glob.keeps I.bk) hm (by rw [I.ok.blt]; exact h1.keeps I.bk) ((h2 x hn).trans hv) h) hd
theorem qbm {x:Str} {v:V} {u:Value} {pos:Pos} (hg:Gl X x) (hm:X.mg x=some u) (r:RelV v u) (hd:(x == ("__debug__" : Str))=false:=by decide):PE X (.Name x pos) (tC v) :=
 λ_ _ _ H _ I h=>qey I hg hm ⟨v,H,I,r,h⟩ hd
theorem qdy {x:Str} {v:V} {u:Value} {pos:Pos} (hg:Gl X x) (hm:X.mg x=none) (hv:bootBuiltins x=some u) (r:RelV v u) (hn:x ≠ "__name__" := by decide) (hd:(x == ("__debug__" : Str))=false:=by decide):PE X (.Name x pos) (tC v) :=
 λ_ _ _ H _ I h=>qe5 I hg hm hv ⟨v,H,I,r,h⟩ hn hd
variable {a b:Expr} {ta tb:TE} {pos:Pos}
noncomputable def PC (X:Cx) (op:CmpOp) (a b:Expr) (t:TE):Prop :=
 ∀ (pins:List (Addr × Obj)) (s:Ah) (σ:St) (H:Hp) (Q:VK),Inv X pins σ H s->t σ H Q ->
  wpAny (model X.prog X.w) X.A (eval a X.env) (λv s₁=>wpAny (model X.prog X.w) X.A (eval b X.env) (λu s₂=>wpAny (model X.prog X.w) X.A (compareOp op v u) (EP X pins σ Q) X.xe s₂) X.xe s₁) X.xe s
noncomputable def tB (t:TE):TT:=λσ H Q=>t σ H λx H1=>∃ c,x=.bl c/\Q c H1
theorem qm0 {op:CmpOp} {t:TE} (h:PC X op a b t) (h1:behindInMarks op b=false:=by first | exact nobehind _ Ez Ez | rfl):PT X (.Compare a [op] [b] pos) (tB t):=by
 intro pins s σ H Q I hw
 refine wpAny_isTrue_Compare1 (thn (h pins s σ H _ I hw) λv s1 h1=>thn h1 λu s2 h2=>thn h2 λc s3 hh9 => ?_) h1
 obtain ⟨x,H1,I1,r1,q1⟩:=hh9
 obtain ⟨d,rfl,q⟩:=q1
 cases r1
 exact BF ⟨H1,I1,q⟩
theorem zo {e:Expr} {t:TE} (h:PE X e t) (he:∀ whole,isTrue e X.env whole=(do let v <- whole; standAt e.pos; holding [v] (truthy v)):=by intro _; rfl):PT X e (tB t):=by
 intro pins s σ H Q I hw
 refine isTrue_plain (thn (h pins s σ H _ I hw) λv s1 hh9 => ?_) (he _)
 obtain ⟨x,H1,I1,r1,q1⟩:=hh9
 obtain ⟨d,rfl,q⟩:=q1
 cases r1
 exact BF ⟨H1,I1,q⟩
variable {tA tB':TT} {qbl:List Expr}
noncomputable def tAnd (t u:TT):TT:=λσ H Q=>t σ H λc H1=>if c=true then u σ H1 Q else Q false H1
noncomputable def tOr (t u:TT):TT:=λσ H Q=>t σ H λc H1=>if c=true then Q true H1 else u σ H1 Q
noncomputable def tNot (t:TT):TT:=λσ H Q=>t σ H λc H1=>Q (!c) H1
theorem qcp (ha:PT X a tA):PW X (.BoolOp .And [a] pos) tA:=by
 intro wh pins s σ H Q I h
 refine isTrue_and (thn (ha pins s σ H Q I h) λc s1 e => ?_)
 cases c with
 | true=>exact isTrue_and_nil e
 | false=>exact e
theorem qej (ha:PT X a tA):PW X (.BoolOp .Or [a] pos) tA:=by
 intro wh pins s σ H Q I h
 refine isTrue_or (thn (ha pins s σ H Q I h) λc s1 e => ?_)
 cases c with
 | false=>exact isTrue_or_nil e
 | true=>exact e
theorem qc7 (ha:PT X a tA) (hb:PW X (.BoolOp .And (b :: qbl) pos) tB'):PW X (.BoolOp .And (a :: b :: qbl) pos) (tAnd tA tB'):=by
 intro wh pins s σ H Q I h
 refine isTrue_and (thn (ha pins s σ H _ I h) λc s1 hh9 => ?_)
 obtain ⟨H1,I1,q1⟩:=hh9
 cases c with
 | true=>exact hb wh pins s1 σ H1 Q I1 q1
 | false=>exact ⟨H1,I1,q1⟩
theorem qez (ha:PT X a tA) (hb:PW X (.BoolOp .Or (b :: qbl) pos) tB'):PW X (.BoolOp .Or (a :: b :: qbl) pos) (tOr tA tB'):=by
 intro wh pins s σ H Q I h
 refine isTrue_or (thn (ha pins s σ H _ I h) λc s1 hh9 => ?_)
 obtain ⟨H1,I1,q1⟩:=hh9
 cases c with
 | true=>exact ⟨H1,I1,q1⟩
 | false=>exact hb wh pins s1 σ H1 Q I1 q1
theorem qd6 (ha:PT X a tA):PT X (.UnaryOp .Not a pos) (tNot tA):=by
 intro pins s σ H Q I h
 exact isTrue_not (ha pins s σ H (λc H1=>Q (!c) H1) I h)
noncomputable def tAndV (ta tb:TE):TE:=λσ H Q=>ta σ H λx H1=>∃ c,x=.bl c/\if c=true then tb σ H1 Q else Q (.bl false) H1
noncomputable def tOrV (ta tb:TE):TE:=λσ H Q=>ta σ H λx H1=>∃ c,x=.bl c/\if c=true then Q (.bl true) H1 else tb σ H1 Q
noncomputable def tNotV (ta:TE):TE:=λσ H Q=>ta σ H λx H1=>∃ c,x=.bl c/\Q (.bl (!c)) H1
theorem qe6 {op} {t:TE} (h:PE X a t):PE X (.BoolOp op [a] pos) t:=λpins s σ H Q I hw=>BoolOp_one (h pins s σ H Q I hw)
theorem qd7 (ha:PE X a ta) (hb:PE X (.BoolOp .And (b :: qbl) pos) tb):PE X (.BoolOp .And (a :: b :: qbl) pos) (tAndV ta tb):=by
 intro pins s σ H Q I h
 refine BoolOp_and (thn (ha pins s σ H _ I h) λv s1 hh9 => ?_)
 obtain ⟨x,H1,I1,r1,q1⟩:=hh9
 obtain ⟨c,rfl,q1⟩:=q1
 cases r1
 refine BF ?_
 cases c with
 | true=>exact hb pins s1 σ H1 Q I1 q1
 | false=>exact ⟨.bl false,H1,I1,rfl,q1⟩
theorem qx7 (ha:PE X a ta) (hb:PE X (.BoolOp .Or (b :: qbl) pos) tb):PE X (.BoolOp .Or (a :: b :: qbl) pos) (tOrV ta tb):=by
 intro pins s σ H Q I h
 refine BoolOp_or (thn (ha pins s σ H _ I h) λv s1 hh9 => ?_)
 obtain ⟨x,H1,I1,r1,q1⟩:=hh9
 obtain ⟨c,rfl,q1⟩:=q1
 cases r1
 refine BF ?_
 cases c with
 | false=>exact hb pins s1 σ H1 Q I1 q1
 | true=>exact ⟨.bl true,H1,I1,rfl,q1⟩
theorem qj3 (ha:PE X a ta):PE X (.UnaryOp .Not a pos) (tNotV ta):=by
 intro pins s σ H Q I h
 refine UnaryOp_ (thn (ha pins s σ H _ I h) λv s1 hh9 => ?_)
 obtain ⟨x,H1,I1,r1,q1⟩:=hh9
 obtain ⟨c,rfl,q1⟩:=q1
 cases r1
 exact not_of (BF ⟨.bl (!c),H1,I1,rfl,q1⟩)
noncomputable def tIf (t:TT) (ta tb:TE):TE:=λσ H Q=>t σ H λc H1=>if c=true then ta σ H1 Q else tb σ H1 Q
theorem qd1 {c:Expr} (hc:PT X c tA) (ha:PE X a ta) (hb:PE X b tb):PE X (.IfExp c a b pos) (tIf tA ta tb):=by
 intro pins s σ H Q I h
 refine wpAny_IfExp (thn (hc pins s σ H _ I h) λd s1 hh9 => ?_)
 obtain ⟨H1,I1,q1⟩:=hh9
 cases d with
 | true=>exact ha pins s1 σ H1 Q I1 q1
 | false=>exact hb pins s1 σ H1 Q I1 q1
end
end L2
namespace L2
open PySem PySem.Spec PyProof.Rows
noncomputable def SqL (K:Ae) (H:Hp) (a:Addr) (xs:List V):Prop :=
 Rd H a (.lst xs) \/
  ∃ (o:Obj) (its:Array Value) (n:Nat),K.lookup a=some o/\o.cls=.type "list" /\ o.dict=none/\o.data=.seq its n/\its.size <= A0/\Vals xs its.toList
noncomputable def SqT (K:Ae) (H:Hp) (a:Addr) (xs:List V):Prop :=
 Rd H a (.tup xs) \/
  ∃ (o:Obj) (its:Array Value) (n:Nat),K.lookup a=some o/\o.cls=.type "tuple" /\ o.data=.seq its n/\its.size <= A0/\Vals xs its.toList
noncomputable def absV:Value->Option V
 | .none=>some .non
 | .bool b=>some (.bl b)
 | .int i _=>some (.int i)
 | .str x _=>some (.str x)
 | .bytes b _=>some (.byt b)
 | .float b _=>some (.flt b)
 | .ref a=>some (.ref a)
 | .type n=>some (.ty n)
 | _=>none
theorem RelV.abs {x:V} {u:Value} (r:RelV x u):absV u=some x:=by
 cases x with
 | non=>cases r; rfl
 | bl _=>cases r; rfl
 | int _=>obtain ⟨t,rfl⟩:=r; rfl
 | str _=>obtain ⟨t,rfl⟩:=r; rfl
 | byt _=>obtain ⟨t,rfl⟩:=r; rfl
 | flt _=>obtain ⟨t,rfl⟩:=r; rfl
 | ref _=>cases r; rfl
 | ty _=>cases r; rfl
theorem RelV.inj {x y:V} {u:Value} (r:RelV x u) (q:RelV y u):x=y:=AF (r.abs.symm.trans q.abs)
theorem Vals.inj:∀ {xs ys:List V} {us:List Value},Vals xs us->Vals ys us->xs=ys
 | _,_,_,.nil,.nil=>rfl
 | _,_,_,.cons r t,.cons r' t'=>by rw [r.inj r',Vals.inj t t']
section
variable {X:Cx} {pins:List (Addr × Obj)} {σ:St} {H:Hp} {s:Ah} {a:Addr} {xs ys:List V}
theorem SqL.of {K:Ae} (h:H a=some (.lst xs)):SqL K H a xs:=.inl (.inl h)
theorem SqT.of {K:Ae} (h:H a=some (.tup xs)):SqT K H a xs:=.inl (.inl h)
theorem Inv.list (I:Inv X pins σ H s) (h:SqL X.K H a xs):∃ its:List Value,Vals xs its/\PlainL s.heap a its.toArray/\xs.length <= A0:=by
 rcases h with h | ⟨o,its,n,hk,hc,hd,hs,hz,r⟩
 .obtain ⟨z,its,n,r,e⟩:=h.ok I.hok
  exact ⟨its,r,⟨_,n,e,rfl,rfl,rfl⟩,z⟩
 .refine ⟨its.toList,r,⟨o,n,I.kIn a o hk,hc,hd,by simpa using hs⟩,?_⟩
  have e:=r.length
  simp only [AH] at e
  lia
theorem Inv.tuple (I:Inv X pins σ H s) (h:SqT X.K H a xs):∃ its:List Value,Vals xs its/\IsTup s.heap a its.toArray/\xs.length <= A0:=by
 rcases h with h | ⟨o,its,n,hk,hc,hs,hz,r⟩
 .obtain ⟨z,its,r,p⟩:=h.ok I.hok
  exact ⟨its,r,p,z⟩
 .refine ⟨its.toList,r,⟨o,I.kIn a o hk,hc,n,by simpa using hs⟩,?_⟩
  have e:=r.length
  simp only [AH] at e
  lia
theorem Inv.list_inj (I:Inv X pins σ H s) (h:SqL X.K H a xs) (h':SqL X.K H a ys):xs=ys:=by
 obtain ⟨its,r,⟨o,n,e,_,_,d⟩,_⟩:=I.list h
 obtain ⟨its',r',⟨o',n',e',_,_,d'⟩,_⟩:=I.list h'
 rw [e] at e'; cases e'
 rw [d] at d'
 injection d' with d1 _
 have:its=its':=by simpa using congrArg Array.toList d1
 subst this
 exact r.inj r'
theorem Inv.tuple_inj (I:Inv X pins σ H s) (h:SqT X.K H a xs) (h':SqT X.K H a ys):xs=ys:=by
 obtain ⟨its,r,⟨o,e,_,n,d⟩,_⟩:=I.tuple h
 obtain ⟨its',r',⟨o',e',_,n',d'⟩,_⟩:=I.tuple h'
 rw [e] at e'; cases e'
 rw [d] at d'
 injection d' with d1 _
 have:its=its':=by simpa using congrArg Array.toList d1
 subst this
 exact r.inj r'
end
noncomputable abbrev Cx.wish (X:Cx) (E:Value->Ah->Prop):Cx:={ X with xe:=E }
noncomputable abbrev Cx.nox (X:Cx):Cx:=X.wish λ_ _=>False
theorem Cx.Ok.wish {X:Cx} (ok:X.Ok) (E:Value->Ah->Prop):(X.wish E).Ok :=
 ⟨ok.mod,ok.kind,ok.glob,ok.blt,ok.above,ok.inj,ok.has,ok.cab,ok.hd,ok.frames,ok.stk,ok.exf,ok.bs,ok.bsz,ok.noex,ok.exfs,ok.funs,ok.frf⟩
theorem Cx.Ok.unwish {X:Cx} {E:Value->Ah->Prop} (ok:(X.wish E).Ok):X.Ok :=
 ⟨ok.mod,ok.kind,ok.glob,ok.blt,ok.above,ok.inj,ok.has,ok.cab,ok.hd,ok.frames,ok.stk,ok.exf,ok.bs,ok.bsz,ok.noex,ok.exfs,ok.funs,ok.frf⟩
section
variable {X:Cx} {pins:List (Addr × Obj)} {σ:St} {H:Hp} {s:Ah} {E:Value->Ah->Prop}
theorem Inv.wish (I:Inv X pins σ H s) (E:Value->Ah->Prop):Inv (X.wish E) pins σ H s:=⟨I.ok.wish E,I.os,I.bare,I.base,I.loc,I.cell,I.free,I.freeC,I.pin,I.hok,I.len⟩
theorem Inv.unwish (I:Inv (X.wish E) pins σ H s):Inv X pins σ H s:=⟨I.ok.unwish,I.os,I.bare,I.base,I.loc,I.cell,I.free,I.freeC,I.pin,I.hok,I.len⟩
theorem SP.unwish {D:Ends} {f:Flow} {s':Ah} (h:SP (X.wish E) pins D f s'):SP X pins D f s':=by
 cases f with
 | next=>obtain ⟨σ',H',I,q⟩:=h; exact ⟨σ',H',I.unwish,q⟩
 | brk=>obtain ⟨σ',H',I,q⟩:=h; exact ⟨σ',H',I.unwish,q⟩
 | cont=>obtain ⟨σ',H',I,q⟩:=h; exact ⟨σ',H',I.unwish,q⟩
 | ret u=>obtain ⟨v,σ',H',I,r,q⟩:=h; exact ⟨v,σ',H',I.unwish,r,q⟩
theorem PSs.nox {st:List Stmt} {t:TS} (h:PSs X.nox st t):PSs X st t:=λpins s σ H D I hw =>
 BO (h pins s σ H D (I.wish _) hw) (λ_ _ q=>q.unwish) λ_ _ z=>B6 z
end
section
variable {X:Cx} {st:Stmt} {qbl:List Stmt} {t u:TS} {e:Expr} {te:TE} {pos:Pos}
noncomputable def qfx:TS:=λD σ H=>D.nx σ H
noncomputable def qrs (t u:TS):TS:=λD σ H=>t { D with nx:=u D } σ H
theorem qaf:PSs X [] qfx:=λ_ _ σ H _ I h=>Dy ⟨σ,H,I,h⟩
theorem qk (h1:PS X st t) (h2:PSs X qbl u):PSs X (st :: qbl) (qrs t u):=by
 intro pins s σ H D I h
 refine wpAny_execs_cons (thn (h1 pins s σ H { D with nx:=u D } I h) λf s1 q => ?_)
 cases f with
 | next =>
  obtain ⟨σ',H',I',q⟩:=q
  exact h2 pins s1 σ' H' D I' q
 | ret v=>exact q
 | brk=>exact q
 | cont=>exact q
theorem qt (h1:PS X st t):PSs X [st] t:=by
 intro pins s σ H D I h
 refine wpAny_execs_cons (thn (h1 pins s σ H D I h) λf s1 q => ?_)
 cases f with
 | next=>exact Dy q
 | ret v=>exact q
 | brk=>exact q
 | cont=>exact q
theorem Inv.quiet {pins:List (Addr × Obj)} {σ:St} {H:Hp} {s:Ah} (I:Inv X pins σ H s):interactive X.env=false:=by simp [interactive,I.ok.kind]
noncomputable def tDrop (te:TE):TS:=λD σ H=>te σ H λ_ H1=>D.nx σ H1
theorem zi (he:PE X e te) (hs:swapsWith e none pos.line X.env=pure false:=by rfl):PS X (.Expr e pos) (tDrop te):=by
 intro pins s σ H D I h
 exact wpAny_Expr_any (thn (he pins s σ H _ I h) λv s1 ⟨x,H1,I1,r1,q1⟩=>⟨σ,H1,I1,q1⟩) I.quiet hs
noncomputable def tRet (te:TE):TS:=λD σ H=>te σ H D.rt
theorem zb (he:PE X e te):PS X (.Return (some e) pos) (tRet te):=by
 intro pins s σ H D I h
 exact wpAny_Return_some (thn (he pins s σ H _ I h) λv s1 ⟨x,H1,I1,r1,q1⟩=>⟨x,σ,H1,I1,r1,q1⟩)
noncomputable def tIfS (c:TT) (t u:TS):TS:=λD σ H=>c σ H λb H1=>if b=true then t D σ H1 else u D σ H1
theorem zj {c:Expr} {a b:List Stmt} {tc:TT} (hc:PT X c tc) (ha:PSs X a t) (hb:PSs X b u):PS X (.If c a b pos) (tIfS tc t u):=by
 intro pins s σ H D I h
 refine wpAny_If (thn (hc pins s σ H _ I h) λd s1 hh9 => ?_)
 obtain ⟨H1,I1,q1⟩:=hh9
 cases d with
 | true=>exact ha pins s1 σ H1 D I1 q1
 | false=>exact hb pins s1 σ H1 D I1 q1
end
noncomputable abbrev TG:=V->St->Hp->(St->Hp->Prop)->Prop
noncomputable abbrev TGs:=List V->St->Hp->(St->Hp->Prop)->Prop
noncomputable def PG (X:Cx) (target:Expr) (t:TG):Prop :=
 ∀ (pins:List (Addr × Obj)) (s:Ah) (σ:St) (H:Hp) (v:V) (u:Value) (Q:St->Hp->Prop),Inv X pins σ H s->RelV v u->t v σ H Q ->
  wpAny (model X.prog X.w) X.A (assign target X.env u) (λ_ s'=>∃ σ' H',Inv X pins σ' H' s'/\Q σ' H') X.xe s
noncomputable def PGs (X:Cx) (ts:List Expr) (t:TGs):Prop :=
 ∀ (pins:List (Addr × Obj)) (s:Ah) (σ:St) (H:Hp) (vs:List V) (us:List Value) (Q:St->Hp->Prop),Inv X pins σ H s->Vals vs us->t vs σ H Q ->
  wpAny (model X.prog X.w) X.A (assignInOrder ((assignEach ts X.env).map (·.2)) us) (λ_ s'=>∃ σ' H',Inv X pins σ' H' s'/\Q σ' H') X.xe s
noncomputable abbrev qyq:=V->V->V->Hp->(Hp->Prop)->Prop
noncomputable def PSet (X:Cx) (t:qyq):Prop :=
 ∀ (pins:List (Addr × Obj)) (s:Ah) (σ:St) (H:Hp) (o i v:V) (ov iv u:Value) (Q:Hp->Prop),Inv X pins σ H s->RelV o ov->RelV i iv->RelV v u->t o i v H Q ->
  wpAny (model X.prog X.w) X.A (setItem ov iv u) (λ_ s'=>∃ H',Inv X pins σ H' s'/\Q H') X.xe s
noncomputable abbrev TIp:=V->V->Hp->VK->Prop
noncomputable def PIp (X:Cx) (op:Operator) (t:TIp):Prop :=
 ∀ (pins:List (Addr × Obj)) (s:Ah) (σ:St) (H:Hp) (x y:V) (v u:Value) (Q:VK),Inv X pins σ H s->RelV x v->RelV y u->t x y H Q ->
  wpAny (model X.prog X.w) X.A (inplaceOp op v u) (EP X pins σ Q) X.xe s
section
variable {X:Cx} {pos:Pos}
noncomputable def qlx (i:Nat):TG:=λv σ H Q=>Q (σ.set i (some v)) H
theorem qap {i:Nat} {x:Str} (hN:X.N.Nodup) (hi:X.N[i]?=some x) (hx:Loc X.env.scope x) (hf:X.fn x=true \/ X.env.scope.names.lookup x=some .local:=by first | exact .inl rfl | exact .inr rfl | assumption):PG X (.Name x pos) (qlx i):=by
 intro pins s σ H v u Q I r h
 exact wpAny_assign_Name (qhw I hN hi hx r (λs' I'=>⟨_,H,I',h⟩) hf)
noncomputable def gNil:TGs:=λvs σ H Q=>vs=[]/\Q σ H
noncomputable def gCons (t:TG) (u:TGs):TGs:=λvs σ H Q=>∃ v r,vs=v :: r/\t v σ H λσ' H'=>u r σ' H' Q
theorem qjt:PGs X [] gNil:=by
 intro pins s σ H vs us Q I r h
 obtain ⟨e,h⟩:=h
 subst e
 cases r
 exact assignInOrder_nil ⟨σ,H,I,h⟩
theorem qdj {e:Expr} {es:List Expr} {t:TG} {u:TGs} (h1:PG X e t) (h2:PGs X es u)
  (hs:(assignEach (e :: es) X.env).map (·.2)=assign e X.env :: (assignEach es X.env).map (·.2):=by rfl):PGs X (e :: es) (gCons t u):=by
 intro pins s σ H vs us Q I r h
 obtain ⟨v,vr,e1,h⟩:=h
 subst e1
 cases r with
 | cons r rr =>
  rw [hs]
  refine assignInOrder_cons (thn (h1 pins s σ H _ _ _ I r h) λ_ s1 hh9 => ?_)
  obtain ⟨σ1,H1,I1,q1⟩:=hh9
  exact h2 pins s1 σ1 H1 _ _ Q I1 rr q1
noncomputable def qwa (K:Ae) (n:Nat) (t:TGs):TG:=λv σ H Q=>∃ a xs,v=.ref a/\SqT K H a xs/\xs.length=n/\t xs σ H Q
theorem qm1 {es:List Expr} {k:Nat} {t:TGs} {n:Nat} (hc:X.calm=true) (h:PGs X es t)
  (hn:(assignEach es X.env).length=n:=by rfl) (hst:(assignEach es X.env).findIdx? (·.1)=none:=by rfl):PG X (.Tuple es k pos) (qwa X.K n t):=by
 intro pins s σ H v u Q I r hw
 obtain ⟨a,xs,e1,hq,hl,hw⟩:=hw
 subst e1
 cases r
 obtain ⟨its,rv,ht,hz⟩:=I.tuple hq
 refine assign_Tuple_tuple (I.ok.hd hc) ht (by simp [hn,<- hl,rv.length]) hst λh' hx => ?_
 have I1:Inv X pins σ H { s with heap:=h' }:=I.kept (t':=s.toks) λb o e=>hx b o (AJ (A3 e)) e
 exact h pins _ σ H xs _ Q I1 (by simpa using rv) hw
noncomputable def gSub (to ti:TE) (t:qyq):TG:=λv σ H Q=>to σ H λo H1=>ti σ H1 λi H2=>t o i v H2 λH3=>Q σ H3
theorem qtk {o i:Expr} {to ti:TE} {t:qyq} (ho:PE X o to) (hi:PE X i ti) (hs:PSet X t)
  (ha:∀ v,assign (.Subscript o i pos) X.env v=(do
   let ov <- holding [v] (eval o X.env)
   let iv <- holding [v,ov] (eval i X.env)
   standAt pos
   holding [v,ov,iv] (setItem ov iv v)
   release [v,ov,iv] []):=by intro _; rfl):PG X (.Subscript o i pos) (gSub to ti t):=by
 intro pins s σ H v u Q I r h
 rw [ha]
 refine Ad (Cg (thn (ho pins s σ H _ I h) λov s1 hh9 => ?_))
 obtain ⟨x,H1,I1,r1,q1⟩:=hh9
 refine Ad (Cg (thn (hi pins s1 σ H1 _ I1 q1) λiv s2 hh9 => ?_))
 obtain ⟨y,H2,I2,r2,q2⟩:=hh9
 refine Ad (DR (Ad (Cg (thn (hs pins s2 σ H2 x y v ov iv u _ I2 r1 r2 r q2) λ_ s3 hh9 => ?_))))
 obtain ⟨H3,I3,q3⟩:=hh9
 exact wpAny_release ⟨σ,H3,I3,q3⟩
noncomputable def qyr (te:TE) (g:TG):TS:=λD σ H=>te σ H λx H1=>g x σ H1 D.nx
theorem qtl {tg e:Expr} {te:TE} {g:TG} (he:PE X e te) (hg:PG X tg g) (hs:swapsWithSole [tg] e pos.line X.env=pure false:=by rfl) (hw:swappedStores [tg] e X.env=pure none:=by rfl)
  (h1:(assignEach [tg] X.env).map (·.2)=[assign tg X.env]:=by rfl):PS X (.Assign [tg] e pos) (qyr te g):=by
 intro pins s σ H D I h
 refine wpAny_Assign_stores (thn (he pins s σ H _ I h) λv s1 hh9 => ?_) hs hw
 obtain ⟨x,H1,I1,r1,q1⟩:=hh9
 rw [h1]
 exact thn (hg pins s1 σ H1 x v _ I1 r1 q1) λ_ s2 q=>q
theorem zf {i:Nat} {x:Str} {e:Expr} {te:TE} {pos':Pos} (hN:X.N.Nodup) (hi:X.N[i]?=some x) (hx:Loc X.env.scope x) (he:PE X e te) (hs:swapsWith e (some (.Name x pos')) pos.line X.env=pure false:=by rfl) (hf:X.fn x=true \/ X.env.scope.names.lookup x=some .local:=by first | exact .inl rfl | exact .inr rfl | assumption) :
  PS X (.Assign [.Name x pos'] e pos) (qyr te (qlx i)):=by
 intro pins s σ H D I h
 refine wpAny_Assign_Name (thn (he pins s σ H _ I h) λv s1 hh9 => ?_) hs
 obtain ⟨y,H1,I1,r1,q1⟩:=hh9
 exact qhw I1 hN hi hx r1 (λs2 I2=>⟨_,H1,I2,q1⟩) hf
noncomputable def tAug (i:Nat) (te:TE) (ti:TIp):TS:=λD σ H=>∃ x,σ[i]?=some (some x)/\te σ H λy H1=>ti x y H1 λz H2=>D.nx (σ.set i (some z)) H2
theorem qys {i:Nat} {x:Str} {e:Expr} {te:TE} {op:Operator} {ti:TIp} {pos':Pos} (hN:X.N.Nodup) (hi:X.N[i]?=some x) (hx:Loc X.env.scope x) (he:PE X e te) (ho:PIp X op ti) (hf:X.fn x=true \/ X.env.scope.names.lookup x=some .local:=by first | exact .inl rfl | exact .inr rfl | assumption) :
  PS X (.AugAssign (.Name x pos') op e pos) (tAug i te ti):=by
 intro pins s σ H D I h
 obtain ⟨v,e1,h⟩:=h
 obtain ⟨m,hn,hl⟩:=I.loc
 have vis:Vis X.env.scope x:=by rcases hx with k | k; exact .inl k; exact .inr (.inl k)
 obtain ⟨u,r,l⟩:=hl i x v hi e1 vis
 refine wpAny_AugAssign_Name ?_
 have go:wpAny (model X.prog X.w) X.A (eval e X.env) (λw s₂=>wpAny (model X.prog X.w) X.A (inplaceOp op u w) (λr s₃=>wpAny (model X.prog X.w) X.A (storeName X.env x r) (λ_=>SP X pins D .next) X.xe s₃) X.xe s₂) X.xe s:=by
  refine thn (he pins s σ H _ I h) λw s1 hh9 => ?_
  obtain ⟨y,H1,I1,r1,q1⟩:=hh9
  refine thn (ho pins s1 σ H1 v y u w _ I1 r r1 q1) λz s2 hh9 => ?_
  obtain ⟨zv,H2,I2,r2,q2⟩:=hh9
  exact qhw I2 hN hi hx r2 (λs3 I3=>⟨_,H2,I3,q2⟩) hf
 rcases l with ⟨hk,hm⟩ | ⟨hk,c,hc,hcell⟩
 .exact wpAny_loadName_local I.ok.kind hk hn hm go
 .rcases hk with hk | hk
  .exact wpAny_loadName_cell I.ok.kind hk hc hcell go
  .rcases hx with k | k
   .have:X.env.scope.names.lookup x=some .free:=hk
    rw [k] at this; cases this
   .have:X.env.scope.names.lookup x=some .free:=hk
    rw [k] at this; cases this
end
section
variable {X:Cx} {pos:Pos}
noncomputable def qyt (c:TT) (tb:TS):TS:=λD σ H=>∃ W:Nat->St->Hp->Prop,(∃ m,W m σ H)/\∀ m σ H,W m σ H ->
 c σ H λb H1=>if b=true then ∃ N:St->Hp->Prop,(∀ σ' H',N σ' H'->∃ m',m' < m/\W m' σ' H')/\tb { D with nx:=N,ct:=N,bk:=D.nx } σ H1 else D.nx σ H1
theorem qtm {c:Expr} {body:List Stmt} {tc:TT} {tb:TS} (hp:BM (model X.prog X.w) X.A X.env X.xe) (hc:PT X c tc) (hb:PSs X body tb):PS X (.While c body [] pos) (qyt tc tb):=by
 intro pins s σ H D I h
 obtain ⟨W,⟨m0,w0⟩,turn⟩:=h
 refine wpAny_While (codeAny_whileLoop (λn s'=>∃ σ' H',Inv X pins σ' H' s'/\W n σ' H') ?_ m0 ⟨σ,H,I,w0⟩)
 rintro n s1 ⟨σ1,H1,I1,w1⟩
 refine CA hp (thn (hc pins s1 σ1 H1 _ I1 (turn n σ1 H1 w1)) λb s2 hh9 => ?_)
 obtain ⟨H2,I2,q2⟩:=hh9
 cases b with
 | true =>
  obtain ⟨N,hN,q2⟩:=q2
  rw [if_pos rfl]
  refine CA hp (thn (hb pins s2 σ1 H2 _ I2 q2) λf s3 q3 => ?_)
  cases f with
  | next =>
   obtain ⟨σ3,H3,I3,n3⟩:=q3
   obtain ⟨m',hm,w3⟩:=hN σ3 H3 n3
   exact ⟨m',hm,σ3,H3,I3,w3⟩
  | cont =>
   obtain ⟨σ3,H3,I3,n3⟩:=q3
   obtain ⟨m',hm,w3⟩:=hN σ3 H3 n3
   exact ⟨m',hm,σ3,H3,I3,w3⟩
  | brk=>exact q3
  | ret v=>exact q3
 | false =>
  rw [if_neg A9]
  exact Dy ⟨σ1,H2,I2,q2⟩
end
structure It where
 go:Nat->Hp->Prop
 yld:Nat->Hp->V->Hp->Prop
 stop:Nat->Hp->Prop
noncomputable def qek (X:Cx) (pins:List (Addr × Obj)) (H:Hp) (b:Addr):Prop :=
 H b=none/\b ≠ X.env.locals/\b ∉ X.fs/\(b ∈ X.ex \/ X.s₀.heap.objs.size <= b)/\(∀ x c,X.env.cells.lookup x=some c->c ≠ b)/\∀ p ∈ X.pn ++ pins,p.1 ≠ b
theorem Inv.fpOk {X:Cx} {pins:List (Addr × Obj)} {σ:St} {H H':Hp} {s:Ah} {b:Addr} (I:Inv X pins σ H s) (hb:s.heap.objs.size <= b) (hn:H' b=none):qek X pins H' b:=by
 refine ⟨hn,C0 (A8 I.lt hb),I.nofs hb,.inr (Au I.sz hb),λx c e z => ?_,λp hp z => ?_⟩
 .obtain ⟨v,q⟩:=I.cell x c e
  exact absurd (A8 q.lt (by rw [z]; exact hb)) (Cf _)
 .exact absurd (A8 (A3 (I.pin p hp).1) (by rw [z]; exact hb)) (Cf _)
structure Turn (P:AN) (w:World) (K:Ae) (tg:Expr) (J:It) (fp:List Addr) (it:Addr) (tn:Nat->Heap->Prop):Prop where
 mem:it ∈ fp
 obj:∀ i h,tn i h->∀ b ∈ fp,∃ o,h.get? b=some o/\∀ v,o.data ≠ .cell v
 keep:∀ i h h',tn i h->(∀ b ∈ fp,∀ o,h.get? b=some o->h'.get? b=some o)->tn i h'
 item:∀ (X:Cx),X.prog=P->X.w=w->X.K=K->X.calm=true->∀ (i:Nat) (pins:List (Addr × Obj)) (s:Ah) (σ:St) (H:Hp) (E:Value->Ah->Prop),Inv X pins σ H s->(∀ b ∈ fp,qek X pins H b)->tn i s.heap->J.go i H ->
  wpAny (model P w) X.A (pyNext (.ref it)) (λr s1=>∃ u,r=some u /\
   wpAny (model P w) X.A (letOwnedTupleGo tg (.ref it) u) (λ_ s2=>∃ x H',Inv X pins σ H' s2/\RelV x u/\J.yld i H x H'/\tn (i + 1) s2.heap/\∀ b ∈ fp,H' b=none) E s1) E s
 done:∀ (X:Cx),X.prog=P->X.w=w->X.K=K->X.calm=true->∀ (i:Nat) (pins:List (Addr × Obj)) (s:Ah) (σ:St) (H:Hp) (E:Value->Ah->Prop),Inv X pins σ H s->(∀ b ∈ fp,qek X pins H b)->tn i s.heap->J.stop i H ->
  wpAny (model P w) X.A (pyNext (.ref it)) (λr s1=>r=none/\Inv X pins σ H s1) E s
 self:∀ (A:AX) (i:Nat) (s:Ah) (Q:Value->Ah->Prop) (E:Value->Ah->Prop),tn i s.heap->Q (.ref it) s->wpAny (model P w) A (pyIter (.ref it)) Q E s
noncomputable abbrev TI:=St->Hp->(It->Hp->Prop)->Prop
noncomputable def PIE (X:Cx) (pins:List (Addr × Obj)) (σ:St) (tg:Expr) (R:It->Hp->Prop) (itv:Value) (s2:Ah):Prop :=
 ∃ (it:Addr) (fp:List Addr) (tn:Nat->Heap->Prop) (J:It) (H':Hp),itv=.ref it/\Inv X pins σ H' s2/\Turn X.prog X.w X.K tg J fp it tn/\tn 0 s2.heap/\(∀ b ∈ fp,qek X pins H' b)/\R J H'
noncomputable def PI (X:Cx) (tg iter:Expr) (wi:TI):Prop :=
 ∀ (pins:List (Addr × Obj)) (s:Ah) (σ:St) (H:Hp) (R:It->Hp->Prop),Inv X pins σ H s->wi σ H R ->
  wpAny (model X.prog X.w) X.A (eval iter X.env) (λv s1=>wpAny (model X.prog X.w) X.A (pyIter v) (PIE X pins σ tg R) X.xe s1) X.xe s
theorem qqq {M:Model} {A:AX} {E:Value->Ah->Prop} {s:Ah} {tg:Expr} {it:Addr} {u:Value} {o:Obj} {n:String} {vs:Array Value} {Q:Unit->Ah->Prop} (ho:s.heap.get? it=some o) (hc:o.cls=.type n) (hd:o.data=.fields vs)
  (hn:["enumerate", "zip", "dict_itemiterator", "dict_reverseitemiterator", "odict_iterator", "itertools.zip_longest", "itertools.pairwise"].contains n=false) (hQ:Q () s):wpAny M A (letOwnedTupleGo tg (.ref it) u) Q E s:=by
 unfold letOwnedTupleGo
 cases tg <;> first
  | exact A2 hQ
  | (cases u <;> first
    | exact A2 hQ
    | (refine Ad (wpAny_load ho ?_)
       rw [hc,hd]
       show wpAny M A (if (["enumerate", "zip", "dict_itemiterator", "dict_reverseitemiterator", "odict_iterator", "itertools.zip_longest", "itertools.pairwise"].contains n && vs[0]? == some (rawInt _))=true then _ else _) Q E s
       rw [if_neg (by intro h; rw [hn,BP] at h; cases h)]
       exact A2 hQ))
noncomputable def Itl (K:Ae) (a:Addr):It :=
 ⟨λi H=>∃ xs x,SqL K H a xs/\xs[i]?=some x,λi H x H'=>H'=H/\∀ xs,SqL K H a xs->xs[i]?=some x,λi H=>∃ xs,SqL K H a xs/\xs.length <= i⟩
noncomputable def Itt (K:Ae) (a:Addr):It :=
 ⟨λi H=>∃ xs x,SqT K H a xs/\xs[i]?=some x,λi H x H'=>H'=H/\∀ xs,SqT K H a xs->xs[i]?=some x,λi H=>∃ xs,SqT K H a xs/\xs.length <= i⟩
noncomputable def Itr (lo:Int) (n:Nat):It:=⟨λi _=>i < n,λi H x H'=>H'=H/\x=.int (lo + i),λi _=>n <= i⟩
theorem qrt {P:AN} {w:World} {K:Ae} {tg:Expr} (a it:Addr):Turn P w K tg (Itl K a) [it] it (λi h=>h.IsListIter it a i) where
 mem:=by simp
 obj:=λi h st b hb=>by
  have e:b=it:=by simpa using hb
  subst e
  obtain ⟨o,e,c,d⟩:=st
  exact ⟨o,e,λv z=>by rw [d] at z; cases z⟩
 keep:=λi h h' st k=>st.at λo e=>k it (by simp) o e
 item:=by
  intro X hP hw hK hc i pins s σ H E I hf st hg
  subst hP hw hK
  obtain ⟨xs,x,hq,hx⟩:=hg
  obtain ⟨its,rv,p,hz⟩:=I.list hq
  obtain ⟨u,hu,ru⟩:=rv.get hx
  obtain ⟨f0,f1,f2,f3,f4,f5⟩:=hf it (by simp)
  refine wpAny_pyNext_list_item st p.isList (x:=u) (by simpa using hu) λh' st' sb => ?_
  have I1:Inv X pins σ H { s with heap:=h' }:=I.turned (t':=s.toks) (λb o hb e=>(sb.2 b hb).trans e) f0 f1 f3 f4 f5
  obtain ⟨o,e,c,d⟩:=id st'
  exact ⟨u,rfl,qqq (s:={ s with heap:=h' }) e c d Ez ⟨x,H,I1,ru,⟨rfl,λys hy=>by rw [I.list_inj hy hq]; exact hx⟩,st',λb hb=>(hf b hb).1⟩⟩
 done:=by
  intro X hP hw hK hc i pins s σ H E I hf st hg
  subst hP hw hK
  obtain ⟨xs,hq,hx⟩:=hg
  obtain ⟨its,rv,p,hz⟩:=I.list hq
  obtain ⟨f0,f1,f2,f3,f4,f5⟩:=hf it (by simp)
  have hl:=rv.length
  exact wpAny_pyNext_list_end (I.ok.hd hc) st p.isList (by simp; lia) λh' eb=>⟨rfl,I.turned (t':=s.toks) (λb o hb e=>eb b o hb e) f0 f1 f3 f4 f5⟩
 self:=λ_ _ _ _ _ st h=>wpAny_pyIter_listiter st h
theorem qpd {P:AN} {w:World} {K:Ae} {tg:Expr} (a it:Addr):Turn P w K tg (Itt K a) [it] it (λi h=>h.IsTupleIter it a i) where
 mem:=by simp
 obj:=λi h st b hb=>by
  have e:b=it:=by simpa using hb
  subst e
  obtain ⟨o,e,c,d⟩:=st
  exact ⟨o,e,λv z=>by rw [d] at z; cases z⟩
 keep:=λi h h' st k=>st.at λo e=>k it (by simp) o e
 item:=by
  intro X hP hw hK hc i pins s σ H E I hf st hg
  subst hP hw hK
  obtain ⟨xs,x,hq,hx⟩:=hg
  obtain ⟨its,rv,p,hz⟩:=I.tuple hq
  obtain ⟨u,hu,ru⟩:=rv.get hx
  obtain ⟨f0,f1,f2,f3,f4,f5⟩:=hf it (by simp)
  refine wpAny_pyNext_tuple_item st (show s.heap.IsTuple a its.toArray from p) (x:=u) (by simpa using hu) λh' st' sb => ?_
  have I1:Inv X pins σ H { s with heap:=h' }:=I.turned (t':=s.toks) (λb o hb e=>(sb.2 b hb).trans e) f0 f1 f3 f4 f5
  obtain ⟨o,e,c,d⟩:=id st'
  exact ⟨u,rfl,qqq (s:={ s with heap:=h' }) e c d Ez ⟨x,H,I1,ru,⟨rfl,λys hy=>by rw [I.tuple_inj hy hq]; exact hx⟩,st',λb hb=>(hf b hb).1⟩⟩
 done:=by
  intro X hP hw hK hc i pins s σ H E I hf st hg
  subst hP hw hK
  obtain ⟨xs,hq,hx⟩:=hg
  obtain ⟨its,rv,p,hz⟩:=I.tuple hq
  obtain ⟨f0,f1,f2,f3,f4,f5⟩:=hf it (by simp)
  have hl:=rv.length
  exact wpAny_pyNext_tuple_end (I.ok.hd hc) st (show s.heap.IsTuple a its.toArray from p) (by simp; lia) λh' eb=>⟨rfl,I.turned (t':=s.toks) (λb o hb e=>eb b o hb e) f0 f1 f3 f4 f5⟩
 self:=λ_ _ _ _ _ st h=>wpAny_pyIter_tupleiter st h
theorem qpe {P:AN} {w:World} {K:Ae} {tg:Expr} (it:Addr) (lo:Int) (n:Nat):Turn P w K tg (Itr lo n) [it] it (λi h=>IsRangeIter h it (lo + (i:Nat) * 1) ((n:Int) - (i:Nat)) 1) where
 mem:=by simp
 obj:=λi h st b hb=>by
  have e:b=it:=by simpa using hb
  subst e
  exact ⟨_,st,λv z=>by
   have z':Data.fields _=Data.cell v:=z
   cases z'⟩
 keep:=λi h h' st k=>k it (by simp) _ st
 item:=by
  intro X hP hw hK hc i pins s σ H E I hf st hg
  subst hP hw hK
  obtain ⟨f0,f1,f2,f3,f4,f5⟩:=hf it (by simp)
  have W:=Walks.range (prog:=X.prog) (w:=X.w) (I.ok.hd hc) it lo 1 n
  refine W.item i s _ _ hg st λv h' tk hv st' kk => ?_
  obtain ⟨t,rfl⟩:=hv
  have I1:Inv X pins σ H { s with heap:=h',toks:=tk }:=I.turned (λb o hb e=>kk b o (by simpa using hb) e) f0 f1 f3 f4 f5
  refine ⟨_,rfl,qqq (s:={ s with heap:=h',toks:=tk }) (n := "range_iterator") st' rfl rfl Ez ⟨.int (lo + i),H,I1,⟨t,?_⟩,⟨rfl,rfl⟩,st',λb hb=>(hf b hb).1⟩⟩
  rw [Int.mul_one]
 done:=by
  intro X hP hw hK hc i pins s σ H E I hf st hg
  subst hP hw hK
  obtain ⟨f0,f1,f2,f3,f4,f5⟩:=hf it (by simp)
  exact wpAny_pyNext_range_end (I.ok.hd hc) st (by have:n <= i:=hg; lia) λh' eb=>⟨rfl,I.turned (t':=s.toks) (λb o hb e=>eb b o hb e) f0 f1 f3 f4 f5⟩
 self:=λ_ _ _ _ _ st h=>wpAny_pyIter_rangeiter st h
end L2
namespace L2
open PySem PySem.Spec PyProof.Rows
section
variable {X:Cx} {tg:Expr}
noncomputable def iList (K:Ae) (tl:TE):TI:=λσ H R=>tl σ H λx H1=>∃ a,x=.ref a/\(∃ xs,SqL K H1 a xs)/\R (Itl K a) H1
noncomputable def iTup (K:Ae) (tl:TE):TI:=λσ H R=>tl σ H λx H1=>∃ a,x=.ref a/\(∃ xs,SqT K H1 a xs)/\R (Itt K a) H1
theorem qb8 {l:Expr} {tl:TE} (hl:PE X l tl):PI X tg l (iList X.K tl):=by
 intro pins s σ H R I h
 refine thn (hl pins s σ H _ I h) λv s1 hh9 => ?_
 obtain ⟨x,H1,I1,r1,q1⟩:=hh9
 obtain ⟨a,e,⟨xs,hq⟩,q⟩:=q1
 subst e
 cases r1
 obtain ⟨its,rv,p,hz⟩:=I1.list hq
 refine D6 p.isList ?_
 refine ⟨s1.heap.objs.size,[s1.heap.objs.size],_,_,H1,rfl,I1.kept (t':=s1.toks) λb o e=>Am _ e,qrt a _,⟨_,A5 _ rfl,rfl,rfl⟩,λb hb => ?_,q⟩
 have e:b=s1.heap.objs.size:=by simpa using hb
 subst e
 exact I1.fpOk (A1 _) (I1.hok.fresh (A1 _))
theorem qyu {l:Expr} {tl:TE} (hl:PE X l tl):PI X tg l (iTup X.K tl):=by
 intro pins s σ H R I h
 refine thn (hl pins s σ H _ I h) λv s1 hh9 => ?_
 obtain ⟨x,H1,I1,r1,q1⟩:=hh9
 obtain ⟨a,e,⟨xs,hq⟩,q⟩:=q1
 subst e
 cases r1
 obtain ⟨its,rv,p,hz⟩:=I1.tuple hq
 refine wpAny_pyIter_tuple (show s1.heap.IsTuple a its.toArray from p) ?_
 refine ⟨s1.heap.objs.size,[s1.heap.objs.size],_,_,H1,rfl,I1.kept (t':=s1.toks) λb o e=>Am _ e,qpd a _,⟨_,A5 _ rfl,rfl,rfl⟩,λb hb => ?_,q⟩
 have e:b=s1.heap.objs.size:=by simpa using hb
 subst e
 exact I1.fpOk (A1 _) (I1.hok.fresh (A1 _))
theorem qny {pins:List (Addr × Obj)} {σ:St} {H:Hp} {s:Ah} {R:It->Hp->Prop} {E:Value->Ah->Prop} {lo hi:Int} {t u v:Tok} {tk:Nat} (I:Inv X pins σ H s) (h1 : -(2 ^ 62) <= lo) (h2:lo < 2 ^ 62) (h3 : -(2 ^ 62) <= hi) (h4:hi < 2 ^ 62)
  (q:R (Itr lo (hi - lo).toNat) H):wpAny (model X.prog X.w) X.A (pyIter (.ref s.heap.objs.size)) (PIE X pins σ tg R) E { s with heap:=s.heap.push { cls:=.type "range",data:=.fields #[.int lo t,.int hi u,.int 1 v] },toks:=tk }:=by
 refine wpAny_pyIter_range (IsRange.new ..) (small_one h1 h2 h3 h4) ?_
 have I1:Inv X pins σ H { s with heap:=s.heap.push { cls:=.type "range",data:=.fields #[.int lo t,.int hi u,.int 1 v] },toks:=tk }:=I.kept λb o e=>Am _ e
 refine ⟨(s.heap.push { cls:=.type "range",data:=.fields #[.int lo t,.int hi u,.int 1 v] }).objs.size,[(s.heap.push { cls:=.type "range",data:=.fields #[.int lo t,.int hi u,.int 1 v] }).objs.size],_,_,H,rfl,
  I1.kept (t':=tk) λb o e=>Am _ e,qpe _ lo (hi - lo).toNat,?_,λb hb => ?_,q⟩
 .have e1:lo + ((0:Nat):Int) * 1=lo:=by simp
  have e2:(((hi - lo).toNat:Nat):Int) - ((0:Nat):Int)=AM.Range.rangeSize lo hi 1:=by rw [rangeSize_one]; split <;> lia
  show IsRangeIter _ _ (lo + ((0:Nat):Int) * 1) ((((hi - lo).toNat:Nat):Int) - ((0:Nat):Int)) 1
  rw [e1,e2]
  exact A5 _ rfl
 .have e:b=(s.heap.push { cls:=.type "range",data:=.fields #[.int lo t,.int hi u,.int 1 v] }).objs.size:=by simpa using hb
  subst e
  exact I1.fpOk (A1 _) (I1.hok.fresh (A1 _))
noncomputable def iRng1 (ta:TA):TI:=λσ H R=>ta σ H λvs H1=>∃ j:Int,vs=[.int j] /\ -(2 ^ 62) <= j/\j < 2 ^ 62/\R (Itr 0 j.toNat) H1
noncomputable def iRng2 (ta:TA):TI:=λσ H R=>ta σ H λvs H1=>∃ i j:Int,vs=[.int i,.int j]/\(-(2 ^ 62) <= i/\i < 2 ^ 62 /\ -(2 ^ 62) <= j/\j < 2 ^ 62)/\R (Itr i (j - i).toNat) H1
theorem qdi {a:Expr} {ta:TA} {p pos:Pos} (hg:Gl X "range") (hm:X.mg "range" = none) (ha:PA X [a] ta) (hs:starEach [a] X.env=[(false,eval a X.env)]:=by rfl):PI X tg (.Call (.Name "range" p) [a] [] pos) (iRng1 ta):=by
 intro pins s σ H R I h
 refine Call_ (qe5 I hg hm boot_range (Br (thn (ha pos pins s σ H _ I h) λus s1 hh9 => ?_) hs rfl))
 obtain ⟨vs,H1,I1,r1,q1⟩:=hh9
 obtain ⟨j,e,q1,q2,q⟩:=q1
 subst e
 cases r1 with
 | cons r rr =>
  cases rr
  obtain ⟨t,rfl⟩:=r
  exact call_range_1 (qny I1 (by lia) (by lia) q1 q2 (by simpa using q))
theorem qru {a b:Expr} {ta:TA} {p pos:Pos} (hg:Gl X "range") (hm:X.mg "range" = none) (ha:PA X [a,b] ta) (hs:starEach [a,b] X.env=[(false,eval a X.env),(false,eval b X.env)]:=by rfl) (hs2:starEach [b] X.env=[(false,eval b X.env)]:=by rfl) :
  PI X tg (.Call (.Name "range" p) [a,b] [] pos) (iRng2 ta):=by
 intro pins s σ H R I h
 refine Call_ (qe5 I hg hm boot_range (Br (thn (ha pos pins s σ H _ I h) λus s1 hh9 => ?_) (by rw [hs,hs2]) (by rw [hs2]; rfl)))
 obtain ⟨vs,H1,I1,r1,q1⟩:=hh9
 obtain ⟨i,j,e,⟨q1,q2,q3,q4⟩,q⟩:=q1
 subst e
 cases r1 with
 | cons r rr =>
  cases rr with
  | cons r' rr =>
   cases rr
   obtain ⟨t,rfl⟩:=r
   obtain ⟨t',rfl⟩:=r'
   exact call_range_2 (qny I1 q1 q2 q3 q4 q)
noncomputable def tFor (wi:TI) (g:TG) (tb:TS):TS:=λD σ H=>wi σ H λJ H1=>∃ W:Nat->Nat->St->Hp->Prop,(∃ m,W 0 m σ H1)/\∀ i m σ H,W i m σ H ->
 (J.stop i H/\D.nx σ H) \/ (J.go i H/\∃ N:St->Hp->Prop,(∀ σ' H',N σ' H'->∃ m',m' < m/\W (i + 1) m' σ' H')/\∀ x H',J.yld i H x H'->g x σ H' λσ2 H2=>tb { D with nx:=N,ct:=N,bk:=D.nx } σ2 H2)
noncomputable def qj4 (fp:List Addr) (h:Heap):List (Addr × Obj):=fp.filterMap λb=>(h.get? b).map λo=>(b,o)
theorem qfk {fp:List Addr} {h:Heap} {b:Addr} {o:Obj} (hb:b ∈ fp) (e:h.get? b=some o):(b,o) ∈ qj4 fp h:=Ej.mpr ⟨b,hb,by rw [e]; rfl⟩
theorem qrv {fp:List Addr} {h:Heap} {p:Addr × Obj} (hp:p ∈ qj4 fp h):p.1 ∈ fp/\h.get? p.1=some p.2:=by
 obtain ⟨b,hb,e⟩:=Ej.mp hp
 cases q:h.get? b with
 | none=>rw [q] at e; cases e
 | some o =>
  rw [q] at e
  have e':(b,o)=p:=AF e
  subst e'
  exact ⟨hb,q⟩
theorem Inv.pinned {pins:List (Addr × Obj)} {σ:St} {H:Hp} {s:Ah} {fp:List Addr} (I:Inv X pins σ H s) (hf:∀ b ∈ fp,qek X pins H b) (ho:∀ b ∈ fp,∃ o,s.heap.get? b=some o/\∀ v,o.data ≠ .cell v):Inv X (pins ++ qj4 fp s.heap) σ H s :=
 I.pins_of λp hp=>(Ax.mp hp).elim (λz=>I.pin p (AE _ z)) λz=>by
  obtain ⟨hb,e⟩:=qrv z
  obtain ⟨f0,f1,f2,_⟩:=hf p.1 hb
  obtain ⟨o,e',d⟩:=ho p.1 hb
  rw [e] at e'; cases e'
  exact ⟨e,f0,f1,f2,d⟩
theorem Inv.unpinned {pins pl:List (Addr × Obj)} {σ:St} {H:Hp} {s:Ah} (I:Inv X (pins ++ pl) σ H s):Inv X pins σ H s:=I.pins_of λp hp=>I.pin p (AE _ (Bi _ hp))
theorem qcr {iter:Expr} {body:List Stmt} {wi:TI} {g:TG} {tb:TS} {pos:Pos} (hp:BM (model X.prog X.w) X.A X.env X.xe) (hc:X.calm=true) (hi:PI X tg iter wi) (hg:PG X tg g) (hb:PSs X body tb)
  (hs:∀ x,foldedSetIterable iter X.env x=pure x:=by intro _; rfl):PS X (.For tg iter body [] pos) (tFor wi g tb):=by
 intro pins s σ H D I h
 refine wpAny_For (thn (hi pins s σ H _ I h) λv s1 h1=>thn h1 λitv s2 h2 => ?_) hs
 obtain ⟨it,fp,tn,J,H2,e,I2,T,st2,f2,W,⟨m0,w0⟩,turn⟩:=h2
 subst e
 -- what stays true of the iterator's objects through the loop
 have stat:∀ {H':Hp},(∀ b ∈ fp,H' b=none)->∀ b ∈ fp,qek X pins H' b:=λhn b hb=>⟨hn b hb,(f2 b hb).2⟩
 refine codeAny_forLoop_any (λn s'=>∃ i σ' H',Inv X pins σ' H' s'/\tn i s'.heap/\(∀ b ∈ fp,H' b=none)/\W i n σ' H') ?_ m0 ⟨0,σ,H2,I2,st2,λb hb=>(f2 b hb).1,w0⟩
 rintro n s3 ⟨i,σ3,H3,I3,st3,fr3,w3⟩
 rcases turn i n σ3 H3 w3 with ⟨stop,qn⟩ | ⟨go,N,hN,step⟩
 .refine CA hp (thn (T.done X rfl rfl rfl hc i pins s3 σ3 H3 X.xe I3 (stat fr3) st3 stop) λr s4 hh9 => ?_)
  obtain ⟨hr,I4⟩:=hh9
  subst hr
  exact Dy ⟨σ3,H3,I4,qn⟩
 .refine CA hp (thn (T.item X rfl rfl rfl hc i pins s3 σ3 H3 X.xe I3 (stat fr3) st3 go) λr s4 hh9 => ?_)
  obtain ⟨u,hr,h4⟩:=hh9
  subst hr
  refine CA hp (thn h4 λ_ s5 hh9 => ?_)
  obtain ⟨x,H5,I5,r5,y5,st5,fr5⟩:=hh9
  have I5':=I5.pinned (stat fr5) (T.obj _ _ st5)
  refine CA hp (thn (hg _ s5 σ3 H5 x u _ I5' r5 (step x H5 y5)) λ_ s6 hh9 => ?_)
  obtain ⟨σ6,H6,I6,q6⟩:=hh9
  refine CA hp (thn (hb _ s6 σ6 H6 _ I6 q6) λf s7 q7 => ?_)
  have again:∀ {σ7:St} {H7:Hp},Inv X (pins ++ qj4 fp s5.heap) σ7 H7 s7->N σ7 H7->∃ m,m < n/\∃ i σ' H',Inv X pins σ' H' s7/\tn i s7.heap/\(∀ b ∈ fp,H' b=none)/\W i m σ' H':=λ{σ7 H7} I7 n7=>by
   obtain ⟨m',hm,w7⟩:=hN σ7 H7 n7
   refine ⟨m',hm,i + 1,σ7,H7,I7.unpinned,T.keep _ _ _ st5 λb hb o e=>(I7.pin (b,o) (AE _ (AE _ (qfk hb e)))).1,λb hb => ?_,w7⟩
   obtain ⟨o,e,d⟩:=T.obj _ _ st5 b hb
   exact (I7.pin (b,o) (AE _ (AE _ (qfk hb e)))).2.1
  cases f with
  | next=>obtain ⟨σ7,H7,I7,n7⟩:=q7; exact again I7 n7
  | cont=>obtain ⟨σ7,H7,I7,n7⟩:=q7; exact again I7 n7
  | brk=>obtain ⟨σ7,H7,I7,q7⟩:=q7; exact ⟨σ7,H7,I7.unpinned,q7⟩
  | ret v=>obtain ⟨x7,σ7,H7,I7,r7,q7⟩:=q7; exact ⟨x7,σ7,H7,I7.unpinned,r7,q7⟩
end
theorem qd2 {K:Ae} {a:Addr} {xs:List V} {g:TG} {tb:TS} {D:Ends} {σ:St} {H:Hp} (Pv:Nat->St->Hp->Prop) (h0:Pv 0 σ H) (hl:∀ i σ H,i <= xs.length->Pv i σ H->SqL K H a xs)
  (hs:∀ i x σ H,xs[i]?=some x->Pv i σ H->g x σ H λσ2 H2=>tb { D with nx:=Pv (i + 1),ct:=Pv (i + 1),bk:=D.nx } σ2 H2) (hd:∀ σ H,Pv xs.length σ H->D.nx σ H) :
  ∃ W:Nat->Nat->St->Hp->Prop,(∃ m,W 0 m σ H)/\∀ i m σ H,W i m σ H ->
   ((Itl K a).stop i H/\D.nx σ H) \/ ((Itl K a).go i H/\∃ N:St->Hp->Prop,(∀ σ' H',N σ' H'->∃ m',m' < m/\W (i + 1) m' σ' H')/\∀ x H',(Itl K a).yld i H x H'->g x σ H' λσ2 H2=>tb { D with nx:=N,ct:=N,bk:=D.nx } σ2 H2):=by
 refine ⟨λi m σ H=>m=xs.length - i/\i <= xs.length/\Pv i σ H,⟨xs.length,by simp,Bt _,h0⟩,?_⟩
 rintro i m σ H ⟨rfl,hi,p⟩
 have q:=hl i σ H hi p
 by_cases hlt:i < xs.length
 .refine .inr ⟨⟨xs,xs[i],q,by simp [hlt]⟩,Pv (i + 1),λσ' H' p'=>⟨xs.length - (i + 1),by lia,rfl,hlt,p'⟩,λx H' y => ?_⟩
  obtain ⟨e,y⟩:=y
  subst e
  exact hs i x σ _ (y xs q) p
 .have e:i=xs.length:=by lia
  subst e
  exact .inl ⟨⟨xs,q,A1 _⟩,hd σ H p⟩
theorem qwb {K:Ae} {a:Addr} {xs:List V} {g:TG} {tb:TS} {D:Ends} {σ:St} {H:Hp} (Pv:Nat->St->Hp->Prop) (h0:Pv 0 σ H) (hl:∀ i σ H,i <= xs.length->Pv i σ H->SqT K H a xs)
  (hs:∀ i x σ H,xs[i]?=some x->Pv i σ H->g x σ H λσ2 H2=>tb { D with nx:=Pv (i + 1),ct:=Pv (i + 1),bk:=D.nx } σ2 H2) (hd:∀ σ H,Pv xs.length σ H->D.nx σ H) :
  ∃ W:Nat->Nat->St->Hp->Prop,(∃ m,W 0 m σ H)/\∀ i m σ H,W i m σ H ->
   ((Itt K a).stop i H/\D.nx σ H) \/ ((Itt K a).go i H/\∃ N:St->Hp->Prop,(∀ σ' H',N σ' H'->∃ m',m' < m/\W (i + 1) m' σ' H')/\∀ x H',(Itt K a).yld i H x H'->g x σ H' λσ2 H2=>tb { D with nx:=N,ct:=N,bk:=D.nx } σ2 H2):=by
 refine ⟨λi m σ H=>m=xs.length - i/\i <= xs.length/\Pv i σ H,⟨xs.length,by simp,Bt _,h0⟩,?_⟩
 rintro i m σ H ⟨rfl,hi,p⟩
 have q:=hl i σ H hi p
 by_cases hlt:i < xs.length
 .refine .inr ⟨⟨xs,xs[i],q,by simp [hlt]⟩,Pv (i + 1),λσ' H' p'=>⟨xs.length - (i + 1),by lia,rfl,hlt,p'⟩,λx H' y => ?_⟩
  obtain ⟨e,y⟩:=y
  subst e
  exact hs i x σ _ (y xs q) p
 .have e:i=xs.length:=by lia
  subst e
  exact .inl ⟨⟨xs,q,A1 _⟩,hd σ H p⟩
theorem qfa {lo:Int} {n:Nat} {g:TG} {tb:TS} {D:Ends} {σ:St} {H:Hp} (Pv:Nat->St->Hp->Prop) (h0:Pv 0 σ H)
  (hs:∀ i σ H,i < n->Pv i σ H->g (.int (lo + i)) σ H λσ2 H2=>tb { D with nx:=Pv (i + 1),ct:=Pv (i + 1),bk:=D.nx } σ2 H2) (hd:∀ σ H,Pv n σ H->D.nx σ H) :
  ∃ W:Nat->Nat->St->Hp->Prop,(∃ m,W 0 m σ H)/\∀ i m σ H,W i m σ H ->
   ((Itr lo n).stop i H/\D.nx σ H) \/ ((Itr lo n).go i H/\∃ N:St->Hp->Prop,(∀ σ' H',N σ' H'->∃ m',m' < m/\W (i + 1) m' σ' H')/\∀ x H',(Itr lo n).yld i H x H'->g x σ H' λσ2 H2=>tb { D with nx:=N,ct:=N,bk:=D.nx } σ2 H2):=by
 refine ⟨λi m σ H=>m=n - i/\i <= n/\Pv i σ H,⟨n,by simp,Bt _,h0⟩,?_⟩
 rintro i m σ H ⟨rfl,hi,p⟩
 by_cases hlt:i < n
 .refine .inr ⟨hlt,Pv (i + 1),λσ' H' p'=>⟨n - (i + 1),by lia,rfl,hlt,p'⟩,λx H' y => ?_⟩
  obtain ⟨e,y⟩:=y
  subst e y
  exact hs i σ _ hlt p
 .have e:i=n:=by lia
  subst e
  exact .inl ⟨A1 _,hd σ H p⟩
end L2
namespace L2
open PySem PySem.Spec PyProof.Rows
noncomputable abbrev R2:=V->V->Hp->VK->Prop
noncomputable def OpR (X:Cx) (f:Value->Value->Sem Value) (r:R2):Prop :=
 ∀ (pins:List (Addr × Obj)) (s:Ah) (σ:St) (H:Hp) (x y:V) (v u:Value) (Q:VK),Inv X pins σ H s->RelV x v->RelV y u->r x y H Q ->
  wpAny (model X.prog X.w) X.A (f v u) (EP X pins σ Q) X.xe s
noncomputable def qel (X:Cx) (f:Value) (r:List V->Hp->VK->Prop):Prop :=
 ∀ (pins:List (Addr × Obj)) (s:Ah) (σ:St) (H:Hp) (xs:List V) (us:List Value) (Q:VK),Inv X pins σ H s->Vals xs us->r xs H Q ->
  wpAny (model X.prog X.w) X.A (call f us) (EP X pins σ Q) X.xe s
noncomputable def tOp (r:R2) (ta tb:TE):TE:=λσ H Q=>ta σ H λx H1=>tb σ H1 λy H2=>r x y H2 Q
noncomputable def rI (C:Int->Int->Prop) (g:Int->Int->V):R2:=λx y H Q=>∃ i j,x=.int i/\y=.int j/\C i j/\Q (g i j) H
noncomputable def rI0 (g:Int->Int->V):R2:=λx y H Q=>∃ i j,x=.int i/\y=.int j/\Q (g i j) H
section
variable {X:Cx} {a b c:Expr} {ta tb tc:TE} {pos:Pos}
theorem qyv (ha:PE X a ta) (hb:PE X b tb) {pins:List (Addr × Obj)} {s:Ah} {σ:St} {H:Hp} {R:V->V->Hp->Prop} (I:Inv X pins σ H s)
  (h:ta σ H λx H1=>tb σ H1 λy H2=>R x y H2) {Q:Value->Ah->Prop} {f:Value->Value->Sem Value}
  (hf:∀ v u s2 x y H2,Inv X pins σ H2 s2->RelV x v->RelV y u->R x y H2->wpAny (model X.prog X.w) X.A (f v u) Q X.xe s2) :
  wpAny (model X.prog X.w) X.A (eval a X.env) (λv s₁=>wpAny (model X.prog X.w) X.A (eval b X.env) (λu s₂=>wpAny (model X.prog X.w) X.A (f v u) Q X.xe s₂) X.xe s₁) X.xe s:=by
 refine thn (ha pins s σ H _ I h) λv s1 hh9 => ?_
 obtain ⟨x,H1,I1,r1,q1⟩:=hh9
 refine thn (hb pins s1 σ H1 _ I1 q1) λu s2 hh9 => ?_
 obtain ⟨y,H2,I2,r2,q2⟩:=hh9
 exact hf v u s2 x y H2 I2 r1 r2 q2
theorem zg {op:Operator} {r:R2} (ho:OpR X (binaryOp op) r) (ha:PE X a ta) (hb:PE X b tb):PE X (.BinOp a op b pos) (tOp r ta tb):=by
 intro pins s σ H Q I h
 exact wpAny_BinOp (qyv ha hb I h λv u s2 x y H2 I2 rx ry q=>ho pins s2 σ H2 x y v u Q I2 rx ry q)
theorem opI {f:Value->Value->Sem Value} {C:Int->Int->Prop} {g:Int->Int->Int}
  (rule:∀ (i j:Int) (t u:Tok) (s:Ah) (Q:Value->Ah->Prop) (E:Value->Ah->Prop),C i j->Q (.int (g i j) s.toks) { s with toks:=s.toks + 1 }->wpAny (model X.prog X.w) X.A (f (.int i t) (.int j u)) Q E s) :
  OpR X f (rI C λi j=>.int (g i j)):=by
 intro pins s σ H x y v u Q I rx ry h
 obtain ⟨i,j,rfl,rfl,hc,q⟩:=h
 obtain ⟨t,rfl⟩:=rx
 obtain ⟨t',rfl⟩:=ry
 exact rule i j t t' s _ _ hc ⟨.int (g i j),H,I.tok _,⟨_,rfl⟩,q⟩
theorem opI0 {f:Value->Value->Sem Value} {g:Int->Int->Int}
  (rule:∀ (i j:Int) (t u:Tok) (s:Ah) (Q:Value->Ah->Prop) (E:Value->Ah->Prop),Q (.int (g i j) s.toks) { s with toks:=s.toks + 1 }->wpAny (model X.prog X.w) X.A (f (.int i t) (.int j u)) Q E s) :
  OpR X f (rI0 λi j=>.int (g i j)):=by
 intro pins s σ H x y v u Q I rx ry h
 obtain ⟨i,j,rfl,rfl,q⟩:=h
 obtain ⟨t,rfl⟩:=rx
 obtain ⟨t',rfl⟩:=ry
 exact rule i j t t' s _ _ ⟨.int (g i j),H,I.tok _,⟨_,rfl⟩,q⟩
theorem qyw {f:Value->Value->Sem Value} {g:Int->Int->Bool}
  (rule:∀ (i j:Int) (t u:Tok) (s:Ah) (Q:Value->Ah->Prop) (E:Value->Ah->Prop),Q (.bool (g i j)) s->wpAny (model X.prog X.w) X.A (f (.int i t) (.int j u)) Q E s) :
  OpR X f (rI0 λi j=>.bl (g i j)):=by
 intro pins s σ H x y v u Q I rx ry h
 obtain ⟨i,j,rfl,rfl,q⟩:=h
 obtain ⟨t,rfl⟩:=rx
 obtain ⟨t',rfl⟩:=ry
 exact rule i j t t' s _ _ ⟨.bl (g i j),H,I,rfl,q⟩
noncomputable def qwc (i j:Int):Prop:=0 < j/\j < 1073741824
noncomputable def CMul (i j:Int):Prop:=(-(2 ^ 64) < i/\i < 2 ^ 64) \/ (-(2 ^ 64) < j/\j < 2 ^ 64)
theorem CMul.ok {i j:Int} (h:CMul i j):IntMulOk i j:=by
 rcases h with ⟨h1,h2⟩ | ⟨h1,h2⟩
 .exact .of_left (intBits_le_64 h1 h2)
 .exact .of_right (intBits_le_64 h1 h2)
theorem qba:OpR X (binaryOp .Add) (rI0 λi j=>.int (i + j)):=opI0 λ_ _ _ _ _ _ _ q=>add_int q
theorem qhf:OpR X (binaryOp .Sub) (rI0 λi j=>.int (i - j)):=opI0 λ_ _ _ _ _ _ _ q=>sub_int q
theorem qem:OpR X (binaryOp .Mult) (rI CMul λi j=>.int (i * j)):=opI λ_ _ _ _ _ _ _ hc q=>mul_int q hc.ok
theorem qa8:OpR X (binaryOp .FloorDiv) (rI qwc λi j=>.int (i / j)):=opI λi j _ _ _ _ _ hc q=>by
 have h1:(0:Int) < j:=hc.1
 have h2:j < 1073741824:=hc.2
 exact floordiv_int (by lia) (by rw [Int.fdiv_eq_ediv_of_nonneg i (by lia)]; exact q) (.inl (PyProof.noPylong_small (by lia)))
theorem qal:OpR X (binaryOp .Mod) (rI (λ_ j=>0 < j) λi j=>.int (i % j)):=opI λi j _ _ _ _ _ hc q=>by
 have h1:(0:Int) < j:=hc
 exact mod_int' (by lia) (by rw [Int.fmod_eq_emod_of_nonneg i (by lia)]; exact q)
end
noncomputable def scal:V->V->Bool
 | .non,.non=>true | .non,.int _=>true | .int _,.non=>true | .non,.bl _=>true | .bl _,.non=>true | .non,.str _=>true | .str _,.non=>true
 | .int _,.int _=>true | .bl _,.bl _=>true | .str _,.str _=>true | .byt _,.byt _=>true
 | .int _,.str _=>true | .str _,.int _=>true | .bl _,.str _=>true | .str _,.bl _=>true
 | _,_=>false
noncomputable def rEq:R2:=λx y H Q=>scal x y=true/\Q (.bl (decide (x=y))) H
noncomputable def rNe:R2:=λx y H Q=>scal x y=true/\Q (.bl (!decide (x=y))) H
theorem qqr {i j:Int}:decide (V.int i=V.int j)=(i == j):=by
 rw [Cz]
 simp
theorem qtn {i j:Bool}:decide (V.bl i=V.bl j)=(i == j):=by
 rw [Cz]
 simp
theorem qqs {i j:Str}:decide (V.str i=V.str j)=(i == j):=by
 rw [Cz]
 simp
theorem qqt {i j:Array UInt8}:decide (V.byt i=V.byt j)=(i.toList == j.toList):=by
 rw [Cz]
 cases i
 cases j
 simp
section
variable {X:Cx} {a b c:Expr} {ta tb tc:TE} {pos:Pos}
theorem qa5 {pins:List (Addr × Obj)} {σ:St} {H:Hp} {s:Ah} {Q:VK} {k k':Bool} (I:Inv X pins σ H s) (q:Q (.bl k) H) (e:k=k'):EP X pins σ Q (.bool k') s:=by
 subst e
 exact ⟨.bl k,H,I,rfl,q⟩
theorem qay:OpR X (compareOp .Eq) rEq:=by
 intro pins s σ H x y v u Q I rx ry h
 obtain ⟨hs,q⟩:=h
 cases x with
 | non =>
  cases rx
  cases y with
  | non=>cases ry; exact PySem.EqNone.eq_none_none (qa5 I q (by simp))
  | bl j=>cases ry; exact PySem.EqNone.eq_none_bool (qa5 I q (by simp))
  | int j=>obtain ⟨t',rfl⟩:=ry; exact PySem.EqNone.eq_none_int (qa5 I q (by simp))
  | str j=>obtain ⟨t',rfl⟩:=ry; exact PySem.EqNone.eq_none_str (qa5 I q (by simp))
  | _=>exact absurd (show false=true from hs) A9
 | bl i =>
  cases rx
  cases y with
  | non=>cases ry; exact PySem.EqNone.eq_bool_none (qa5 I q (by simp))
  | bl j=>cases ry; exact eq_bool (qa5 I q qtn)
  | str j=>obtain ⟨t',rfl⟩:=ry; exact PySem.EqMixed.eq_bool_str (qa5 I q (by simp))
  | _=>exact absurd (show false=true from hs) A9
 | int i =>
  obtain ⟨t,rfl⟩:=rx
  cases y with
  | non=>cases ry; exact PySem.EqNone.eq_int_none (qa5 I q (by simp))
  | int j=>obtain ⟨t',rfl⟩:=ry; exact eq_int (qa5 I q qqr)
  | str j=>obtain ⟨t',rfl⟩:=ry; exact PySem.EqMixed.eq_int_str (qa5 I q (by simp))
  | _=>exact absurd (show false=true from hs) A9
 | str i =>
  obtain ⟨t,rfl⟩:=rx
  cases y with
  | non=>cases ry; exact PySem.EqNone.eq_str_none (qa5 I q (by simp))
  | bl j=>cases ry; exact PySem.EqMixed.eq_str_bool (qa5 I q (by simp))
  | int j=>obtain ⟨t',rfl⟩:=ry; exact PySem.EqMixed.eq_str_int (qa5 I q (by simp))
  | str j=>obtain ⟨t',rfl⟩:=ry; exact eq_str (qa5 I q qqs)
  | _=>exact absurd (show false=true from hs) A9
 | byt i =>
  obtain ⟨t,rfl⟩:=rx
  cases y with
  | byt j=>obtain ⟨t',rfl⟩:=ry; exact PySem.W.eq_bytes (qa5 I q qqt)
  | _=>exact absurd (show false=true from hs) A9
 | _=>cases y <;> exact absurd (show false=true from hs) A9
theorem qj5:OpR X (compareOp .NotEq) rNe:=by
 intro pins s σ H x y v u Q I rx ry h
 obtain ⟨hs,q⟩:=h
 cases x with
 | non =>
  cases rx
  cases y with
  | non=>cases ry; exact PySem.EqNone.ne_none_none (qa5 I q (by simp))
  | bl j=>cases ry; exact PySem.EqNone.ne_none_bool (qa5 I q (by simp))
  | int j=>obtain ⟨t',rfl⟩:=ry; exact PySem.EqNone.ne_none_int (qa5 I q (by simp))
  | str j=>obtain ⟨t',rfl⟩:=ry; exact PySem.EqNone.ne_none_str (qa5 I q (by simp))
  | _=>exact absurd (show false=true from hs) A9
 | bl i =>
  cases rx
  cases y with
  | non=>cases ry; exact PySem.EqNone.ne_bool_none (qa5 I q (by simp))
  | bl j=>cases ry; exact ne_bool (qa5 I q (congrArg not qtn))
  | str j=>obtain ⟨t',rfl⟩:=ry; exact PySem.EqMixed.ne_bool_str (qa5 I q (by simp))
  | _=>exact absurd (show false=true from hs) A9
 | int i =>
  obtain ⟨t,rfl⟩:=rx
  cases y with
  | non=>cases ry; exact PySem.EqNone.ne_int_none (qa5 I q (by simp))
  | int j=>obtain ⟨t',rfl⟩:=ry; exact ne_int (qa5 I q (congrArg not qqr))
  | str j=>obtain ⟨t',rfl⟩:=ry; exact PySem.EqMixed.ne_int_str (qa5 I q (by simp))
  | _=>exact absurd (show false=true from hs) A9
 | str i =>
  obtain ⟨t,rfl⟩:=rx
  cases y with
  | non=>cases ry; exact PySem.EqNone.ne_str_none (qa5 I q (by simp))
  | bl j=>cases ry; exact PySem.EqMixed.ne_str_bool (qa5 I q (by simp))
  | int j=>obtain ⟨t',rfl⟩:=ry; exact PySem.EqMixed.ne_str_int (qa5 I q (by simp))
  | str j=>obtain ⟨t',rfl⟩:=ry; exact ne_str (qa5 I q (congrArg not qqs))
  | _=>exact absurd (show false=true from hs) A9
 | byt i =>
  obtain ⟨t,rfl⟩:=rx
  cases y with
  | byt j=>obtain ⟨t',rfl⟩:=ry; exact PySem.W.ne_bytes (qa5 I q (congrArg not qqt))
  | _=>exact absurd (show false=true from hs) A9
 | _=>cases y <;> exact absurd (show false=true from hs) A9
theorem qqu:OpR X (compareOp .Lt) (rI0 λi j=>.bl (decide (i < j))):=qyw λ_ _ _ _ _ _ _ q=>lt_int q
theorem qly:OpR X (compareOp .LtE) (rI0 λi j=>.bl (decide (i <= j))):=qyw λ_ _ _ _ _ _ _ q=>le_int q
theorem qx8:OpR X (compareOp .Gt) (rI0 λi j=>.bl (decide (j < i))):=qyw λ_ _ _ _ _ _ _ q=>gt_int q
theorem qyx:OpR X (compareOp .Is) (λx y H Q=>y=.non/\Q (.bl (decide (x=.non))) H):=by
 intro pins s σ H x y v u Q I rx ry h
 obtain ⟨rfl,q⟩:=h
 cases ry
 refine is_none_gen (qa5 I q ?_)
 cases x <;> first
  | (cases rx; rfl)
  | (obtain ⟨t,rfl⟩:=rx; rfl)
theorem qea:OpR X (compareOp .IsNot) (λx y H Q=>y=.non/\Q (.bl (!decide (x=.non))) H):=by
 intro pins s σ H x y v u Q I rx ry h
 obtain ⟨rfl,q⟩:=h
 cases ry
 refine isnot_none_gen (qa5 I q ?_)
 cases x <;> first
  | (cases rx; rfl)
  | (obtain ⟨t,rfl⟩:=rx; rfl)
theorem qm2:OpR X (compareOp .NotIn) (λx y H Q=>∃ i j,x=.str i/\y=.str j/\Q (.bl (!(!(AM.Str.occurrences j i 0 j.length 1).isEmpty))) H):=by
 intro pins s σ H x y v u Q I rx ry h
 obtain ⟨i,j,rfl,rfl,q⟩:=h
 obtain ⟨t,rfl⟩:=rx
 obtain ⟨t',rfl⟩:=ry
 exact notIn_str (qa5 I q rfl)
theorem qad (b:Expr) {op:CmpOp} (h:op ≠ .In:=by decide) (h2:op ≠ .NotIn:=by decide):behindInMarks op b=false:=by
 have e1:(op == CmpOp.In)=false:=by cases op <;> first | rfl | exact absurd rfl h
 have e2:(op == CmpOp.NotIn)=false:=by cases op <;> first | rfl | exact absurd rfl h2
 cases b <;> simp [behindInMarks,e1,e2]
theorem qc0 {op:CmpOp} {r:R2} (ho:OpR X (compareOp op) r) (ha:PE X a ta) (hb:PE X b tb) (hm:behindInMarks op b=false):PE X (.Compare a [op] [b] pos) (tOp r ta tb):=by
 intro pins s σ H Q I h
 exact wpAny_Compare1 (qyv ha hb I h λv u s2 x y H2 I2 rx ry q=>ho pins s2 σ H2 x y v u Q I2 rx ry q) hm
noncomputable def qx9 (t:TE):TT:=λσ H Q=>t σ H λx H'=>∃ k,x=.bl k/\Q k H'
theorem ze {op:CmpOp} {r:R2} (ho:OpR X (compareOp op) r) (ha:PE X a ta) (hb:PE X b tb) (hm:behindInMarks op b=false):PT X (.Compare a [op] [b] pos) (qx9 (tOp r ta tb)):=by
 intro pins s σ H Q I h
 refine wpAny_isTrue_Compare1 (thn (ha pins s σ H _ I h) λv s1 ⟨x,H1,I1,r1,q1⟩=>thn (hb pins s1 σ H1 _ I1 q1) λu s2 ⟨y,H2,I2,r2,q2⟩ =>
  thn (ho pins s2 σ H2 x y v u _ I2 r1 r2 q2) λc s3 ⟨z,H3,I3,r3,k,e,q3⟩ => ?_) hm
 subst e
 cases r3
 exact BF ⟨H3,I3,q3⟩
noncomputable def qto (r r':R2) (ta tb tc:TE):TE:=λσ H Q=>ta σ H λx H1=>tb σ H1 λy H2=>r x y H2 λz H3=>∃ k,z=.bl k /\
 (if k=true then tc σ H3 λw' H4=>r' y w' H4 Q else Q (.bl false) H3)
theorem qnz {op op':CmpOp} {r r':R2} (ho:OpR X (compareOp op) r) (ho':OpR X (compareOp op') r') (ha:PE X a ta) (hb:PE X b tb) (hc:PE X c tc)
  (hm:lastMarks [op,op'] [b,c]=false:=by with_unfolding_all rfl):PE X (.Compare a [op,op'] [b,c] pos) (qto r r' ta tb tc):=by
 intro pins s σ H Q I h
 refine Compare_chain (thn (ha pins s σ H _ I h) λv s1 ⟨x,H1,I1,r1,q1⟩=>chain_link (thn (hb pins s1 σ H1 _ I1 q1) λu s2 ⟨y,H2,I2,r2,q2⟩ =>
  thn (ho pins s2 σ H2 x y v u _ I2 r1 r2 q2) λd s3 ⟨z,H3,I3,r3,k,e,q3⟩ => ?_)) hm
 subst e
 cases r3
 refine BF ?_
 cases k with
 | false=>exact ite_ff ⟨.bl false,H3,I3,rfl,q3⟩
 | true=>exact ite_tt (chain_last (thn (hc pins s3 σ H3 _ I3 q3) λw' s4 ⟨z',H4,I4,r4,q4⟩=>ho' pins s4 σ H4 y z' u w' Q I4 r2 r4 q4))
theorem qj6 {op op':CmpOp} {r r':R2} (ho:OpR X (compareOp op) r) (ho':OpR X (compareOp op') r') (ha:PE X a ta) (hb:PE X b tb) (hc:PE X c tc)
  (hm:lastMarks [op,op'] [b,c]=false:=by with_unfolding_all rfl):PT X (.Compare a [op,op'] [b,c] pos) (qx9 (qto r r' ta tb tc)):=by
 intro pins s σ H Q I h
 refine isTrue_chain (thn (ha pins s σ H _ I h) λv s1 ⟨x,H1,I1,r1,q1⟩=>test_link (thn (hb pins s1 σ H1 _ I1 q1) λu s2 ⟨y,H2,I2,r2,q2⟩ =>
  thn (ho pins s2 σ H2 x y v u _ I2 r1 r2 q2) λd s3 ⟨z,H3,I3,r3,k,e,q3⟩ => ?_)) hm
 subst e
 cases r3
 refine BF ?_
 cases k with
 | false =>
  obtain ⟨k',e',q'⟩:=q3
  cases e'
  exact ite_ff ⟨H3,I3,q'⟩
 | true =>
  refine ite_tt (test_last (thn (hc pins s3 σ H3 _ I3 q3) λw' s4 ⟨z',H4,I4,r4,q4⟩=>thn (ho' pins s4 σ H4 y z' u w' _ I4 r2 r4 q4) λd' s5 hh9 => ?_))
  obtain ⟨z2,H5,I5,r5,k2,e2,q5⟩:=hh9
  subst e2
  cases r5
  exact BF ⟨H5,I5,q5⟩
theorem qj7:(A0:Nat) < 2 ^ 63:=by rw [Bf]; decide
theorem qac:OpR X (binaryOp .Add) (λx y H Q=>∃ i j,x=.str i/\y=.str j/\i.length + j.length <= A0/\Q (.str (i ++ j)) H):=by
 intro pins s σ H x y v u Q I rx ry h
 obtain ⟨i,j,rfl,rfl,hz,q⟩:=h
 obtain ⟨t,rfl⟩:=rx
 obtain ⟨t',rfl⟩:=ry
 exact add_str (λt' tk=>⟨.str (i ++ j),H,I.tok _,⟨_,rfl⟩,q⟩) hz
theorem qfy {x:V} {us:List Value} (r:Vals [x] us):∃ u,us=[u]/\RelV x u:=by
 cases r with
 | cons r1 r2=>cases r2; exact ⟨_,rfl,r1⟩
theorem qrw:qel X (.type "int") (λxs H Q=>(∃ i,xs=[.int i]/\Q (.int i) H) \/ ∃ k,xs=[.bl k]/\Q (.int (if k then 1 else 0)) H):=by
 intro pins s σ H xs us Q I r h
 rcases h with ⟨i,rfl,q⟩ | ⟨k,rfl,q⟩
 .obtain ⟨u,rfl,t,rfl⟩:=qfy r
  exact call_int_int ⟨.int i,H,I,⟨_,rfl⟩,q⟩
 .obtain ⟨u,rfl,r1⟩:=qfy r
  cases r1
  exact call_int_bool ⟨.int (if k then 1 else 0),H,I.tok _,⟨_,rfl⟩,q⟩
theorem qdk:qel X (.type "str") (λxs H Q=>∃ i,xs=[.int i]/\i.natAbs.log2 < 1920/\Q (.str (toString i)) H):=by
 intro pins s σ H xs us Q I r h
 obtain ⟨i,rfl,hz,q⟩:=h
 obtain ⟨u,rfl,t,rfl⟩:=qfy r
 exact PySem.P.str_of_int hz ⟨.str _,H,I.tok _,⟨_,rfl⟩,q⟩
noncomputable def LenV (K:Ae) (x:V) (H:Hp) (n:Nat):Prop :=
 match x with
 | .str y=>y.length <= A0/\n=y.length
 | .byt y=>y.size <= A0/\n=y.size
 | .ref p=>(∃ xs,SqL K H p xs/\n=xs.length) \/ ∃ xs,SqT K H p xs/\n=xs.length
 | _=>False
theorem qav:qel X (.builtin "len") (λxs H Q=>∃ x n,xs=[x]/\LenV X.K x H n/\Q (.int n) H):=by
 intro pins s σ H xs us Q I r h
 obtain ⟨x,n,rfl,e,q⟩:=h
 obtain ⟨u,rfl,rx⟩:=qfy r
 have hl:=qj7
 have hs:A0=16777216:=Bf
 cases x with
 | str y =>
  obtain ⟨t,rfl⟩:=rx
  obtain ⟨hy,e'⟩:y.length <= A0/\n=y.length:=e
  subst e'
  exact len_str (by lia) ⟨.int _,H,I.tok _,⟨_,rfl⟩,q⟩
 | byt y =>
  obtain ⟨t,rfl⟩:=rx
  obtain ⟨hy,e'⟩:y.size <= A0/\n=y.size:=e
  subst e'
  exact PySem.W.len_bytes (by lia) ⟨.int _,H,I.tok _,⟨_,rfl⟩,q⟩
 | ref p =>
  cases rx
  have e':(∃ xs,SqL X.K H p xs/\n=xs.length) \/ ∃ xs,SqT X.K H p xs/\n=xs.length:=e
  rcases e' with ⟨xs,hx,e'⟩ | ⟨xs,hx,e'⟩
  .subst e'
   obtain ⟨its,r',pl,hz⟩:=I.list hx
   have hlen:=r'.length
   exact Calls.call_len_list pl.isList (by simp only [Av]; lia) ⟨.int xs.length,H,I.tok _,⟨_,by simp only [Av]; rw [hlen]⟩,q⟩
  .subst e'
   obtain ⟨its,r',pl,hz⟩:=I.tuple hx
   have hlen:=r'.length
   exact len_tuple pl (by simp only [Av]; lia) ⟨.int xs.length,H,I.tok _,⟨_,by simp only [Av]; rw [hlen]⟩,q⟩
 | _=>exact (show False from e).elim
end
end L2
namespace L2
open PySem PySem.Spec PyProof.Rows
structure ObjM (h:Heap) (x dx C:Addr) (mA:Str->Option Value):Prop where
 obj:h.get? x=some (Cy C dx)
 ns:h.Ns1 dx mA
 ne:dx ≠ x
theorem qlz {h:Heap} {dx:Addr} {mA:Str->Option Value} (n:h.Ns1 dx mA):∃ od,h.get? dx=some od/\∀ name,D7 name od=some (mA name):=by
 obtain ⟨o,es,ep,ho,hd,hk,_,hm⟩:=n
 refine ⟨o,ho,λname => ?_⟩
 have e:=hm name
 unfold nsFind findBy at e
 rw [<- Array.find?_toList] at e
 unfold D7
 rw [hd]
 dsimp only
 split
 .rename_i y q
  rw [q] at e
  exact congrArg some e
 .rename_i q
  rw [q] at e
  have a:es.toList.any (·.refKey)=false:=by
   rw [List.any_eq_false]
   intro y hy
   obtain ⟨z,t,hkey⟩:=hk y (Array.mem_toList_iff.mp hy)
   simp [DictEntry.refKey,hkey]
  have a':¬ es.toList.any (·.refKey)=true:=by rw [a]; exact A9
  rw [if_neg a']
  exact congrArg some e
theorem ObjM.look {h:Heap} {x dx C:Addr} {mA:Str->Option Value} (I:ObjM h x dx C mA):∃ od,PySem.W.InstAt h x (Cy C dx) C (some od)/\∀ name,D7 name od=some (mA name) :=
 let ⟨od,ho,hl⟩:=qlz I.ns
 ⟨od,⟨I.obj,rfl,rfl,ho⟩,hl⟩
section
variable {prog:AN} {w:World} {A:AX} {E:Value->Ah->Prop} {s:Ah} {K:Ae} {x dx C f:Addr} {mA:Str->Option Value} {name:Str} {v:Value}
theorem qwd {expr:Bool} {Q:Value->Ah->Prop} (X:K.In s.heap) (I:ObjM s.heap x dx C mA) (hg:Dl K C name=true) (hh:CB K C=true)
  (ha:AK K (.ref C) name=some none) (hv:mA name=some v) (hv':PySem.W.handedIn v=true) (h:Q v { s with toks:=s.toks + 1 }) :
  wpAny (model prog w) A (getAttr (.ref x) name expr) Q E s:=by
 obtain ⟨od,J,hl⟩:=I.look
 exact PySem.W.get_value X J (Ec hg).1 (PySem.W.findObj_own hh ha rfl (by rw [hl,hv])) hv' h
theorem qtp {pl:Sem Bool} {Q:Value × List Value->Ah->Prop} (X:K.In s.heap) (I:ObjM s.heap x dx C mA) (hg:Dl K C name=true)
  (hf:AK K (.ref C) name=some (some (.ref f))) (ht:Eh K (.ref f)=true) (hv:mA name=none) (h:Q (.ref f,[.ref x]) s) :
  wpAny (model prog w) A (getMethod (.ref x) name pl) Q E s:=by
 obtain ⟨od,J,hl⟩:=I.look
 exact PySem.W.method_fn X J (Ec hg).1 (Ec hg).2 hf (beq_iff_eq.mp ht) (by show (D7 name od).map (·.isSome)=some false; rw [hl,hv]; rfl) h
theorem qwe {ns:List Str} {Q:Unit->Ah->Prop} (X:K.In s.heap) (I:ObjM s.heap x dx C mA)
  (hs:AK K (.ref C) "__setattr__" = some (some (.builtin "object.__setattr__"))) (hp:PySem.W.plainOver K C=true) (ht:PySem.W.takerIn K C name=some none) (hh:CB K C=true)
  (hw:Dk mA ns) (hsz:ns.length <= A0)
  (h:∀ h',ObjM h' x dx C (λy=>if y=name then some v else mA y)->Cq dx s.heap h'->Q () { s with heap:=h',toks:=s.toks + 2 }) :
  wpAny (model prog w) A (setAttr (.ref x) name v) Q E s:=by
 obtain ⟨od,J,hl⟩:=I.look
 refine PySem.W.set_plain X J hs (PySem.W.osa_open (s:={ s with toks:=s.toks + 1 }) (r:=none) X J hp ht λb => ?_)
 obtain ⟨cd,hc,hd'⟩:=PySem.W.any_some hh
 have hx:s.heap.get? x=some ⟨.ref C,some dx,.plain,#[]⟩:=I.obj
 refine Ad (A2 (Ad (Ad (Ek hx (Ad (BG.here (s:={ s with toks:=s.toks + 1 }) (PySem.W.looks_clsIn X hc) ?_))))))
 rw [hd']
 refine A2 (a:=some dx) (Ad (A2 (Ad ?_)))
 refine wpAny_nsSet1 (s:={ s with toks:=s.toks + 1 }) I.ns λh' hn2 hs2 => ?_
 obtain ⟨oD,esD,epD,hoD,hdD,hcD⟩:=hn2.count (Dk.cons name v hw)
 refine Ad (wpAny_lookBehind hoD (by rw [hdD]; exact pastItsLine_dict (Au hcD (by rw [Aq]; lia))) ?_)
 exact A2 (h _ ⟨(hs2.2 _ (Bc I.ne)).trans I.obj,hn2,I.ne⟩ hs2)
theorem qn0 {R:Result->Ah->Prop} {vs:List Value} {kw:List (Str × Value)} (X:K.In s.heap) (hm:PySem.W.makesIn K C=true)
  (hi:AK K (.ref C) "__init__" = some (some (.ref f))) (hf:Ci K (.ref f)=some (.type "function"))
  (h:codeAny (model prog w) (A.under (.builtin "type.__call__" ⟨.ref C :: vs,kw⟩)) (.call (.ref f) ⟨.ref (s.heap.objs.size + 1) :: vs,kw⟩) (PySem.W.InitBack (s.heap.objs.size + 1) R)
   { s with heap:=(s.heap.push BX).push (Cy C s.heap.objs.size) }) :
  codeAny (model prog w) A (.call (.ref C) ⟨vs,kw⟩) R s:=by
 obtain ⟨hh,g,d,t,os⟩:=s
 exact PySem.W.make_core (PySem.W.makes_of X hm) (PySem.W.looks_findIn X hi) (λself=>PySem.W.bind_fn X self hf) (.inl rfl) h
end
noncomputable def qcs (f:Str) (v:V):List (Str × V)->List (Str × V)
 | []=>[(f,v)]
 | (g,x) :: r=>if g=f then (g,v) :: r else (g,x) :: qcs f v r
theorem qf2 (f g:Str) (v:V):∀ fs:List (Str × V),(qcs f v fs).lookup g=if g=f then some v else fs.lookup g
 | []=>by
  show CC g [(f,v)]=_
  by_cases h:g=f
  .have hb:(g == f)=true:=beq_iff_eq.mpr h
   simp only [CC,hb,if_pos h]
  .have hb:(g == f)=false:=beq_eq_false_iff_ne.mpr h
   simp only [CC,hb,if_neg h]
 | (k,x) :: r=>by
  have ih:=qf2 f g v r
  rw [show qcs f v ((k,x) :: r)=(if k=f then (k,v) :: r else (k,x) :: qcs f v r) from rfl]
  by_cases hk:k=f
  .rw [if_pos hk]
   by_cases h:g=k
   .have hb:(g == k)=true:=beq_iff_eq.mpr h
    simp only [CC,hb,if_pos (h.trans hk)]
   .have hb:(g == k)=false:=beq_eq_false_iff_ne.mpr h
    simp only [CC,hb,if_neg (λe:g=f=>h (e.trans hk.symm))]
  .rw [if_neg hk]
   by_cases h:g=k
   .have hb:(g == k)=true:=beq_iff_eq.mpr h
    simp only [CC,hb,if_neg (λe:g=f=>hk (h.symm.trans e))]
   .have hb:(g == k)=false:=beq_eq_false_iff_ne.mpr h
    simp only [CC,hb]
    exact ih
theorem qfb (f:Str) (v:V):∀ fs:List (Str × V),f ∈ (qcs f v fs).map (·.1)/\∀ g,g ∈ fs.map (·.1)->g ∈ (qcs f v fs).map (·.1)
 | []=>⟨by simp [qcs],λg h=>by simp at h⟩
 | (k,x) :: r=>by
  obtain ⟨i1,i2⟩:=qfb f v r
  rw [show qcs f v ((k,x) :: r)=(if k=f then (k,v) :: r else (k,x) :: qcs f v r) from rfl]
  by_cases hk:k=f
  .rw [if_pos hk]
   subst hk
   exact ⟨by simp,λg h=>by simpa using h⟩
  .rw [if_neg hk]
   refine ⟨?_,λg h => ?_⟩
   .rw [A6]
    exact At _ i1
   .rw [A6] at h |-
    rcases Ao.mp h with e | e
    .exact Ao.mpr (.inl e)
    .exact At _ (i2 g e)
theorem qjc (f:Str) (v:V):∀ fs:List (Str × V),(qcs f v fs).length <= fs.length + 1
 | []=>by simp [qcs]
 | (k,x) :: r=>by
  have ih:=qjc f v r
  rw [show qcs f v ((k,x) :: r)=(if k=f then (k,v) :: r else (k,x) :: qcs f v r) from rfl]
  by_cases hk:k=f
  .rw [if_pos hk,Aq,Aq]; lia
  .rw [if_neg hk,Aq,Aq]; lia
theorem RelO.some_of {v:V} {o:Option Value} (r:RelO (some v) o):∃ u,o=some u/\RelV v u:=by
 cases o with
 | none=>exact (show False from r).elim
 | some u=>exact ⟨u,rfl,r⟩
theorem RelO.none_of {o:Option Value} (r:RelO none o):o=none:=by
 cases o with
 | none=>rfl
 | some u=>exact (show False from r).elim
theorem ql0 {v:V} {u:Value} (r:RelV v u):PySem.W.handedIn u=true:=by
 cases v with
 | non=>cases (show u=BI from r); rfl
 | bl b=>cases (show u=Ei b from r); rfl
 | int i=>obtain ⟨t,e⟩:=(show ∃ t,u=Value.int i t from r); cases e; rfl
 | str x=>obtain ⟨t,e⟩:=(show ∃ t,u=Value.str x t from r); cases e; rfl
 | byt b=>obtain ⟨t,e⟩:=(show ∃ t,u=Value.bytes b t from r); cases e; rfl
 | flt b=>obtain ⟨t,e⟩:=(show ∃ t,u=Value.float b t from r); cases e; rfl
 | ref a=>cases (show u=Al a from r); rfl
 | ty n=>cases (show u=BW n from r); rfl
section
variable {P:AN} {w:World} {H H':Hp} {h h':Heap} {a C dx:Addr} {fs fs':List (Str × V)}
theorem qju (hok:HOk P w H h) (e:H a=some (.ins C dx fs)):∃ mA,ObjM h a dx C mA/\(∀ f,RelO (fs.lookup f) (mA f))/\Dk mA (fs.map (·.1))/\fs.length <= 1000/\H dx=some (.own a):=by
 obtain ⟨d,z,ne,ob,mA,n,r,q⟩:=(show ObjOk P w H h a (.ins C dx fs) from hok a _ e)
 exact ⟨mA,⟨ob,n,ne⟩,r,q,z,d⟩
end
structure Cls (K:Ae) (C:Addr):Prop where
 pg:Dl K C Str.empty=true
 hd:CB K C=true
 po:PySem.W.plainOver K C=true
 sa:AK K (.ref C) "__setattr__" = some (some (.builtin "object.__setattr__"))
theorem Cls.get {K:Ae} {C:Addr} (c:Cls K C) (f:Str):Dl K C f=true:=c.pg
noncomputable def NoAttr (K:Ae) (C:Addr) (f:Str):Prop:=AK K (.ref C) f=some none
theorem NoAttr.taker {K:Ae} {C:Addr} {f:Str} (n:NoAttr K C f):PySem.W.takerIn K C f=some none:=by
 unfold PySem.W.takerIn
 rw [show AK K (.ref C) f=some none from n]
 rfl
structure Meth (K:Ae) (C:Addr) (m:Str) (f:Addr):Prop where
 at_:AK K (.ref C) m=some (some (.ref f))
 fn:Eh K (.ref f)=true
 kp:Be K (.ref f)=true
section
variable {X:Cx} {pins:List (Addr × Obj)} {σ:St} {H:Hp} {s:Ah} {a C dx:Addr} {fs:List (Str × V)} {f:Str} {v:V} {A:AX} {E:Value->Ah->Prop}
theorem qpf {b:Bool} {Q:Value->Ah->Prop} (I:Inv X pins σ H s) (e:H a=some (.ins C dx fs)) (c:Cls X.K C) (n:NoAttr X.K C f) (l:fs.lookup f=some v)
  (h:∀ u s',Inv X pins σ H s'->RelV v u->Q u s'):wpAny (model X.prog X.w) A (getAttr (.ref a) f b) Q E s:=by
 obtain ⟨mA,O,r,_,_,_⟩:=qju I.hok e
 obtain ⟨u,hu,ru⟩:=RelO.some_of (v:=v) (o:=mA f) (by rw [<- l]; exact r f)
 exact qwd I.kIn O (c.get f) c.hd n hu (ql0 ru) (h u _ (I.tok _) ru)
theorem qpg {m:Str} {g:Addr} {pl:Sem Bool} {Q:Value × List Value->Ah->Prop} (I:Inv X pins σ H s) (e:H a=some (.ins C dx fs)) (c:Cls X.K C) (k:Meth X.K C m g) (l:fs.lookup m=none)
  (h:Q (.ref g,[.ref a]) s):wpAny (model X.prog X.w) A (getMethod (.ref a) m pl) Q E s:=by
 obtain ⟨mA,O,r,_,_,_⟩:=qju I.hok e
 have hn:mA m=none:=RelO.none_of (by rw [<- l]; exact r m)
 exact qtp I.kIn O (c.get m) k.at_ k.fn hn h
theorem qph {y:V} {u:Value} {Q:Unit->Ah->Prop} (I:Inv X pins σ H s) (e:H a=some (.ins C dx fs)) (c:Cls X.K C) (n:NoAttr X.K C f) (hl:fs.length < 1000) (ry:RelV y u)
  (h:∀ s',Inv X pins σ (upd H a (.ins C dx (qcs f y fs))) s'->Q () s'):wpAny (model X.prog X.w) A (setAttr (.ref a) f u) Q E s:=by
 obtain ⟨mA,O,r,wi,_,ho⟩:=qju I.hok e
 have hz:(fs.map (·.1)).length <= A0:=by rw [Ab,Bf]; lia
 refine qwe I.kIn O c.sa c.po n.taker c.hd wi hz λh' O' sb=>h _ ?_
 have hd:∃ o,h'.get? dx=some o:=let ⟨o,_,_,e',_⟩:=O'.ns; ⟨o,e'⟩
 refine I.write (x:=a) (e:=dx) (by rw [e]; exact CI) (.inr ho) (λb q hb z=>(sb.2 b hb).trans z) hd ?_
 refine ⟨by rw [zd O.ne]; exact ho,?_,O.ne,O'.obj,_,O'.ns,λg => ?_,λg hg => ?_⟩
 .have:=qjc f y fs; lia
 .show RelO ((qcs f y fs).lookup g) (if g=f then some u else mA g)
  rw [qf2]
  by_cases q:g=f
  .rw [if_pos q,if_pos q]; exact ry
  .rw [if_neg q,if_neg q]; exact r g
 .by_cases q:g=f
  .rw [q]; exact (qfb f y fs).1
  .refine (qfb f y fs).2 g (wi g λz=>hg ?_)
   show (if g=f then some u else mA g)=none
   rw [if_neg q]; exact z
theorem Inv.made (I:Inv X pins σ H s):Inv X pins σ (upd (upd H s.heap.objs.size (.own (s.heap.objs.size + 1))) (s.heap.objs.size + 1) (.ins C s.heap.objs.size []))
  { s with heap:=(s.heap.push BX).push (Cy C s.heap.objs.size) }:=by
 have e1:(s.heap.push BX).get? s.heap.objs.size=some BX:=A5 s.heap rfl
 have e2:((s.heap.push BX).push (Cy C s.heap.objs.size)).get? (s.heap.objs.size + 1)=some (Cy C s.heap.objs.size):=by
  have:=A5 (s.heap.push BX) (o:=Cy C s.heap.objs.size) rfl
  rwa [Cu] at this
 have e3:(s.heap.push BX).Ns s.heap.objs.size (λ_=>none):=⟨BX,#[],_,e1,rfl,(λe he=>absurd he (by simp)),λ_=>rfl⟩
 have I1:=I.laid (a:=s.heap.objs.size) (o:=.own (s.heap.objs.size + 1)) (h':=s.heap.push BX) (t':=s.toks) (λb u q=>Am _ q) (A1 _) ⟨_,e1⟩
 refine I1.laid (a:=s.heap.objs.size + 1) (o:=.ins C s.heap.objs.size []) (t':=s.toks) (λb u q=>Am _ q) (BQ (Cu _ _)) ?_
 have ne:s.heap.objs.size ≠ s.heap.objs.size + 1:=AJ (CO _)
 refine ⟨by rw [zd ne,qu],Bt _,ne,e2,λ_=>none,(Heap.Ns1.of_empty e3).at λo q=>Am _ q,λ_=>CI,λy hy=>absurd rfl hy⟩
theorem qqv {prog:AN} {w:World} {env:Env} {e:Expr} {f:Str} {pos:Pos} {s:Ah} {Q:Value->Ah->Prop} (hb:attributeBase e f env (eval e env)=eval e env)
  (h:wpAny (model prog w) A (eval e env) (λo s₁=>wpAny (model prog w) A (getAttr o f true) Q E s₁) E s):wpAny (model prog w) A (eval (.Attribute e f pos) env) Q E s :=
 Attribute_any_ h (by rw [arm_eval_Attribute,hb])
end
noncomputable def tFld (K:Ae) (ta:TE) (f:Str):TE:=λσ H Q=>ta σ H λx H1=>∃ a C dx fs v,x=.ref a/\H1 a=some (.ins C dx fs)/\Cls K C/\NoAttr K C f/\fs.lookup f=some v/\Q v H1
noncomputable def sFld (K:Ae) (ta tv:TE) (f:Str):TS:=λD σ H=>tv σ H λy H1=>ta σ H1 λx H2=>∃ a C dx fs,x=.ref a/\H2 a=some (.ins C dx fs)/\Cls K C/\NoAttr K C f/\fs.length < 1000 /\
 D.nx σ (upd H2 a (.ins C dx (qcs f y fs)))
section
variable {X:Cx} {o e value:Expr} {f:Str} {pos pos' tpos:Pos} {ta tv:TE}
theorem qbc (he:PE X e ta) (hb:attributeBase e f X.env (eval e X.env)=eval e X.env):PE X (.Attribute e f pos) (tFld X.K ta f):=by
 intro pins s σ H Q I h
 refine qqv hb (thn (he pins s σ H _ I h) λu s1 hh9 => ?_)
 obtain ⟨x,H1,I1,rx,a,C,dx,fs,v,ex,ea,c,n,l,q⟩:=hh9
 subst ex
 obtain rfl:u=Al a:=rx
 exact qpf I1 ea c n l λu' s2 I2 ru=>⟨v,H1,I2,ru,q⟩
theorem qdd (ha:PE X o ta) (hv:PE X value tv) (hs:swapsWith value (some (.Attribute o f pos')) pos.line X.env=pure false):PS X (.Assign [.Attribute o f pos'] value pos) (sFld X.K ta tv f):=by
 intro pins s σ H D I h
 refine DF (thn (hv pins s σ H _ I h) λu s1 ⟨y,H1,I1,ry,q⟩=>thn (ha pins s1 σ H1 _ I1 q) λov s2 hh9 => ?_) hs
 obtain ⟨x,H2,I2,rx,a,C,dx,fs,ex,ea,c,n,l,q2⟩:=hh9
 subst ex
 obtain rfl:ov=Al a:=rx
 exact qph I2 ea c n l ry λs3 I3=>⟨σ,_,I3,q2⟩
end
section
variable {X:Cx} {pins:List (Addr × Obj)} {σ:St} {H:Hp} {s:Ah} {A:AX} {E Q:Value->Ah->Prop} {c:Value} {b:Bool}
inductive TyOf (K:Ae) (H:Hp):V->Value->Prop where
 | non:TyOf K H .non (.type "NoneType")
 | bl (x:Bool):TyOf K H (.bl x) (.type "bool")
 | int (i:Int):TyOf K H (.int i) (.type "int")
 | str (x:Str):TyOf K H (.str x) (.type "str")
 | flt (x:UInt64):TyOf K H (.flt x) (.type "float")
 | lst {a:Addr} {xs:List V} (e:H a=some (.lst xs)):TyOf K H (.ref a) (.type "list")
 | frz {a:Addr} {o:Obj} {xs:List V} (e:H a=some (.frz o (.lst xs))):TyOf K H (.ref a) (.type "list")
 | tup {a:Addr} {xs:List V} (e:H a=some (.tup xs)):TyOf K H (.ref a) (.type "tuple")
 | dK {a:Addr} {kvs:List (Key × V)} (e:H a=some (.dK kvs)):TyOf K H (.ref a) (.type "dict")
 | dT {a:Addr} {kvs:List (List Key × V)} (e:H a=some (.dT kvs)):TyOf K H (.ref a) (.type "dict")
 | ins {a C dx:Addr} {fs:List (Str × V)} (e:H a=some (.ins C dx fs)) (cl:Cls K C) (ha:AK K (.ref C) "__class__" = some (some (.builtin "object.__class__")))
   (hn:D8 K (.builtin "object.__class__") "__get__" = some (some (.builtin "getset_descriptor.__get__"))) (htk:PySem.W.takesIn K (.builtin "object.__class__")=some true)
   (hm:DS K C (.type "object")=some true):TyOf K H (.ref a) (.ref C)
theorem qrx {x:V} {u t:Value} (I:Inv X pins σ H s) (rx:RelV x u) (ty:TyOf X.K H x t) (e:BC X.K t c=some b) (h:∀ tk,Q (.bool b) { s with toks:=tk }) :
  wpAny (model X.prog X.w) A (call (.builtin "isinstance") [u,c]) Q E s:=by
 cases ty with
 | non=>cases (show u=BI from rx); exact BK PySem.W.kitx_none I.kIn CI e (λz=>nomatch z) h
 | bl y=>cases (show u=Ei y from rx); exact BK PySem.W.kitx_bool I.kIn CI e (λz=>nomatch z) h
 | int i=>obtain ⟨t,q⟩:=(show ∃ t,u=Value.int i t from rx); cases q; exact BK PySem.W.kitx_int I.kIn CI e (λz=>nomatch z) h
 | str y=>obtain ⟨t,q⟩:=(show ∃ t,u=Value.str y t from rx); cases q; exact BK PySem.W.kitx_str I.kIn CI e (λz=>nomatch z) h
 | flt y=>obtain ⟨t,q⟩:=(show ∃ t,u=Value.float y t from rx); cases q; exact BK PySem.W.kitx_float I.kIn CI e (λz=>nomatch z) h
 | @lst a xs ea =>
  cases (show u=Al a from rx)
  obtain ⟨_,_,n,_,h1⟩:=(show ObjOk X.prog X.w H s.heap a (.lst xs) from I.hok a _ ea)
  exact BK PySem.W.kitx_list I.kIn ⟨_,h1,rfl⟩ e (λz=>nomatch z) h
 | @frz a ob xs ea =>
  cases (show u=Al a from rx)
  obtain ⟨_,_,_,n,_,h1⟩:=(show ObjOk X.prog X.w H s.heap a (.frz ob (.lst xs)) from I.hok a _ ea)
  exact BK PySem.W.kitx_list I.kIn ⟨_,h1,rfl⟩ e (λz=>nomatch z) h
 | @tup a xs ea =>
  cases (show u=Al a from rx)
  obtain ⟨_,_,_,p⟩:=(show ObjOk X.prog X.w H s.heap a (.tup xs) from I.hok a _ ea)
  obtain ⟨o,h1,h2,_⟩:=p
  exact BK PySem.W.kitx_tuple I.kIn ⟨o,h1,h2⟩ e (λz=>nomatch z) h
 | @dK a kvs ea =>
  cases (show u=Al a from rx)
  obtain ⟨_,_,vs,_,p⟩:=(show ObjOk X.prog X.w H s.heap a (.dK kvs) from I.hok a _ ea)
  obtain ⟨o,es,ep,h1,h2,_⟩:=p
  exact BK PySem.W.kitx_dict I.kIn ⟨o,h1,h2.1⟩ e (λz=>nomatch z) h
 | @dT a kvs ea =>
  cases (show u=Al a from rx)
  obtain ⟨_,_,xs,_,o,es,ep,h1,h2,_⟩:=(show ObjOk X.prog X.w H s.heap a (.dT kvs) from I.hok a _ ea)
  exact BK PySem.W.kitx_dict I.kIn ⟨o,h1,h2.1⟩ e (λz=>nomatch z) h
 | @ins a C dx fs ea cl ha hn htk hm =>
  cases (show u=Al a from rx)
  obtain ⟨mA,O,_⟩:=qju I.hok ea
  obtain ⟨od,J,_⟩:=O.look
  exact BK (PySem.W.kitx_own (cl.get _) cl.hd ha hn htk hm) I.kIn J e (λz=>nomatch z) h
end
end L2
namespace L2
open PySem PySem.Spec PyProof.Rows
structure Room (k:Nat) (A:AX):Prop where
 hd:A.handled=none
 dp:A.depth + 3 * k + 5 < recursionLimit
 un:A.units + 16 * k + 200 < cLine
theorem Room.mono {j k:Nat} {A:AX} (r:Room k A) (h:j <= k):Room j A:=⟨r.hd,by have:=r.dp; lia,by have:=r.un; lia⟩
theorem Room.deeper {k:Nat} {A:AX} (r:Room (k + 1) A) (env:Env):Room k (A.deeper env) :=
 ⟨r.hd,by have:=r.dp; show A.depth + 1 + 3 * k + 5 < _; lia,by have:=r.un; show A.units + 3 + 16 * k + 200 < _; lia⟩
theorem qpi {A:AX} {C:Addr} {us:List Value} {kw:List (Str × Value)}:(A.under (.builtin "type.__call__" ⟨.ref C :: us,kw⟩)).depth=A.depth + 1:=by
 first | rfl | simp [AX.under,Code.weight,Code.isCreation,Code.isGuard,Code.isCaller,Code.frames,Code.isFrame,guardIds]
theorem qpj {A:AX} {C:Addr} {us:List Value} {kw:List (Str × Value)}:(A.under (.builtin "type.__call__" ⟨.ref C :: us,kw⟩)).units=A.units + 1:=by
 first | rfl | simp [AX.under,Code.cUnits,Code.frames,Code.isFrame]
theorem Room.make {k:Nat} {A:AX} (r:Room (k + 1) A) (C:Addr) (us:List Value) (kw:List (Str × Value)):Room k (A.under (.builtin "type.__call__" ⟨.ref C :: us,kw⟩)) :=
 ⟨r.hd,by have:=r.dp; rw [qpi]; lia,by have:=r.un; rw [qpj]; lia⟩
theorem Room.depth {k:Nat} {A:AX} (r:Room k A):A.depth < recursionLimit:=by have:=r.dp; lia
theorem Room.units {k:Nat} {A:AX} (r:Room k A):A.units + 64 < cLine:=by have:=r.un; lia
theorem Room.units0 {k:Nat} {A:AX} (r:Room k A):A.units < cLine:=by have:=r.un; lia
noncomputable def tNil:TA:=λ_ H Q=>Q [] H
noncomputable def tCons (ta:TE) (tr:TA):TA:=λσ H Q=>ta σ H λx H1=>tr σ H1 λxs H2=>Q (x :: xs) H2
section
variable {X:Cx} {e:Expr} {es:List Expr} {te:TE} {t:TA} {pos:Pos}
theorem qm:PA X [] tNil:=λ_ _ _ _ H Q I h=>D9 ⟨[],H,I,.nil,h⟩
theorem qh (ha:PE X e te) (hr:PA X es t) (hs:starEach (e :: es) X.env=(false,eval e X.env) :: starEach es X.env:=by rfl):PA X (e :: es) (tCons te t):=by
 intro pos pins s σ H Q I h
 rw [hs]
 show wpAny _ _ (spliced ((false,eval e X.env) :: backTo pos (starEach es X.env))) _ _ s
 refine D0 (thn (ha pins s σ H _ I h) λu s1 hh9 => ?_)
 obtain ⟨x,H1,I1,r1,q1⟩:=hh9
 exact thn (hr pos pins s1 σ H1 _ I1 q1) λus s2 ⟨xs,H2,I2,r2,q2⟩=>⟨x :: xs,H2,I2,.cons r1 r2,q2⟩
noncomputable def tTup (t:TA):TE:=λσ H Q=>t σ H λxs H1=>xs.length <= A0/\∀ p,H1 p=none->Q (.ref p) (upd H1 p (.tup xs))
noncomputable def tLst (t:TA):TE:=λσ H Q=>t σ H λxs H1=>xs.length <= A0/\∀ p,H1 p=none->Q (.ref p) (upd H1 p (.lst xs))
theorem zr {x1} (h:PA X es t):PE X (.Tuple es x1 pos) (tTup t):=by
 intro pins s σ H Q I hq
 refine wpAny_Tuple_spliced (thn (h pos pins s σ H _ I hq) λus s1 ⟨xs,H1,I1,r,z,q⟩=>⟨by rw [<- r.length]; exact z,?_⟩)
 have hf:H1 s1.heap.objs.size=none:=I1.hok.fresh (A1 _)
 refine ⟨.ref s1.heap.objs.size,upd H1 s1.heap.objs.size (.tup xs),I1.laid (t':=s1.toks) (λb u e=>Am _ e) (A1 _) ?_,rfl,q _ hf⟩
 exact ⟨z,us,r,⟨_,A5 _ rfl,rfl,_,rfl⟩⟩
theorem zq (h:PA X es t):PE X (.List es pos) (tLst t):=by
 intro pins s σ H Q I hq
 refine wpAny_List_spliced (thn (h pos pins s σ H _ I hq) λus s1 ⟨xs,H1,I1,r,z,q⟩=>⟨by rw [<- r.length]; exact z,?_⟩)
 have hf:H1 s1.heap.objs.size=none:=I1.hok.fresh (A1 _)
 refine ⟨.ref s1.heap.objs.size,upd H1 s1.heap.objs.size (.lst xs),I1.laid (t':=s1.toks) (λb u e=>Am _ e) (A1 _) ?_,rfl,q _ hf⟩
 exact ⟨z,us,0,r,A5 _ rfl⟩
end
noncomputable abbrev Sp:=List V->Hp->VK->XK->Prop
noncomputable abbrev CXT:=List Env->Hp->Ah->XK->Value->Ah->Prop
structure Env0 (P:AN) (w:World) (K:Ae) (mg:Str->Option Value) (base:Heap) (A:AX) (outer:List Env) (s:Ah) (H:Hp):Prop where
 frames:A.frames=some outer
 mod:Mod K mg base
 bs:∀ b o,base.get? b=some o->s.heap.get? b=some o/\H b=none
 bsz:base.objs.size <= s.heap.objs.size
 funs:s.heap.FunFrames base outer
 frf:∀ b ∈ frs outer,H b=none
 hok:HOk P w H s.heap
 bare:Eg s.gens
noncomputable def CE (outer:List Env) (P:AN) (w:World) (H:Hp) (s:Ah) (Q:VK) (u:Value) (s':Ah):Prop :=
 ∃ v H',s'.os=s.os/\Eg s'.gens/\Un (frs outer) [] H H' s.heap s'.heap/\HOk P w H' s'.heap/\RelV v u/\Q v H'
noncomputable def CR (CX:CXT) (outer:List Env) (P:AN) (w:World) (H:Hp) (s:Ah) (Q:VK) (E:XK) (r:Result) (s':Ah):Prop :=
 match r with
 | .ok (.ret u)=>CE outer P w H s Q u s'
 | .ok _=>False
 | .error e=>CX outer H s E e s'
structure FnOk (P:AN) (w:World) (K:Ae) (mg:Str->Option Value) (base:Heap) (CX:CXT) (k:Nat) (f:Addr) (fd:AD) (ps:List Str) (sp:Sp):Prop where
 len:∀ vs H Q E,sp vs H Q E->vs.length=ps.length
 run:∀ (A:AX) (outer:List Env) (s:Ah) (H:Hp) (args:Args) (us:List Value) (vs:List V) (Q:VK) (E:XK),Room k A->Env0 P w K mg base A outer s H->BindsTo s fd args (ps.zip us)->Vals vs us->sp vs H Q E ->
  codeAny (model P w) A (.call (.ref f) args) (CR CX outer P w H s Q E) s
theorem Env0.make {P:AN} {w:World} {K:Ae} {mg:Str->Option Value} {base:Heap} {A:AX} {outer:List Env} {s:Ah} {H:Hp} (e:Env0 P w K mg base A outer s H) (C:Addr) (us:List Value) (kw:List (Str × Value)) :
  Env0 P w K mg base (A.under (.builtin "type.__call__" ⟨.ref C :: us,kw⟩)) outer s H:=⟨by first | exact e.frames | (simpa [AX.under,Code.envs,Code.isFrame,pushEnvs] using e.frames),e.mod,e.bs,e.bsz,e.funs,e.frf,e.hok,e.bare⟩
section
variable {X:Cx} {pins:List (Addr × Obj)} {σ:St} {H:Hp} {s s':Ah}
theorem Inv.env0 (I:Inv X pins σ H s):Env0 X.prog X.w X.K X.mg X.base X.A X.stack s H :=
 ⟨I.ok.frames,I.ok.mod,I.bs,Au I.ok.bsz I.sz,I.stack,I.stkFree,I.hok,I.bare⟩
theorem Inv.after {Q:VK} {u:Value} (I:Inv X pins σ H s) (h:CE X.stack X.prog X.w H s Q u s'):EP X pins σ Q u s':=by
 obtain ⟨v,H',os,bare,un,hok,r,q⟩:=h
 obtain ⟨hh,g,d,t,os'⟩:=s'
 obtain rfl:os'=s.os:=os
 exact ⟨v,H',I.call (h':=hh) (g':=g) (d':=d) (t':=t) (ch:=[]) un hok bare (λb z=>absurd z (by simp)),r,q⟩
end
noncomputable def tCall (sp:Sp) (dvs:List V) (E:XK) (t:TA):TE:=λσ H Q=>t σ H λvs H1=>sp (vs ++ dvs) H1 Q E
noncomputable def tMeth (C:Addr) (m:Str) (sp:Sp) (dvs:List V) (E:XK) (ta:TE) (t:TA):TE:=λσ H Q=>ta σ H λx H1=>∃ a dx fs,x=.ref a/\H1 a=some (.ins C dx fs)/\fs.lookup m=none /\
 t σ H1 λvs H2=>sp (x :: (vs ++ dvs)) H2 Q E
noncomputable def tMake (C:Addr) (sp:Sp) (dvs:List V) (E:XK) (t:TA):TE:=λσ H Q=>t σ H λvs H1=>∀ x dx,H1 x=none->H1 dx=none->dx ≠ x ->
 sp (.ref x :: (vs ++ dvs)) (upd (upd H1 dx (.own x)) x (.ins C dx [])) (λv H2=>v=.non/\Q (.ref x) H2) E
noncomputable def Binds (K:Ae) (fd:AD) (ps:List Str) (ds:List Value):Prop :=
 ∀ (s:Ah) (us:List Value),K.In s.heap->(us ++ ds).length=ps.length->BindsTo s fd ⟨us,[]⟩ (ps.zip (us ++ ds))
theorem Binds.all {K:Ae} {fd:AD} {ps:List Str} (h:∀ us:List Value,us.length=ps.length->bindArgs fd ⟨us,[]⟩=pure (ps.zip us)):Binds K fd ps []:=λs us _ hl=>by
 rw [Bw] at hl |-
 exact .of_eq (h us hl)
noncomputable def qf3 (CX:CXT) (X:Cx) (E:XK):Prop:=∀ (pins:List (Addr × Obj)) (σ:St) (H:Hp) (s:Ah) (e:Value) (s':Ah),Inv X pins σ H s->CX X.stack H s E e s'->X.xe e s'
section
variable {X:Cx} {CX:CXT} {k:Nat} {f C:Addr} {fd:AD} {ps:List Str} {sp:Sp} {dvs:List V} {ds:List Value} {E:XK} {x m:Str} {p pos apos:Pos} {e o:Expr} {es:List Expr} {ta:TE} {t:TA}
theorem qtq {pins:List (Addr × Obj)} {σ:St} {H:Hp} {s:Ah} {Q:VK} {us:List Value} {vs:List V} (F:FnOk X.prog X.w X.K X.mg X.base CX k f fd ps sp) (hr:Room k X.A) (hb:Binds X.K fd ps ds) (hd:Vals dvs ds) (hx:qf3 CX X E)
  (I:Inv X pins σ H s) (r:Vals vs us) (h:sp (vs ++ dvs) H Q E):wpAny (model X.prog X.w) X.A (call (.ref f) us) (EP X pins σ Q) X.xe s:=by
 have r2:Vals (vs ++ dvs) (us ++ ds):=r.append hd
 have hl:(us ++ ds).length=ps.length:=by rw [<- r2.length]; exact F.len _ _ _ _ h
 refine CU (CV (F.run X.A X.stack s H ⟨us,[]⟩ (us ++ ds) (vs ++ dvs) Q E hr I.env0 (hb s us I.kIn hl) r2 h) λr s' hq => ?_)
 cases r with
 | error e=>exact hx pins σ H s e s' I hq
 | ok fl =>
  cases fl with
  | ret u=>exact I.after hq
  | next=>exact B6 hq
  | brk=>exact B6 hq
  | cont=>exact B6 hq
theorem zm (F:FnOk X.prog X.w X.K X.mg X.base CX k f fd ps sp) (hr:Room k X.A) (hg:Gl X x) (hm:X.mg x=some (.ref f)) (hk:Be X.K (.ref f)=true) (hb:Binds X.K fd ps ds) (hd:Vals dvs ds) (hx:qf3 CX X E)
  (ha:PA X (e :: es) t) (hdb:(x == ("__debug__" : Str))=false:=by decide) (he:starEach (e :: es) X.env=(false,eval e X.env) :: starEach es X.env:=by rfl) (hpl:(backTo pos (starEach es X.env)).any (·.1)=false:=by rfl) :
  PE X (.Call (.Name x p) (e :: es) [] pos) (tCall sp dvs E t):=by
 intro pins s σ H Q I h
 refine BJ (qey I hg hm ?_ hdb)
 refine CW (h₀:=X.base) I.ok.mod.kin hk (thn (ha pos pins s σ H _ I h) λus s1 ⟨vs,H1,I1,r,q⟩=>⟨I1.kIn,?_⟩) he hpl
 exact qtq F hr hb hd hx I1 r q
theorem qj8 {pl:Sem Bool} (he:PE X o ta) (c:Cls X.K C) (hm:Meth X.K C m f) (F:FnOk X.prog X.w X.K X.mg X.base CX k f fd ps sp) (hr:Room k X.A) (hb:Binds X.K fd ps ds) (hd:Vals dvs ds) (hx:qf3 CX X E)
  (ht:eval (.Call (.Attribute o m apos) [] [] pos) X.env=(do
   let ov <- eval o X.env
   standAt apos.atName
   let (f,first) <- holding [ov] (getMethod ov m pl)
   callWith pos f first (backTo pos (starEach [] X.env)) (backToKw pos (keywordEach [] X.env))):=by rfl) :
  PE X (.Call (.Attribute o m apos) [] [] pos) (tMeth C m sp dvs E ta tNil):=by
 intro pins s σ H Q I h
 refine PySem.W.methodCall_KW (pl:=pl) (thn (he pins s σ H _ I h) λu s1 hh9 => ?_) ht
 obtain ⟨x,H1,I1,rx,a,dx,fs,ex,ea,l,q⟩:=hh9
 subst ex
 obtain rfl:u=Al a:=rx
 refine qpg I1 ea c hm l ?_
 exact PySem.W.callWith_K0 (first:=[.ref a]) I1.kIn hm.kp (qtq (us:=[.ref a]) (vs:=[.ref a]) F hr hb hd hx I1 (.cons rfl .nil) q)
structure Mk (K:Ae) (C f:Addr):Prop where
 makes:PySem.W.makesIn K C=true
 init:AK K (.ref C) "__init__" = some (some (.ref f))
 fn:Eh K (.ref f)=true
 kp:Be K (.ref C)=true
theorem qtr {pins:List (Addr × Obj)} {σ:St} {H:Hp} {s:Ah} {Q:VK} {us:List Value} {vs:List V} (M:Mk X.K C f) (F:FnOk X.prog X.w X.K X.mg X.base CX k f fd ps sp) (hr:Room (k + 1) X.A) (hb:Binds X.K fd ps ds) (hd:Vals dvs ds)
  (hx:qf3 CX X E) (I:Inv X pins σ H s) (r:Vals vs us)
  (h:∀ x dx,H x=none->H dx=none->dx ≠ x->sp (.ref x :: (vs ++ dvs)) (upd (upd H dx (.own x)) x (.ins C dx [])) (λv H2=>v=.non/\Q (.ref x) H2) E) :
  wpAny (model X.prog X.w) X.A (call (.ref C) us) (EP X pins σ Q) X.xe s:=by
 have hq:=h (s.heap.objs.size + 1) s.heap.objs.size (I.hok.fresh (Cv _)) (I.hok.fresh (A1 _)) (AJ (CO _))
 have I2:=Inv.made (C:=C) I
 have r2:Vals (V.ref (s.heap.objs.size + 1) :: (vs ++ dvs)) (Al (s.heap.objs.size + 1) :: (us ++ ds)):=.cons rfl (r.append hd)
 have hl:(Al (s.heap.objs.size + 1) :: us ++ ds).length=ps.length:=by
  have e:=r2.length
  rw [F.len _ _ _ _ hq] at e
  exact e.symm
 refine CU (qn0 (f:=f) I.kIn M.makes M.init (beq_iff_eq.mp M.fn) (CV (F.run _ X.stack _ _ ⟨Al (s.heap.objs.size + 1) :: us,[]⟩ (Al (s.heap.objs.size + 1) :: (us ++ ds)) _ _ E (hr.make C us [])
  (I2.env0.make C us []) (hb _ (Al (s.heap.objs.size + 1) :: us) I2.kIn hl) r2 hq) λr s' hq' => ?_))
 cases r with
 | error e=>exact hx pins σ _ _ e s' I2 hq'
 | ok fl =>
  cases fl with
  | ret u =>
   obtain ⟨v,H',I3,rv,ev,q3⟩:=I2.after hq'
   subst ev
   exact ⟨rv,⟨V.ref (s.heap.objs.size + 1),H',I3,rfl,q3⟩⟩
  | next=>exact B6 hq'
  | brk=>exact B6 hq'
  | cont=>exact B6 hq'
theorem qwf (M:Mk X.K C f) (F:FnOk X.prog X.w X.K X.mg X.base CX k f fd ps sp) (hr:Room (k + 1) X.A) (hg:Gl X x) (hm:X.mg x=some (.ref C)) (hb:Binds X.K fd ps ds) (hd:Vals dvs ds) (hx:qf3 CX X E)
  (ha:PA X (e :: es) t) (hdb:(x == ("__debug__" : Str))=false:=by decide) (he:starEach (e :: es) X.env=(false,eval e X.env) :: starEach es X.env:=by rfl) (hpl:(backTo pos (starEach es X.env)).any (·.1)=false:=by rfl) :
  PE X (.Call (.Name x p) (e :: es) [] pos) (tMake C sp dvs E t):=by
 intro pins s σ H Q I h
 refine BJ (qey I hg hm ?_ hdb)
 refine CW (h₀:=X.base) I.ok.mod.kin M.kp (thn (ha pos pins s σ H _ I h) λus s1 ⟨vs,H1,I1,r,q⟩=>⟨I1.kIn,?_⟩) he hpl
 exact qtr M F hr hb hd hx I1 r q
end
section
variable {X:Cx} {CX:CXT} {k:Nat} {f C:Addr} {fd:AD} {ps ks:List Str} {sp:Sp} {E:XK} {x m:Str} {p pos apos kpos:Pos} {e o:Expr} {es:List Expr} {kws:List Keyword} {te ta:TE} {t tk:TA} {nm:Option Str}
variable {g:List Value->List Value->List Value} {gV:List V->List V->List V}
end
structure FnScope (N P:List Str) (sc:Scope):Prop where
 kind:sc.kind=.function
 co:sc.isCoroutine=false
 gen:sc.isGenerator=false
 nd:N.Nodup
 pre:N.take P.length=P
 par:∀ x ∈ P,sc.names.lookup x=some .local \/ sc.names.lookup x=some .cell
 nofree:∀ y ∈ sc.names,y.2 ≠ .free
theorem ql1 {kindOf:Str->Option Bo} {x:Str}:∀ {binds:List (Str × Value)} {m:Str->Option Value},(∀ v,(x,v) ∉ binds)->bindL kindOf binds m x=m x
 | [],_,_=>rfl
 | (n,v) :: r,m,h=>by
  unfold bindL
  rw [ql1 λw hw=>h w (At _ hw)]
  split
  .have:x ≠ n:=by rintro rfl; exact h v Ak
   simp [this]
  .rfl
theorem ql2 {kindOf:Str->Option Bo} {x:Str}:∀ {binds:List (Str × Value)} {m:Str->Option Value},(∀ v,(x,v) ∉ binds)->bindC kindOf binds m x=m x
 | [],_,_=>rfl
 | (n,v) :: r,m,h=>by
  unfold bindC
  rw [ql2 λw hw=>h w (At _ hw)]
  split
  .rfl
  .have:x ≠ n:=by rintro rfl; exact h v Ak
   simp [this]
theorem ql3 {kindOf:Str->Option Bo} {x:Str} {v:Value}:∀ {P:List Str} {vs:List Value} {i:Nat} {m:Str->Option Value},P.Nodup->P[i]?=some x->vs[i]?=some v->kindOf x=some .local ->
  bindL kindOf (P.zip vs) m x=some v
 | [],_,_,_,_,h,_,_=>by simp at h
 | _ :: _,[],_,_,_,_,h,_=>by simp at h
 | p :: P,w :: vs,0,m,nd,h1,h2,hk=>by
  simp at h1 h2; subst h1; subst h2
  show bindL kindOf ((p,w) :: P.zip vs) m p=_
  unfold bindL
  rw [ql1 λv hv=>(AW.mp nd).1 (List.of_mem_zip hv).1,if_pos hk]
  simp
 | p :: P,w :: vs,i + 1,m,nd,h1,h2,hk=>by
  show bindL kindOf ((p,w) :: P.zip vs) m x=_
  unfold bindL
  exact ql3 (i:=i) (AW.mp nd).2 (by simpa using h1) (by simpa using h2) hk
theorem ql4 {kindOf:Str->Option Bo} {x:Str} {v:Value}:∀ {P:List Str} {vs:List Value} {i:Nat} {m:Str->Option Value},P.Nodup->P[i]?=some x->vs[i]?=some v->kindOf x ≠ some .local ->
  bindC kindOf (P.zip vs) m x=some v
 | [],_,_,_,_,h,_,_=>by simp at h
 | _ :: _,[],_,_,_,_,h,_=>by simp at h
 | p :: P,w :: vs,0,m,nd,h1,h2,hk=>by
  simp at h1 h2; subst h1; subst h2
  show bindC kindOf ((p,w) :: P.zip vs) m p=_
  unfold bindC
  rw [ql2 λv hv=>(AW.mp nd).1 (List.of_mem_zip hv).1,if_neg hk]
  simp
 | p :: P,w :: vs,i + 1,m,nd,h1,h2,hk=>by
  show bindC kindOf ((p,w) :: P.zip vs) m x=_
  unfold bindC
  exact ql4 (i:=i) (AW.mp nd).2 (by simpa using h1) (by simpa using h2) hk
noncomputable def qfz (N:List Str) (vs:List V):St:=vs.map some ++ List.replicate (N.length - vs.length) none
noncomputable def qm3 (CX:CXT) (P:AN) (w:World) (K:Ae) (mg:Str->Option Value) (base:Heap) (N:List Str) (qual:Str) (scope:Scope) (f:Addr) (cd:Value) (A:AX) (outer:List Env) (s:Ah) (H:Hp) (E:XK):Cx where
 prog:=P
 w:=w
 K:=K
 mg:=mg
 base:=base
 A:=A.deeper (envOfC qual scope s.heap.objs.size f cd)
 N:=N
 s₀:=s
 H₀:=H
 env:=envOfC qual scope s.heap.objs.size f cd
 outer:=outer
 stack:=envOfC qual scope s.heap.objs.size f cd :: outer
 ex:=[]
 calm:=true
 fn:=λ_=>true
 pn:=[]
 xe:=λe s'=>wpAny (model P w) (A.deeper (envOfC qual scope s.heap.objs.size f cd)) (leaving (envOfC qual scope s.heap.objs.size f cd) e) (λ_ s''=>CX outer H s E e s'') (λe' s''=>CX outer H s E e' s'') s'
theorem qn1 {sc:Scope} {n:Nat} {x:Str} (h:sc.names.lookup x=some .cell):∃ c,(cellsFrom n sc.names []).lookup x=some c:=by
 have q:=PySem.W.cellsFrom_some sc.names n [] (.inl h)
 exact CJ.mp q
theorem qry {CX:CXT} {P:AN} {w:World} {K:Ae} {mg:Str->Option Value} {base:Heap} {N ps:List Str} {qual:Str} {scope:Scope} {f:Addr} {cd:Value} {A:AX} {outer:List Env} {s s1:Ah} {H:Hp} {E:XK} {us:List Value} {vs:List V}
  (S:FnScope N ps scope) (hd:A.handled=none) (e0:Env0 P w K mg base A outer s H) (hl:vs.length=ps.length) (r:Vals vs us)
  (x:InCallC s s.heap.objs.size (bindL (envOfC qual scope s.heap.objs.size f cd).kindOf (ps.zip us) λ_=>none) (cellsFrom (s.heap.objs.size + 1) scope.names []) (bindC (envOfC qual scope s.heap.objs.size f cd).kindOf (ps.zip us) λ_=>none) s1) :
  Inv (qm3 CX P w K mg base N qual scope f cd A outer s H E) [] (qfz N vs) H s1:=by
 have hpl:ps.length <= N.length:=by have:=congrArg Dg S.pre; rw [Ap] at this; lia
 obtain ⟨h1,tk,rfl,hk⟩:=x.done
 have noA:∀ b:Addr,b ∉ (qm3 CX P w K mg base N qual scope f cd A outer s H E).ex:=λb z=>absurd (show b ∈ ([]:List Addr) from z) (by simp)
 refine ⟨⟨e0.mod,S.kind,rfl,rfl,A1 _,λy z c h1 h2 => ?_,λy hy => ?_,λy c _ h => ?_,λ_=>hd,AX.frames_deeper e0.frames,.inr ⟨rfl,rfl⟩,λb z=>absurd z (noA b),e0.bs,e0.bsz,λb _ _=>noA b,λb z=>absurd z (noA b),e0.funs,e0.frf⟩,
  rfl,e0.bare,Un.kept hk,⟨_,x.toInCall.ns,λi y v h1 h2 h3 => ?_⟩,λy c h=>⟨_,x.cell y c h⟩,e0.hok.fresh (A1 _),λy c h => ?_,λp hp=>absurd (show p ∈ ([]:List (Addr × Obj)) from hp) (by simp),e0.hok.kept hk,?_⟩
 .exact name_of_addr x.apart (CN h1) (CN h2)
 .have hy:scope.names.lookup y=some .cell \/ scope.names.lookup y=some .free:=hy
  rcases hy with hy | hy
  .exact qn1 hy
  .exact absurd rfl (S.nofree _ (CN hy))
 .exact Nat.le_of_lt (x.above y c (CN h))
 .have hi:i < vs.length:=by
   unfold qfz at h2
   by_cases hi:i < vs.length
   .exact hi
   .rw [AL (by simpa using hi)] at h2
    rw [List.getElem?_replicate] at h2
    split at h2 <;> cases h2
  have ha:vs[i]?=some v:=by
   unfold qfz at h2
   rw [AS (by simpa using hi),An] at h2
   cases e:vs[i]? with
   | none=>rw [e] at h2; cases h2
   | some a=>rw [e] at h2; cases h2; rfl
  obtain ⟨u,hu,rv⟩:=r.get ha
  have hp:ps[i]?=some y:=by
   rw [<- S.pre,Du (by lia)]; exact h1
  have ndP:ps.Nodup:=by rw [<- S.pre]; exact S.nd.sublist (B1 _ _)
  refine ⟨u,rv,?_⟩
  rcases S.par y (Aw hp) with k | k
  .exact .inl ⟨k,ql3 ndP hp hu k⟩
  .obtain ⟨c,e⟩:=qn1 (n:=s.heap.objs.size + 1) k
   refine .inr ⟨.inl k,c,e,?_⟩
   have q:=x.cell y c e
   rw [ql4 ndP hp hu (by show scope.names.lookup y ≠ _; rw [k]; decide)] at q
   exact q
 .exact e0.hok.fresh (Nat.le_of_lt (x.above y c (CN h)))
 .unfold qfz
  show _=N.length
  rw [Ag,Ab,List.length_replicate]
  lia
theorem qts {CX:CXT} {P:AN} {w:World} {K:Ae} {mg:Str->Option Value} {base:Heap} {k:Nat} {f:Addr} {name qual:Str} {params:Arguments} {body:List Stmt} {scope:Scope} {dV kV doc pm cdv ct oc:Value} {an od:Option Addr}
  {osl:Array (Option Value)} {N ps:List Str} {sp:Sp} (lk:K.lookup f=some ⟨oc,od,.func (Bx name qual params body scope dV kV doc pm an cdv ct),osl⟩) (hcd:Ca K cdv qual=true) (S:FnScope N ps scope)
  (len:∀ vs H Q E,sp vs H Q E->vs.length=ps.length)
  (hbody:∀ (A:AX) (outer:List Env) (s:Ah) (H:Hp) (vs:List V) (Q:VK) (E:XK),Room k (A.deeper (envOfC qual scope s.heap.objs.size f cdv))->sp vs H Q E ->
   ∃ t,PSs (qm3 CX P w K mg base N qual scope f cdv A outer s H E) body t/\t { nx:=λ_ H'=>Q .non H',rt:=Q } (qfz N vs) H) :
  FnOk P w K mg base CX (k + 1) f (Bx name qual params body scope dV kV doc pm an cdv ct) ps sp:=by
 refine ⟨len,λA outer s H args us vs Q E hr e0 hb r hsp => ?_⟩
 have hl:=len _ _ _ _ hsp
 have KX:K.In s.heap:=e0.mod.kin.keeps λb o e=>(e0.bs b o e).1
 have lim:s.heap.NoLimit:=e0.mod.nolimit.keeps λb o e=>(e0.bs b o e).1
 have hkind:∀ y ∈ ps.zip us,scope.names.lookup y.1=some .local \/ (scope.names.lookup y.1=some .cell/\((cellsFrom (s.heap.objs.size + 1) scope.names []).lookup y.1).isSome=true):=λ⟨n,v⟩ hy=>by
  rcases S.par n (List.of_mem_zip hy).1 with q | q
  .exact .inl q
  .exact .inr ⟨q,PySem.W.cellsFrom_some _ _ _ (.inl q)⟩
 refine codeAny_call_function hr.depth (KX _ _ lk) rfl S.co S.gen rfl (PySem.W.codeRec_of KX hcd) (hb _ _ _ _ ?_)
 refine wpAny_newFunctionEnv_cells S.kind hkind λenv he s1 x => ?_
 subst he
 refine ⟨lim.keeps x.toInCall.keep,codeAny_func ?_⟩
 obtain ⟨t,ht,hq⟩:=hbody A outer s H vs Q E (hr.deeper _) hsp
 have I:Inv (qm3 CX P w K mg base N qual scope f cdv A outer s H E) [] (qfz N vs) H s1:=qry S hr.hd e0 hl r x
 refine BO (ht [] s1 (qfz N vs) H _ I hq) (λfl s' hs => ?_) λe s' hs=>hs
 have fin:∀ {σ':St} {H':Hp} {v:V} {u:Value},Inv (qm3 CX P w K mg base N qual scope f cdv A outer s H E) [] σ' H' s'->RelV v u->Q v H'->CE outer P w H s Q u s' :=
  λ{σ' H' v u} J rv q=>⟨v,H',J.os,J.bare,J.base,J.hok,rv,q⟩
 cases fl with
 | ret u =>
  obtain ⟨v,σ',H',J,rv,q⟩:=hs
  exact fin J rv q
 | next =>
  obtain ⟨σ',H',J,q⟩:=hs
  exact fin (v:=V.non) (u:=BI) J rfl q
 | brk =>
  obtain ⟨_,_,_,q⟩:=hs
  exact B6 q
 | cont =>
  obtain ⟨_,_,_,q⟩:=hs
  exact B6 q
end L2
namespace L2
open PySem PySem.Spec PyProof.Rows
section
variable {X:Cx} {x:Str} {p pos:Pos} {e:Expr} {es:List Expr} {t:TA} {id T:String} {r:List V->Hp->VK->Prop}
noncomputable def tCB (r:List V->Hp->VK->Prop) (t:TA):TE:=λσ H Q=>t σ H λvs H1=>r vs H1 Q
theorem zn (hc:qel X (.builtin id) r) (hg:Gl X x) (hm:X.mg x=none) (hv:bootBuiltins x=some (.builtin id)) (ha:PA X (e :: es) t) (hn:x ≠ "__name__" := by decide) (hdb:(x == ("__debug__" : Str))=false:=by decide)
  (he:starEach (e :: es) X.env=(false,eval e X.env) :: starEach es X.env:=by rfl) (hpl:(backTo pos (starEach es X.env)).any (·.1)=false:=by rfl):PE X (.Call (.Name x p) (e :: es) [] pos) (tCB r t):=by
 intro pins s σ H Q I h
 refine BJ (qe5 I hg hm hv ?_ hn hdb)
 exact DI (thn (ha pos pins s σ H _ I h) λus s1 ⟨vs,H1,I1,r1,q1⟩=>hc pins s1 σ H1 vs us Q I1 r1 q1) he hpl
theorem qb9 (hc:qel X (.type T) r) (hg:Gl X x) (hm:X.mg x=none) (hv:bootBuiltins x=some (.type T)) (ha:PA X (e :: es) t) (hn:x ≠ "__name__" := by decide) (hdb:(x == ("__debug__" : Str))=false:=by decide)
  (he:starEach (e :: es) X.env=(false,eval e X.env) :: starEach es X.env:=by rfl) (hpl:(backTo pos (starEach es X.env)).any (·.1)=false:=by rfl):PE X (.Call (.Name x p) (e :: es) [] pos) (tCB r t):=by
 intro pins s σ H Q I h
 refine BJ (qe5 I hg hm hv ?_ hn hdb)
 exact Br (thn (ha pos pins s σ H _ I h) λus s1 ⟨vs,H1,I1,r1,q1⟩=>hc pins s1 σ H1 vs us Q I1 r1 q1) he hpl
end
end L2
namespace HT
open PySem PyProof.Rows
section
open PySem.SeqAt
open PySem.AutoSeq1 (wpAny_loadPart')
open PySem.MeetsSeq PySem.MeetsSeq2 PySem.MeetsSeq3
end
section
variable {prog:AN} {w:World} {A:AX} {E:Value->Ah->Prop} {s:Ah}
noncomputable def sIx (n d:Nat):Option Int->Nat
 | none=>d
 | some v=>if v < 0 then (v + (n:Int)).toNat else min v.toNat n
end
end HT
namespace L2
open PySem PySem.Spec PyProof.Rows
noncomputable abbrev TO:=St->Hp->(Option Int->Hp->Prop)->Prop
noncomputable def PO (X:Cx) (e:Option Expr) (t:TO):Prop :=
 ∀ (pins:List (Addr × Obj)) (s:Ah) (σ:St) (H:Hp) (Q:Option Int->Hp->Prop),Inv X pins σ H s->t σ H Q ->
  wpAny (model X.prog X.w) X.A (evalPart e X.env) (λu s'=>∃ o H',Inv X pins σ H' s'/\IsPart u o/\Q o H') X.xe s
noncomputable def qwg:TO:=λ_ H Q=>Q none H
noncomputable def tPart (t:TE):TO:=λσ H Q=>t σ H λx H1=>∃ i,x=.int i/\Q (some i) H1
section
variable {X:Cx} {e:Expr} {te:TE} {lo hi:Option Expr} {tl th:TO} {pos p2:Pos}
theorem qbd:PO X none qwg:=by
 intro pins s σ H Q I h
 rw [evalPart_none]
 exact A2 ⟨none,H,I,.none,h⟩
theorem qaq (h:PE X e te):PO X (some e) (tPart te):=by
 intro pins s σ H Q I hw
 rw [evalPart_some]
 refine thn (h pins s σ H _ I hw) λu s1 hh9 => ?_
 obtain ⟨x,H1,I1,r1,q1⟩:=hh9
 obtain ⟨i,rfl,q⟩:=q1
 obtain ⟨t,rfl⟩:=r1
 exact ⟨some i,H1,I1,.int i t,q⟩
noncomputable def SlR (X:Cx) (r:V->Option Int->Option Int->Hp->VK->Prop):Prop :=
 ∀ (pins:List (Addr × Obj)) (s:Ah) (σ:St) (H:Hp) (x:V) (v vl vu:Value) (lo hi:Option Int) (sl:Addr) (Q:VK),Inv X pins σ H s->RelV x v->s.heap.IsSliceOf sl vl vu .none->IsPart vl lo->IsPart vu hi->r x lo hi H Q ->
  ∃ T id,typeLookup (.type T) "__getitem__" = pure (some (.builtin id))/\s.TypeIs v T/\wpAny (model X.prog X.w) X.A (getItem v (.ref sl)) (EP X pins σ Q) X.xe s
noncomputable def tSl (r:V->Option Int->Option Int->Hp->VK->Prop) (te:TE) (tl th:TO):TE:=λσ H Q=>te σ H λx H1=>tl σ H1 λl H2=>th σ H2 λu H3=>r x l u H3 Q
theorem qas {r:V->Option Int->Option Int->Hp->VK->Prop} (hr:SlR X r) (he:PE X e te) (hl:PO X lo tl) (hu:PO X hi th):PE X (.Subscript e (.Slice lo hi none p2) pos) (tSl r te tl th):=by
 intro pins s σ H Q I h
 refine Subscript_ (thn (he pins s σ H _ I h) λv s1 hh9 => ?_)
 obtain ⟨x,H1,I1,r1,q1⟩:=hh9
 refine wpAny_Slice (thn (hl pins s1 σ H1 _ I1 q1) λvl s2 ⟨l,H2,I2,pl,q2⟩=>thn (hu pins s2 σ H2 _ I2 q2) λvu s3 hh9 => ?_)
 obtain ⟨u,H3,I3,pu,q3⟩:=hh9
 rw [evalPart_none]
 refine A2 ?_
 have I4:Inv X pins σ H3 { s3 with heap:=s3.heap.push { cls:=.type "slice",data:=.fields #[vl,vu,.none] } }:=I3.kept (t':=s3.toks) λb ob q=>Am _ q
 obtain ⟨T,id,hT,ht,hg⟩:=hr pins { s3 with heap:=s3.heap.push { cls:=.type "slice",data:=.fields #[vl,vu,.none] } } σ H3 x v vl vu l u s3.heap.objs.size Q I4 r1 (Heap.IsSliceOf.new ..) pl pu q3
 show wpAny (model X.prog X.w) X.A (subscriptTail e (.Slice lo hi none p2) v (.ref s3.heap.objs.size)) (EP X pins σ Q) X.xe { s3 with heap:=s3.heap.push { cls:=.type "slice",data:=.fields #[vl,vu,.none] } }
 exact tail_any (ops:=[.ref s3.heap.objs.size,v]) ht hT hg (by with_unfolding_all rfl)
noncomputable def qfl (xs:List V) (lo hi:Option Int):List V:=(xs.drop (HT.sIx xs.length 0 lo)).take (HT.sIx xs.length xs.length hi - HT.sIx xs.length 0 lo)
theorem qn2 (xs:List V) (lo hi:Option Int):(qfl xs lo hi).length <= xs.length:=by
 unfold qfl
 rw [Ap,AB]
 lia
end
end L2
namespace L2
open PySem PySem.Spec PyProof.Rows
noncomputable def ixN (n:Nat) (i:Int):Option Nat:=if 0 <= i then (if i < n then some i.toNat else none) else if -(n:Int) <= i then some (i + n).toNat else none
noncomputable def atI {α:Type} (xs:List α) (i:Int):Option α:=(ixN xs.length i).bind λj=>xs[j]?
theorem qqw {n:Nat} {i:Int} {j:Nat} (h:ixN n i=some j):seqIndex? i n=some j/\j < n /\ -(n:Int) <= i/\i < n:=by
 unfold ixN at h
 by_cases h0:0 <= i
 .rw [if_pos h0] at h
  by_cases h1:i < n
  .rw [if_pos h1] at h
   have e:i.toNat=j:=AF h
   exact ⟨by rw [seqIndex_of h0 h1,e],by lia,by lia,h1⟩
  .rw [if_neg h1] at h; cases h
 .rw [if_neg h0] at h
  by_cases h1 : -(n:Int) <= i
  .rw [if_pos h1] at h
   have e:(i + n).toNat=j:=AF h
   exact ⟨by rw [seqIndex_neg (by lia) h1,e],by lia,h1,by lia⟩
  .rw [if_neg h1] at h; cases h
theorem qm4 {α:Type} {xs:List α} {i:Int} {v:α} (h:atI xs i=some v):∃ j,seqIndex? i xs.length=some j/\xs[j]?=some v/\j < xs.length /\ -(xs.length:Int) <= i/\i < xs.length:=by
 unfold atI at h
 cases e:ixN xs.length i with
 | none=>rw [e] at h; cases h
 | some j =>
  rw [e] at h
  obtain ⟨h1,h2,h3,h4⟩:=qqw e
  exact ⟨j,h1,h,h2,h3,h4⟩
theorem qaz {α:Type} {xs:List α} {j:Nat} {v:α} (h:xs[j]?=some v):atI xs (j:Int)=some v:=by
 have hj:j < xs.length:=(Af.mp h).1
 have e:ixN xs.length (j:Int)=some j:=by
  unfold ixN
  rw [if_pos (by lia),if_pos (by lia)]; simp
 unfold atI; rw [e]; exact h
noncomputable def qwh (b:Expr):Prop:=∀ o i,subscripted b false o i=operate [o,i] (getItem o i)
noncomputable def IxR (X:Cx) (r:R2):Prop :=
 ∀ (value slice:Expr) (pins:List (Addr × Obj)) (s:Ah) (σ:St) (H:Hp) (x y:V) (v u:Value) (Q:VK),Inv X pins σ H s->RelV x v->RelV y u->r x y H Q ->
  subscripted slice false v u=operate [v,u] (getItem v u)->wpAny (model X.prog X.w) X.A (subscriptTail value slice v u) (EP X pins σ Q) X.xe s
noncomputable def MtR (X:Cx) (id:String) (r:V->List V->Hp->VK->Prop):Prop :=
 ∀ (pins:List (Addr × Obj)) (s:Ah) (σ:St) (H:Hp) (x:V) (xs:List V) (v:Value) (us:List Value) (Q:VK),Inv X pins σ H s->RelV x v->Vals xs us->r x xs H Q ->
  wpAny (model X.prog X.w) X.A (call (.builtin id) (v :: us)) (EP X pins σ Q) X.xe s
section
variable {X:Cx} {a b:Expr} {ta tb:TE} {pos:Pos}
theorem zy {r:R2} (hr:IxR X r) (ha:PE X a ta) (hb:PE X b tb) (hs:qwh b):PE X (.Subscript a b pos) (tOp r ta tb):=by
 intro pins s σ H Q I h
 exact Subscript_ (qyv ha hb I h λv u s2 x y H2 I2 rx ry q=>hr a b pins s2 σ H2 x y v u Q I2 rx ry q (hs _ _))
noncomputable def rIxL (K:Ae):R2:=λx y H Q=>∃ p xs i v,x=.ref p/\y=.int i/\SqL K H p xs/\atI xs i=some v/\Q v H
noncomputable def rIxT (K:Ae):R2:=λx y H Q=>∃ p xs i v,x=.ref p/\y=.int i/\SqT K H p xs/\atI xs i=some v/\Q v H
noncomputable def rIxS:R2:=λx y H Q=>∃ z i c,x=.str z/\y=.int i/\z.length <= A0/\atI z.cps.toList i=some c/\Q (.str ⟨#[c]⟩) H
theorem jb:IxR X (rIxL X.K):=by
 intro value slice pins s σ H x y v u Q I rx ry h hs
 obtain ⟨p,xs,i,z,rfl,rfl,hq,he,q⟩:=h
 cases rx
 obtain ⟨t,rfl⟩:=ry
 obtain ⟨its,r,pl,hz⟩:=I.list hq
 obtain ⟨j,h1,h2,h3,h4,h5⟩:=qm4 he
 obtain ⟨w,ew,rw'⟩:=r.get h2
 have hl:=r.length
 have hn:=qj7
 have fin:EP X pins σ Q w s:=⟨z,H,I,rw',q⟩
 by_cases h0:0 <= i
 .have hj:i.toNat=j:=by
   rw [seqIndex_of h0 h5] at h1
   exact AF h1
  exact item_listR pl.isList h0 (by lia) (by rw [hj]; simpa using ew) fin hs
 .have hj:(i + (its.toArray.size:Int)).toNat=j:=by
   rw [seqIndex_neg (by lia) h4] at h1
   rw [Av,<- hl]
   exact AF h1
  exact subscriptTail_builtinR (x:=w) pl.isList.typeIs slot_list_getitem.lookup
   (wpAny_getItem_list_neg (Q:=λr s'=>r=w/\EP X pins σ Q r s') pl.isList (by lia) (by rw [Av] <;> lia) (by lia) (by rw [hj]; simpa using ew) ⟨rfl,fin⟩) hs
theorem ja:IxR X (rIxT X.K):=by
 intro value slice pins s σ H x y v u Q I rx ry h hs
 obtain ⟨p,xs,i,z,rfl,rfl,hq,he,q⟩:=h
 cases rx
 obtain ⟨t,rfl⟩:=ry
 obtain ⟨its,r,pl,hz⟩:=I.tuple hq
 obtain ⟨j,h1,h2,h3,h4,h5⟩:=qm4 he
 obtain ⟨w,ew,rw'⟩:=r.get h2
 have hl:=r.length
 have hn:=qj7
 have fin:EP X pins σ Q w s:=⟨z,H,I,rw',q⟩
 exact subscriptTail_builtinR (x:=w) pl.typeIs slot_tuple_getitem.lookup
  (getItem_tuple (j:=j) (Q:=λr s'=>r=w/\EP X pins σ Q r s') pl (by lia) (by lia) (by rw [Av,<- hl]; exact h1) (by simpa using ew) ⟨rfl,fin⟩) hs
theorem qpk:IxR X rIxS:=by
 intro value slice pins s σ H x y v u Q I rx ry h hs
 obtain ⟨z,i,c,rfl,rfl,hz,he,q⟩:=h
 obtain ⟨t,rfl⟩:=rx
 obtain ⟨t',rfl⟩:=ry
 obtain ⟨j,h1,h2,h3,h4,h5⟩:=qm4 he
 have hl:z.cps.toList.length=z.length:=by simp [Str.length]
 rw [hl] at h1 h4 h5
 have hn:=qj7
 exact tail_any (typeIs_str s z t) slot_str_getitem.lookup (getItem_str (c:=c) (by
  have e1:decide (i < -(2 ^ 63:Int))=false:=decide_eq_false (by lia)
  have e2:decide (i ≥ 2 ^ 63)=false:=decide_eq_false (by lia)
  rw [e1,e2,Bool.or_false]) (by rw [h1]; simpa using h2) ⟨.str ⟨#[c]⟩,H,I.tok _,⟨_,rfl⟩,q⟩) hs
theorem qpl (its:List Value) (n j:Nat) (u:Value):D3 (·.setIfInBounds j u) { cls:=.type "list",data:=.seq its.toArray n }={ cls:=.type "list",data:=.seq (its.set j u).toArray n }:=by
 simp [D3]
theorem Inv.lst {pins:List (Addr × Obj)} {σ:St} {H:Hp} {s:Ah} {p:Addr} {xs:List V} (I:Inv X pins σ H s) (h:H p=some (.lst xs)) :
  ∃ (its:List Value) (n:Nat),Vals xs its/\s.heap.get? p=some { cls:=.type "list",data:=.seq its.toArray n }/\xs.length <= A0:=by
 obtain ⟨z,its,n,r,e⟩:=I.hok p _ h
 exact ⟨its,n,r,e,z⟩
theorem Inv.lstUpd {pins:List (Addr × Obj)} {σ:St} {H:Hp} {s:Ah} {p:Addr} {xs ys:List V} {its its':List Value} {n n':Nat} {f:Obj->Obj} (I:Inv X pins σ H s) (h:H p=some (.lst xs))
  (ho:s.heap.get? p=some { cls:=.type "list",data:=.seq its.toArray n }) (hf:f { cls:=.type "list",data:=.seq its.toArray n }={ cls:=.type "list",data:=.seq its'.toArray n' }) (r:Vals ys its') (hz:ys.length <= A0) (t:Nat) :
  Inv X pins σ (upd H p (.lst ys)) { s with heap:=s.heap.update p f,toks:=t }:=by
 have e:(s.heap.update p f).get? p=some { cls:=.type "list",data:=.seq its'.toArray n' }:=by
  rw [B8 f ho (by rw [hf] <;> rfl),hf]
 refine I.write (x:=p) (e:=p) (by rw [h]; trivial) (.inl rfl) (λb u hb q=>(B3 _ _ (Bc hb)).trans q) ⟨_,e⟩ ?_
 exact ⟨hz,its',n',r,e⟩
noncomputable def rSetL:V->V->V->Hp->(Hp->Prop)->Prop:=λo i v H Q=>∃ p xs k j,o=.ref p/\i=.int k/\H p=some (.lst xs)/\ixN xs.length k=some j/\Q (upd H p (.lst (xs.set j v)))
theorem qn3:PSet X rSetL:=by
 intro pins s σ H o i v ov iv u Q I ro ri rv h
 obtain ⟨p,xs,k,j,rfl,rfl,hp,hj,q⟩:=h
 cases ro
 obtain ⟨t,rfl⟩:=ri
 obtain ⟨its,n,r,ho,hz⟩:=I.lst hp
 obtain ⟨h1,h2,h3,h4⟩:=qqw hj
 have hl:=r.length
 have hn:=qj7
 have I':Inv X pins σ (upd H p (.lst (xs.set j v))) { s with heap:=s.heap.update p (D3 (·.setIfInBounds j u)) } :=
  I.lstUpd hp ho (qpl its n j u) (r.set rv j) (by rw [Cb]; exact hz) s.toks
 by_cases h0:0 <= k
 .have hk:k.toNat=j:=by
   rw [seqIndex_of h0 h4] at h1
   exact AF h1
  exact PySem.W.ki_setAt ho h0 (by lia) (by rw [Av,<- hl]; exact h4) (by rw [hk]; exact ⟨_,I',q⟩)
 .have hk:(k + (its.toArray.size:Int)).toNat=j:=by
   rw [seqIndex_neg (by lia) h3] at h1
   rw [Av,<- hl]
   exact AF h1
  exact PySem.W.ki_setBack ho (by lia) (by rw [Av,<- hl]; exact h3) (by lia) (by rw [hk]; exact ⟨_,I',q⟩)
theorem qm5 (lo hi:Option Int) (n:Nat):(sliceBounds lo hi none n).1=((HT.sIx n 0 lo:Nat):Int)/\(sliceBounds lo hi none n).2.1=((HT.sIx n n hi:Nat):Int)/\(sliceBounds lo hi none n).2.2=1:=by
 refine ⟨?_,?_,rfl⟩
 .cases lo with
  | none=>simp [sliceBounds,HT.sIx]
  | some i =>
   simp only [sliceBounds,HT.sIx,Option.getD_none,show (1:Int) > 0 by decide,if_true]
   by_cases h:i < 0
   .simp only [h,if_true] <;> lia
   .simp only [h,if_false] <;> lia
 .cases hi with
  | none=>simp [sliceBounds,HT.sIx]
  | some i =>
   simp only [sliceBounds,HT.sIx,Option.getD_none,show (1:Int) > 0 by decide,if_true]
   by_cases h:i < 0
   .simp only [h,if_true] <;> lia
   .simp only [h,if_false] <;> lia
theorem qlk (its:List Value) (lo hi:Option Int):slicePick its.toArray lo hi none=((its.drop (HT.sIx its.length 0 lo)).take (HT.sIx its.length its.length hi - HT.sIx its.length 0 lo)).toArray:=by
 obtain ⟨h1,h2,h3⟩:=qm5 lo hi its.toArray.size
 unfold slicePick
 rw [h1,h2,h3]
 simp only [sliceRange_one,pick_run,Av] <;> rfl
noncomputable def rSlL (K:Ae):V->Option Int->Option Int->Hp->VK->Prop:=λx lo hi H Q=>∃ a xs,x=.ref a/\SqL K H a xs/\∀ p,H p=none->Q (.ref p) (upd H p (.lst (qfl xs lo hi)))
theorem qbe:SlR X (rSlL X.K):=by
 intro pins s σ H x v vl vu lo hi sl Q I rx hs pl pu h
 obtain ⟨a,xs,rfl,hx,q⟩:=h
 cases rx
 obtain ⟨its,r,ht,hz⟩:=I.list hx
 have hlen:=r.length
 refine ⟨"list",_,slot_list_getitem.lookup,ht.isList.typeIs,?_⟩
 refine wpAny_getItem_list_slice ht.isList hs pl pu .none (by simp) ?_ (by rw [Av] <;> lia)
 rw [qlk,<- hlen]
 refine ⟨.ref s.heap.objs.size,_,I.laid (t':=s.toks) (o:=.lst (qfl xs lo hi)) (λb ob q=>Am _ q) (A1 _) ?_,rfl,q _ (I.hok.fresh (A1 _))⟩
 exact ⟨Au (qn2 xs lo hi) hz,_,0,(r.drop (HT.sIx xs.length 0 lo)).take (HT.sIx xs.length xs.length hi - HT.sIx xs.length 0 lo),A5 _ rfl⟩
noncomputable def qct:V->Bool
 | .non=>true
 | .bl _=>true
 | .int _=>true
 | .str _=>true
 | _=>false
noncomputable def eqV:V->V->Bool
 | .non,.non=>true
 | .bl a,.bl b=>a == b
 | .bl a,.int b=>(if a then 1 else 0) == b
 | .int a,.bl b=>a == (if b then 1 else 0)
 | .int a,.int b=>a == b
 | .str a,.str b=>a == b
 | _,_=>false
theorem qtt {A:AX} {s:Ah} {y x:V} {u v:Value} (ry:RelV y u) (rx:RelV x v) (fy:qct y=true) (fx:qct x=true):BB A s u v (eqV y x):=by
 cases y with
 | non =>
  cases ry
  cases x with
  | non=>cases rx; exact BB.same _
  | bl b=>cases rx; exact BB.none_bool b
  | int b=>obtain ⟨t,rfl⟩:=rx; exact BB.none_int b t
  | str b=>obtain ⟨t,rfl⟩:=rx; exact BB.none_str b t
  | _=>exact absurd (show false=true from fx) A9
 | bl a =>
  cases ry
  cases x with
  | non=>cases rx; exact BB.bool_none a
  | bl b=>cases rx; exact BB.bool_bool a b
  | int b=>obtain ⟨t,rfl⟩:=rx; exact BB.bool_int a b t
  | str b=>obtain ⟨t,rfl⟩:=rx; exact BB.bool_str a b t
  | _=>exact absurd (show false=true from fx) A9
 | int a =>
  obtain ⟨t',rfl⟩:=ry
  cases x with
  | non=>cases rx; exact BB.int_none a t'
  | bl b=>cases rx; exact BB.int_bool a t' b
  | int b=>obtain ⟨t,rfl⟩:=rx; exact BB.int_int a t' b t
  | str b=>obtain ⟨t,rfl⟩:=rx; exact BB.int_str a t' b t
  | _=>exact absurd (show false=true from fx) A9
 | str a =>
  obtain ⟨t',rfl⟩:=ry
  cases x with
  | non=>cases rx; exact BB.str_none a t'
  | bl b=>cases rx; exact BB.str_bool a t' b
  | int b=>obtain ⟨t,rfl⟩:=rx; exact BB.str_int a t' b t
  | str b=>obtain ⟨t,rfl⟩:=rx; exact BB.str_str a t' b t
  | _=>exact absurd (show false=true from fx) A9
 | _=>exact absurd (show false=true from fy) A9
noncomputable def eqU (x:V) (u:Value):Bool:=match u with
 | .none=>eqV .non x
 | .bool b=>eqV (.bl b) x
 | .int i _=>eqV (.int i) x
 | .str z _=>eqV (.str z) x
 | _=>false
theorem qtu {x y:V} {u:Value} (r:RelV y u) (f:qct y=true):eqU x u=eqV y x:=by
 cases y with
 | non=>cases r; rfl
 | bl b=>cases r; rfl
 | int i=>obtain ⟨t,rfl⟩:=r; rfl
 | str z=>obtain ⟨t,rfl⟩:=r; rfl
 | _=>exact absurd (show false=true from f) A9
theorem qhx {x:V}:∀ {xs:List V} {us:List Value},Vals xs us->xs.all qct=true->us.any (eqU x)=xs.any λy=>eqV y x
 | _,_,.nil,_=>rfl
 | y :: xs,u :: us,.cons r t,f=>by
  rw [Cr,AC] at f
  rw [Dv,Dv,qtu r f.1,qhx t f.2]
theorem qf4 {A:AX} {s:Ah} {x:V} {v:Value} (rx:RelV x v) (fx:qct x=true):∀ {xs:List V} {us:List Value},Vals xs us->xs.all qct=true->∀ u ∈ us,BB A s u v (eqU x u)
 | _,_,.nil,_=>λu hu=>by cases hu
 | y :: xs,u :: us,.cons r t,f=>λu' hu=>by
  rw [Cr,AC] at f
  rcases Ao.mp hu with rfl | hu
  .rw [qtu r f.1]; exact qtt r rx f.1 fx
  .exact qf4 rx fx t f.2 u' hu
noncomputable def inV (x:V) (xs:List V):Bool:=xs.any λy=>eqV y x
noncomputable def rIn (K:Ae) (neg:Bool):R2:=λx y H Q=>∃ p xs,y=.ref p/\(SqL K H p xs \/ SqT K H p xs)/\qct x=true/\xs.all qct=true/\Q (.bl (if neg then !inV x xs else inV x xs)) H
theorem qef:OpR X (compareOp .In) (rIn X.K false):=by
 intro pins s σ H x y v u Q I rx ry h
 obtain ⟨p,xs,rfl,hq,fx,fs,q⟩:=h
 cases ry
 rcases hq with hq | hq
 .obtain ⟨its,r,pl,hz⟩:=I.list hq
  refine SeqAt.in_listAt (eqU x) pl.isList (λw hw=>qf4 rx fx r fs w (by simpa using hw)) ⟨.bl _,H,I,rfl,?_⟩
  rw [show its.toArray.any (eqU x)=its.any (eqU x) by simp,qhx r fs]
  exact q
 .obtain ⟨its,r,pl,hz⟩:=I.tuple hq
  refine SeqAt.in_tupleAt (eqU x) pl (λw hw=>qf4 rx fx r fs w (by simpa using hw)) ⟨.bl _,H,I,rfl,?_⟩
  rw [show its.toArray.any (eqU x)=its.any (eqU x) by simp,qhx r fs]
  exact q
theorem qc1:OpR X (compareOp .NotIn) (rIn X.K true):=by
 intro pins s σ H x y v u Q I rx ry h
 obtain ⟨p,xs,rfl,hq,fx,fs,q⟩:=h
 cases ry
 rcases hq with hq | hq
 .obtain ⟨its,r,pl,hz⟩:=I.list hq
  refine SeqAt.notIn_listAt (eqU x) pl.isList (λw hw=>qf4 rx fx r fs w (by simpa using hw)) ⟨.bl _,H,I,rfl,?_⟩
  rw [show its.toArray.any (eqU x)=its.any (eqU x) by simp,qhx r fs]
  exact q
 .obtain ⟨its,r,pl,hz⟩:=I.tuple hq
  refine SeqAt.notIn_tupleAt (eqU x) pl (λw hw=>qf4 rx fx r fs w (by simpa using hw)) ⟨.bl _,H,I,rfl,?_⟩
  rw [show its.toArray.any (eqU x)=its.any (eqU x) by simp,qhx r fs]
  exact q
theorem qhy:qel X (.type "list") (λxs H Q=>∃ p ys,xs=[.ref p]/\(SqL X.K H p ys \/ SqT X.K H p ys)/\∀ l,H l=none->Q (.ref l) (upd H l (.lst ys))):=by
 intro pins s σ H xs us Q I r h
 obtain ⟨p,ys,rfl,hq,q⟩:=h
 obtain ⟨u,rfl,rx⟩:=qfy r
 cases rx
 have fin:∀ (its:List Value),Vals ys its->ys.length <= A0->∀ (h':Heap) (c':Nat),(∀ b o',s.heap.get? b=some o'->h'.get? b=some o') ->
   h'.get? s.heap.objs.size=some { cls:=.type "list",dict:=none,data:=.seq its.toArray c',slots:=#[] }->EP X pins σ Q (.ref s.heap.objs.size) { s with heap:=h' }:=λits r' hz h' c' kp e =>
  ⟨.ref s.heap.objs.size,_,I.laid (t':=s.toks) kp (A1 _) (show ObjOk X.prog X.w _ h' _ (.lst ys) from ⟨hz,its,c',r',e⟩),rfl,q _ (I.hok.fresh (A1 _))⟩
 rcases hq with hq | hq
 .obtain ⟨its,r',pl,hz⟩:=I.list hq
  have hlen:=r'.length
  obtain ⟨o,ho,hc,n,hd⟩:=pl.isList
  exact call_list_seq p (.inl rfl) ho hc hd (λh' c' kp e=>fin its r' hz h' c' kp e) (by simp only [Av] <;> lia)
 .obtain ⟨its,r',pl,hz⟩:=I.tuple hq
  have hlen:=r'.length
  obtain ⟨o,ho,hc,n,hd⟩:=pl
  exact call_list_seq p (.inr rfl) ho hc hd (λh' c' kp e=>fin its r' hz h' c' kp e) (by simp only [Av] <;> lia)
noncomputable def tyV (K:Ae) (T:String) (x:V) (H:Hp):Prop:=match x with
 | .str _=>T = "str"
 | .int _=>T = "int"
 | .ref p=>(T = "list" /\ ∃ xs,SqL K H p xs) \/ (T = "tuple" /\ ∃ o,K.lookup p=some o/\o.cls=.type "tuple" /\ o.dict=none) \/
   (T = "dict" /\ ((∃ kvs,H p=some (.dK kvs)) \/ ∃ kvs,H p=some (.dT kvs))) \/ (T = "set" /\ ∃ S n,H p=some (.set S n))
 | _=>False
theorem qyy {pins:List (Addr × Obj)} {σ:St} {H:Hp} {s:Ah} {T:String} {x:V} {v:Value} (I:Inv X pins σ H s) (r:RelV x v) (ty:tyV X.K T x H) :
  s.TypeIs v T/\∀ a,v=.ref a->∃ ob,s.heap.get? a=some ob/\ob.dict=none:=by
 cases x with
 | str z =>
  obtain ⟨t,rfl⟩:=r
  cases (show T = "str" from ty)
  exact ⟨typeIs_str s z t,λ_ e=>nomatch e⟩
 | int i =>
  obtain ⟨t,rfl⟩:=r
  cases (show T = "int" from ty)
  exact ⟨typeIs_int s i t,λ_ e=>nomatch e⟩
 | ref p =>
  cases r
  rcases ty with ⟨rfl,xs,hq⟩ | ⟨rfl,o,hk,hc,hd⟩ | ⟨rfl,hk⟩ | ⟨rfl,S,n,hk⟩
  .obtain ⟨its,_,pl,_⟩:=I.list hq
   refine ⟨pl.isList.typeIs,λa e => ?_⟩
   cases e
   obtain ⟨o,n,e,c,hd,_⟩:=pl
   exact ⟨o,e,hd⟩
  .refine ⟨⟨o,I.kIn p o hk,hc⟩,λa e => ?_⟩
   cases e
   exact ⟨o,I.kIn _ o hk,hd⟩
  .have z:∃ o,s.heap.get? p=some o/\o.ExactDict:=by
    rcases hk with ⟨kvs,hk⟩ | ⟨kvs,hk⟩
    .obtain ⟨_,_,_,_,o,_,_,e,ex,_⟩:=I.hok p _ hk
     exact ⟨o,e,ex⟩
    .obtain ⟨_,_,_,_,o,_,_,e,ex,_⟩:=I.hok p _ hk
     exact ⟨o,e,ex⟩
   obtain ⟨o,e,ex⟩:=z
   refine ⟨⟨o,e,ex.1⟩,λa e2 => ?_⟩
   cases e2
   exact ⟨o,e,ex.2.1⟩
  .obtain ⟨o,_,_,_,e,ex,_⟩:=I.hok p _ hk
   refine ⟨⟨o,e,ex.1⟩,λa e2 => ?_⟩
   cases e2
   exact ⟨o,e,ex.2.1⟩
 | _=>exact B6 ty
noncomputable def tBM (K:Ae) (T:String) (r:V->List V->Hp->VK->Prop) (to:TE) (t:TA):TE:=λσ H Q=>to σ H λx H1=>tyV K T x H1/\t σ H1 λxs H2=>r x xs H2 Q
variable {o e:Expr} {es:List Expr} {to:TE} {t:TA} {name:Str} {apos cpos:Pos} {T id:String} {r:V->List V->Hp->VK->Prop}
theorem qca (pa:PlainAttrs T) (slot:Slot T name id) (hty:typeOf (.builtin id)=pure (.type "method_descriptor")) (hm:MtR X id r) (ho:PE X o to) (ha:PA X (e :: es) t)
  (hbase:attributeBase o name X.env (eval o X.env)=eval o X.env:=by rfl)
  (hfew:((backTo cpos (starEach (e :: es) X.env)).all (λx => !x.1) && (backToKw cpos (keywordEach [] X.env)).all (λx=>x.1.isSome)
   && decide ((e :: es).length + ([]:List Keyword).length + (if ([]:List Keyword).isEmpty then 0 else 1) < 30))=true:=by rfl)
  (hline:(apos.endLine == cpos.line)=true:=by rfl) (hs:starEach (e :: es) X.env=(false,eval e X.env) :: starEach es X.env:=by rfl) (hplain:(backTo cpos (starEach es X.env)).any (·.1)=false:=by rfl) :
  PE X (.Call (.Attribute o name apos) (e :: es) [] cpos) (tBM X.K T r to t):=by
 intro pins s σ H Q I h
 refine wpAny_Call_method_late hbase hfew hline rfl (thn (ho pins s σ H _ I h) λv s1 hh9 => ?_)
 obtain ⟨x,H1,I1,r1,ty,q1⟩:=hh9
 obtain ⟨h1,h2⟩:=qyy I1 r1 ty
 refine ⟨T,id,pa,slot,hty,h1,h2,?_⟩
 have hA:=ha cpos pins s1 σ H1 _ I1 q1
 rw [hs] at hA |-
 refine Calls.callWith_builtin (by show (false || (backTo cpos (starEach es X.env)).any (·.1))=false; rw [hplain] <;> rfl) (Calls.evalArgs_plain ?_)
 exact thn hA λus s2 ⟨vs,H2,I2,r2,q2⟩=>hm pins s2 σ H2 x vs v us Q I2 r1 r2 q2
/- xs.append(e),list.index on a module's tuple .. are MtR facts of 06m -/
end
end L2
namespace L2
open PySem PySem.Spec PyProof.Rows
noncomputable def MtM (X:Cx) (id:String) (r:V->List V->Hp->VK->Prop):Prop :=
 ∀ (pins:List (Addr × Obj)) (s:Ah) (σ:St) (H:Hp) (x:V) (xs:List V) (v:Value) (us:List Value) (Q:VK),Inv X pins σ H s->RelV x v->Vals xs us->r x xs H Q ->
  wpAny (model X.prog X.w) X.A (call (.builtin id) (v :: us)) (EP X pins σ Q) X.xe s
theorem Vals.one {x:V} {us:List Value} (h:Vals [x] us):∃ u,us=[u]/\RelV x u:=by
 cases h with | cons r t=>cases t; exact ⟨_,rfl,r⟩
theorem Vals.two {x y:V} {us:List Value} (h:Vals [x,y] us):∃ u v,us=[u,v]/\RelV x u/\RelV y v:=by
 cases h with | cons r t=>cases t with | cons q t=>cases t; exact ⟨_,_,rfl,r,q⟩
section
variable {X:Cx} {pins:List (Addr × Obj)} {σ:St} {H:Hp} {s:Ah} {l b:Addr} {xs ys zs:List V}
theorem Inv.lset {its its':List Value} {n:Nat} {f:Array Value->Array Value} {t':Nat} (I:Inv X pins σ H s) (hH:H l=some (.lst xs))
  (e:s.heap.get? l=some { cls:=.type "list",data:=.seq its.toArray n }) (hf:f its.toArray=its'.toArray) (hv:Vals ys its') (hz:ys.length <= A0) :
  Inv X pins σ (upd H l (.lst ys)) { s with heap:=s.heap.update l (D3 f),toks:=t' }:=by
 have q:=PySem.IsL.update e f
 rw [hf] at q
 refine I.write (x:=l) (e:=l) (by rw [hH]; exact trivial) (.inl rfl) (λb' u hb hu=>(B3 s.heap (D3 f) (Bc hb)).trans hu) ⟨_,q⟩ ?_
 exact ⟨hz,its',_,hv,q⟩
theorem Inv.lnew {its:List Value} {t':Nat} (I:Inv X pins σ H s) (hv:Vals ys its) (hz:ys.length <= A0) :
  Inv X pins σ (upd H s.heap.objs.size (.lst ys)) { s with heap:=s.heap.push { cls:=.type "list",data:=.seq its.toArray },toks:=t' } :=
 I.laid (λ_ _ q=>Am _ q) (A1 _) ⟨hz,its,0,hv,A5 _ rfl⟩
theorem Inv.fresh (I:Inv X pins σ H s):H s.heap.objs.size=none:=I.hok.fresh (A1 _)
theorem Inv.lstM (I:Inv X pins σ H s) (hH:H l=some (.lst xs)):xs.length <= A0/\∃ (its:List Value) (n:Nat),Vals xs its/\xs.length=its.length/\s.heap.get? l=some { cls:=.type "list",data:=.seq its.toArray n }:=by
 obtain ⟨z,its,n,r,e⟩:=I.hok l _ hH
 exact ⟨z,its,n,r,r.length,e⟩
theorem qn4 {n:Nat} (h:n <= A0):AM.List.listTooLong n=false:=by
 unfold AM.List.listTooLong
 exact decide_eq_false (by lia)
end
section
variable {X:Cx}
noncomputable def qwi:V->List V->Hp->VK->Prop:=λx vs H Q=>∃ l xs y,x=.ref l/\vs=[y]/\H l=some (.lst xs)/\xs.length < A0/\Q .non (upd H l (.lst (xs ++ [y])))
theorem qbw:MtM X "list.append" qwi:=by
 intro pins s σ H x vs v us Q I rx rv h
 obtain ⟨l,xs,y,rfl,rfl,hH,hz,q⟩:=h
 cases rx
 obtain ⟨u,rfl,ru⟩:=rv.one
 obtain ⟨z,its,n,r,hl,e⟩:=I.lstM hH
 refine DJ F.slot_list_append ⟨_,e,rfl⟩ F.entry_list_append (F.args_list_append_2 _ _) (PySem.list_append l its.toArray n u (by rw [Av]; lia)) ⟨e,?_⟩
 refine ⟨.non,_,I.lset (its':=its ++ [u]) hH e (by simp) (r.append (.cons ru .nil)) ?_,rfl,q⟩
 rw [Ag,B9]
 lia
noncomputable def rCat:R2:=λx y H Q=>∃ l b xs zs,x=.ref l/\y=.ref b/\H l=some (.lst xs)/\H b=some (.lst zs)/\xs.length + zs.length <= A0/\∀ p,H p=none->Q (.ref p) (upd H p (.lst (xs ++ zs)))
theorem qbi:OpR X (binaryOp .Add) rCat:=by
 intro pins s σ H x y v u Q I rx ry h
 obtain ⟨l,b,xs,zs,rfl,rfl,hH,hB,hz,q⟩:=h
 cases rx
 cases ry
 obtain ⟨z,its,n,r,hl,e⟩:=I.lstM hH
 obtain ⟨z2,its2,n2,r2,hl2,e2⟩:=I.lstM hB
 refine PySem.P.add_list e e2 ?_ (by rw [Av,Av]; lia)
 have ea:its.toArray ++ its2.toArray=(its ++ its2).toArray:=by simp
 rw [ea]
 exact ⟨.ref _,_,I.lnew (t':=s.toks) (r.append r2) (by rw [Ag]; lia),rfl,q _ I.fresh⟩
end
section
variable {prog:AN} {w:World} {A:AX} {E:Value->Ah->Prop} {s:Ah}
end
section
variable {X:Cx}
end
end L2
namespace Att
open PySem PySem.W PySem.Calls PyProof.Rows
theorem qjo {P:Params} {h:Heap}:∀ (ns:List Int) (vs:List Value),WellAll P h vs (ns.map WData.int)->IntsAre vs ns:=by
 intro ns
 induction ns with
 | nil =>
  intro vs w
  rw [B4] at w
  cases w
  exact .nil
 | cons n ns ih =>
  intro vs w
  rw [A6] at w
  cases w with
  | cons a b =>
   cases a
   exact .cons _ _ (ih _ b)
theorem qrz {l:OpenLaw} {n:Nat} (hn:l.most=some n) {P:Params} {h:Heap} {args:List WData} {qcf:List Value}
  (hpre:l.row.toRowW.claim.pre args=true) (hwl:WellAll P h qcf args) :
  ∃ a vs ns,qcf=[Al a]/\args=[WData.list (ns.map WData.int)]/\h.get? a=some { cls:=.type "list",data:=.seq vs.toArray }/\IntsAre vs ns/\ns.length <= n:=by
 have hsh:WShape.hasAll [] args [.list .int]=true:=(pre_splitW hpre).1
 have hc:l.pre.holds [] { args:=args }=true:=(pre_splitW hpre).2
 obtain ⟨d,r,rfl,h1,h2⟩:=hasAllW_cons hsh
 obtain rfl:=hasAllW_nil h2
 obtain ⟨xs,rfl,h3⟩:=hasW_list h1
 obtain ⟨ns,rfl⟩:=items_int h3
 have hlen:ns.length <= n:=by
  unfold OpenLaw.pre at hc
  have h4:(WTm.not (.lt (.lit (.int (n:Int))) (.len (.arg 0)))).holds [] { args:=[.list (ns.map .int)] }=true:=by
   have h4:=(holds_andW hc).1
   rw [hn] at h4
   exact h4
  have h5:=condW_of h4 (w_not (w_lt w_lit (w_len_list (w_arg rfl))))
  rw [Ab] at h5
  refine Nat.le_of_not_lt λq => ?_
  have q':(n:Int) < ((ns.length:Nat):Int):=by lia
  first
   | (rw [decide_eq_true q'] at h5; exact absurd h5 Ez)
   | (simp at h5; lia)
 cases hwl with
 | cons w1 w2 =>
  cases w2
  cases w1 with
  | list ho hall=>exact ⟨_,_,ns,rfl,rfl,ho,qjo ns _ hall,hlen⟩
theorem qr0 (l:OpenLaw) (args:List WData):l.row.toRowW.claim.post args (.bool true) args=true :=
 postW_of (r:=l.row.toRowW) (X:=(true == true))
  (show WShape.has [] (.bool true) .bool=true by first | rfl | decide | simp [WShape.has,WShape.arms,WShape.armsAll])
  (show (WTm.eq .res (.lit (.bool true))).value [] { args:=args,res:=some (.bool true),after:=args }=some (.bool (true == true)) from w_eq_bool (w_res rfl) w_lit) rfl
theorem attach_call {l:OpenLaw} {n:Nat} {q:AN} {loose:List Str} {XP:(Str->Option Value)->Heap->Prop} {YP:World->Heap->Prop} {d:DefRec}
  (hn:l.most=some n) (hdf:d.params.defaults=[])
  (call:∀ (w:World) (s₀ s₁:Ah) (mg mb:Str->Option Value) (fa:Addr) (o:Obj) (pm cd doc:Value) (a:Addr) (vs:List Value) (ns:List Int),
   Ground q loose [] XP w s₀ mg mb s₁.heap->YP w s₁.heap ->
   s₁.heap.get? fa=some o->o.data=.func (docDef d.name d.params d.body d.scope pm cd doc)->s₁.heap.CodeRec cd d.name->mg d.name=some (.ref fa) ->
   s₁.heap.get? a=some { cls:=.type "list",data:=.seq vs.toArray }->IntsAre vs ns->ns.length <= n->s₁.gens=#[] ->
   codeAny (model l.prog w) callerA (.call (.ref fa) ⟨[.ref a],[]⟩) (λr s'=>r=.ok (.ret (.bool true))/\OldK s₁.heap s'.heap/\s'.os=s₁.os/\Eg s'.gens) s₁) :
  WalkO q loose XP YP l.row.toRowW d [] (λf vs=>PySem.call f vs):=by
 intro w s₀ s₁ mg mb G Y fa o pm cd doc dV kV ho hd hcd hD hmg hg args qcf as hpre hlay hrd hwl hlo
 obtain rfl:dV=.none:=Dflts.none hD hdf
 obtain rfl:kV=.none:=Dflts.noKw hD
 obtain ⟨a,vs,ns,rfl,rfl,hobj,hints,hlen⟩:=qrz hn hpre hwl
 refine enter_call (CV (call w s₀ s₁ mg mb fa o pm cd doc a vs ns G Y ho (fd_plain hd) hcd hmg hobj hints hlen hg) λr s' hq => ?_)
 obtain ⟨rfl,h2,h3,h4⟩:=hq
 exact ⟨.inl ⟨.bool true,.bool true,[],rfl,λ_=>rfl,.bool true,qr0 l _,λ_=>⟨List.Pairwise.nil,λ_ hm=>(nomatch hm)⟩⟩,h2,h3,h4⟩
section
variable {prog:AN} {w:World} {A:AX} {E:Value->Ah->Prop} {s:Ah} {K:Frag}
noncomputable def ledger (h:Heap) (L d:Addr):List (Addr × Obj):=(Bh h.objs.size).filterMap λa=>if a=L \/ a=d then none else (h.get? a).map λo=>(a,o)
end
end Att
namespace L2
open PySem PySem.Spec PyProof.Rows
theorem ql5:∀ {vs:List Value} {ns:List Int},IntsAre vs ns->Vals (ns.map V.int) vs
 | _,_,.nil=>.nil
 | _,_,.cons n t h=>.cons ⟨t,rfl⟩ (ql5 h)
noncomputable def qyz (H:Hp):Prop:=∀ b,H b=none \/ ∃ o xs,H b=some (.frz o (.lst xs))
theorem qtv {P:AN} {w:World} {K:Ae} {mg mb:Str->Option Value} {CX:CXT} {k:Nat} {fa a:Addr} {fd:AD} {x:Str} {sp:Sp} {s₁:Ah} {vs:List Value} {ns:List Int}
  (KX:K.In s₁.heap) (hns:s₁.heap.Ns A7 mg) (hb:s₁.heap.Ns builtinsNs mb) (hbb:∀ x:Str,x ≠ "__name__" -> mb x=bootBuiltins x) (hlim:s₁.heap.NoLimit) (hg:s₁.gens=#[])
  (ha:s₁.heap.get? a=some { cls:=.type "list",data:=.seq vs.toArray }) (hi:IntsAre vs ns) (hl:ns.length <= A0) (hr:Room k callerA)
  (F:∀ base:Heap,K.In base->base.Ns A7 mg->FnOk P w K mg base CX k fa fd [x] sp) (hbind:∀ (s:Ah) (u:Value),BindsTo s fd ⟨[u],[]⟩ [(x,u)])
  (hsp:∀ H:Hp,qyz H->SqL K H a (ns.map V.int)->sp [.ref a] H (λv _=>v=.bl true) λ_ _ _=>False)
  (hCX:∀ H e s',CX [] H s₁ (λ_ _ _=>False) e s'->False) :
  codeAny (model P w) callerA (.call (.ref fa) ⟨[.ref a],[]⟩) (λr s'=>r=.ok (.ret (.bool true))/\OldK s₁.heap s'.heap/\s'.os=s₁.os/\Eg s'.gens) s₁:=by
 have rv:=ql5 hi
 have lenV:=hi.length
 -- from an abstract heap in which nothing but the script may be tracked
 have core:∀ H:Hp,qyz H->SqL K H a (ns.map V.int)->HOk P w H s₁.heap->(∀ b,H b ≠ none->b=a)->(H a ≠ none->K.lookup a=none) ->
   codeAny (model P w) callerA (.call (.ref fa) ⟨[.ref a],[]⟩) (λr s'=>r=.ok (.ret (.bool true))/\OldK s₁.heap s'.heap/\s'.os=s₁.os/\Eg s'.gens) s₁:=by
  intro H hO hS hok hA hK
  have base_of:∀ {b:Addr} {o:Obj},s₁.heap.get? b=some o->H b=none->(qmz s₁.heap H).get? b=some o:=λe n=>qtj e n
  have noA:∀ {b:Addr} {o:Obj} {es:Array DictEntry} {ep:Nat},s₁.heap.get? b=some o->o.data=.dict es ep->H b=none:=λ{b o es ep} e d=>by
   cases q:H b with
   | none=>rfl
   | some u =>
    have e':b=a:=hA b (by rw [q]; simp)
    subst e'
    rw [ha] at e; cases e
    have d':Data.seq vs.toArray _=Data.dict es ep:=d
    cases d'
  have nsK:∀ {b:Addr} {m:Str->Option Value},s₁.heap.Ns b m->(qmz s₁.heap H).Ns b m:=λ{b m} ⟨o,es,ep,e,d,r⟩=>⟨o,es,ep,base_of e (noA e d),d,r⟩
  have hKb:K.In (qmz s₁.heap H):=λb o e=>base_of (KX b o e) (by
   cases q:H b with
   | none=>rfl
   | some u =>
    have e':b=a:=hA b (by rw [q]; simp)
    subst e'
    rw [hK (by rw [q]; simp)] at e; cases e)
  have hM:Mod K mg (qmz s₁.heap H):=⟨hKb,nsK hns,⟨mb,nsK hb,hbb⟩,let ⟨mc,h1,h2⟩:=hlim; ⟨mc,nsK h1,h2⟩⟩
  have e0:Env0 P w K mg (qmz s₁.heap H) callerA [] s₁ H:=⟨rfl,hM,λb o e=>qv8 e,BQ (qrp _ _),trivial,λb hb=>absurd (show b ∈ ([]:List Addr) from hb) (by simp),hok,.of_eq hg⟩
  refine CV ((F _ hKb (nsK hns)).run callerA [] s₁ H ⟨[.ref a],[]⟩ [.ref a] [.ref a] _ _ hr e0 (hbind s₁ (.ref a)) (.cons rfl .nil) (hsp H hO hS)) λr s' h => ?_
  cases r with
  | error e=>exact (hCX H e s' h).elim
  | ok fl =>
   cases fl with
   | next=>exact B6 h
   | brk=>exact B6 h
   | cont=>exact B6 h
   | ret u =>
    obtain ⟨v,H',os,bare,un,hok',r',q⟩:=h
    have q':v=.bl true:=q
    subst q'
    obtain rfl:u=Ei true:=r'
    refine ⟨rfl,OldK.of_keep λb o e => ?_,os,bare⟩
    cases q:H b with
    | none=>exact un.keep b o e q (by intro z; exact absurd (show b ∈ ([]:List Addr) from z) (by simp)) (by simp)
    | some u =>
     rcases hO b with z | ⟨ob,xs,z⟩
     .rw [q] at z; cases z
     .have z2:=un.frzs b ob _ z
      obtain ⟨e1,_⟩:=hok b _ z
      obtain ⟨e2,_⟩:=hok' b _ z2
      rw [e] at e1; cases e1
      exact e2
 cases hk:K.lookup a with
 | some o =>
  -- the script is one of the module's own objects
  have e:=KX a o hk
  rw [ha] at e
  cases e
  refine core (λ_=>none) (λ_=>.inl rfl) (.inr ⟨_,vs.toArray,_,hk,rfl,rfl,rfl,by rw [Av,lenV]; exact hl,by simpa using rv⟩) (λb u z=>by have z':(none:Option HO)=some u:=z; cases z') (λb z=>absurd rfl z) λz=>absurd rfl z
 | none =>
  refine core (λb=>if b=a then some (.frz { cls:=.type "list",data:=.seq vs.toArray } (.lst (ns.map V.int))) else none) (λb => ?_) (.inl (.inr ⟨{ cls:=.type "list",data:=.seq vs.toArray },if_pos rfl⟩)) (λb u z => ?_) (λb z => ?_) λ_=>hk
  .by_cases hb:b=a
   .exact .inr ⟨_,_,if_pos hb⟩
   .exact .inl (if_neg hb)
  .by_cases hb:b=a
   .have z':=(if_pos hb).symm.trans z
    cases z'
    subst hb
    exact ⟨ha,by rw [Ab]; exact hl,vs,_,rv,ha⟩
   .have z':=(if_neg hb).symm.trans z
    cases z'
  .by_cases hb:b=a
   .exact hb
   .exact absurd (if_neg hb) z
end L2
namespace L2
open PySem PySem.Spec PyProof.Rows
noncomputable abbrev KOf {K:Ae} {h:Heap} (_:K.In h):Ae:=K
theorem walk_of {l:PySem.W.OpenLaw} {n k:Nat} {q:AN} {loose:List Str} {XP:(Str->Option Value)->Heap->Prop} {YP:World->Heap->Prop} {d:DefRec} {K:Params->Ae} {CX:World->CXT} {sp:World->Sp} {x:Str}
  (hn:l.most=some n) (hn2:n <= A0) (hdf:d.params.defaults=[]) (hr:Room k callerA)
  (hY:∀ (w:World) (h:Heap),YP w h->(K w.params).In h)
  (F:∀ (w:World) (mg:Str->Option Value) (fa:Addr) (h:Heap),(K w.params).In h->h.Ns A7 mg->mg d.name=some (.ref fa) ->
   ∃ fd:AD,(∀ (s:Ah) (u:Value),BindsTo s fd ⟨[u],[]⟩ [(x,u)]) /\
    ∀ base:Heap,(K w.params).In base->base.Ns A7 mg->FnOk l.prog w (K w.params) mg base (CX w) k fa fd [x] (sp w))
  (hsp:∀ (w:World) (H:Hp) (a:Addr) (ns:List Int),ns.length <= n->qyz H->SqL (K w.params) H a (ns.map V.int)->sp w [.ref a] H (λv _=>v=.bl true) λ_ _ _=>False)
  (hCX:∀ (w:World) (H:Hp) (s:Ah) (e:Value) (s':Ah),CX w [] H s (λ_ _ _=>False) e s'->False) :
  PySem.W.WalkO q loose XP YP l.row.toRowW d [] (λf vs=>PySem.call f vs):=by
 refine Att.attach_call hn hdf λw s₀ s₁ mg mb fa o pm cd doc a vs ns G Y ho hd hcd hmg hobj hints hlen hg => ?_
 have KX:=hY w _ Y
 obtain ⟨fd,hb,hF⟩:=F w mg fa _ KX G.T.g hmg
 exact qtv KX G.T.g G.T.b G.T.builtins G.T.nolimit hg hobj hints (Au hlen hn2) hr hF hb (λH hO hS=>hsp w H a ns hlen hO hS) λH e s'=>hCX w H s₁ e s'
end L2
/- THE LAST THEOREM (shape; LID,My.* are yours):
   My.Adr: a structure of the addresses that your layer names (classes,functions); My.Txt K t: a structure (Prop) of the equations over K;
   My.txt_mk:{K} {implicit addresses ..} (e1:nsIn K A7 "law" = some (some (.ref f))) (e2:K.lookup f=some ⟨oc,od,.func (fnOf "law" "law" params body scope dV kV doc pm an cdv ct),sl⟩) (e3:codeIn K cdv "law" = true) .. : ∃ t,My.Txt K t
set_option maxRecDepth 100000 in
set_option maxHeartbeats 0 in
theorem PySem.Challenge.cw_LID_holds : PySem.Challenge.rw_LID.Holds := by
 w_on; o_law; k_head; (case hw=>w_witness2)
 k_fill
 refine L2.walk_of (l:=PySem.Challenge.rw_LID) (n:=63) (k:=40) (x := "script") (CX:=λw=>..) (sp:=λ_=>My.sp_law) rfl Ez rfl ⟨rfl,Ez,Ez⟩ (λw h Y=>PySem.W.kIn_of Y) ?F ?S ?C
 case F =>
  intro w mg fa h KX G hmg
  have T:∃ t,My.Txt (L2.KOf KX) t:=by
   dsimp only [L2.KOf]                          -- K must stand as «<heap const> w.params» for k_is
   refine' My.txt_mk ?e1 ?e2 ?e3 ..
   (case e1=>PySem.W.k_is)                    -- in the order: a name -> its address -> its object -> its parts
   (case e2=>PySem.W.k_is)
   ..
  obtain ⟨t,T⟩:=T
  have e0:=hmg.symm.trans (AV KX G T.law)
  cases e0                                       -- fa is the law's own address
  exact ⟨_,λs u=>.of_eq rfl,λbase kb nb=>My.law_fn T kb nb⟩     -- if «.of_eq rfl» comes too early: refine' ⟨_,?b,λbase kb nb=>My.law_fn T kb nb⟩; exact λs u=>.of_eq rfl
 case S=>exact λw H a ns hl hO hS=>..
 case C=>exact ..
(the tactic k_is has no namespace: write k_is) -/
namespace L2
open PySem PySem.Spec PyProof.Rows
noncomputable def qeb (s:Stmt) (j:Nat):Stmt:=match s with
 | .ClassDef _ _ _ body _ _ _ _ _ _ _=>body.getD j (.Pass ⟨0,0,0,0⟩)
 | _=>.Pass ⟨0,0,0,0⟩
noncomputable def qb5 (s:Stmt):Arguments:=match s with
 | .FunctionDef _ a _ _ _ _ _ _ _ _=>a
 | _=>{ posonlyargs:=[],args:=[],vararg:=none,kwonlyargs:=[],kw_defaults:=[],kwarg:=none,defaults:=[] }
noncomputable def qbq (s:Stmt):List Stmt:=match s with
 | .FunctionDef _ _ b _ _ _ _ _ _ _=>b
 | _=>[]
noncomputable def qab (s:Stmt):Scope:=match s with
 | .FunctionDef _ _ _ _ _ _ sc _ _ _=>sc
 | _=>{ kind:=.function,names:=[],isGenerator:=false,isCoroutine:=false }
noncomputable abbrev CX0:CXT:=λ_ _ _ _ _ _=>False
noncomputable abbrev E0:XK:=λ_ _ _=>False
theorem qan {X:Cx}:qf3 CX0 X E0:=λ_ _ _ _ _ _ _ h=>h.elim
structure Fun (K:Ae) (x qual:Str) (st:Stmt) (f:Addr) (fd:AD):Prop where
 ex:∃ (oc:Value) (od:Option Addr) (kV doc pm:Value) (an:Option Addr) (cdv ct:Value) (osl:Array (Option Value)),
  fd=Bx x qual (qb5 st) (qbq st) (qab st) .none kV doc pm an cdv ct/\K.lookup f=some ⟨oc,od,.func fd,osl⟩/\Ca K cdv qual=true
 kp:Be K (.ref f)=true
section
variable {P:AN} {w:World} {K:Ae} {mg:Str->Option Value} {base:Heap}
theorem Fun.ok {x qual:Str} {st:Stmt} {f:Addr} {fd:AD} {N ps:List Str} {k:Nat} {sp:Sp} (F:Fun K x qual st f fd) (S:FnScope N ps (qab st)) (len:∀ vs H Q E,sp vs H Q E->vs.length=ps.length)
  (hbody:∀ (cdv:Value) (A:AX) (outer:List Env) (s:Ah) (H:Hp) (vs:List V) (Q:VK) (E:XK),Room k (A.deeper (envOfC qual (qab st) s.heap.objs.size f cdv))->sp vs H Q E ->
   ∃ t,PSs (qm3 CX0 P w K mg base N qual (qab st) f cdv A outer s H E).nox (qbq st) t/\t { nx:=λ_ H'=>Q .non H',rt:=Q } (qfz N vs) H):FnOk P w K mg base CX0 (k + 1) f fd ps sp:=by
 obtain ⟨oc,od,kV,doc,pm,an,cdv,ct,osl,rfl,lk,hcd⟩:=F.ex
 refine qts lk hcd S len λA outer s H vs Q E hr hsp => ?_
 obtain ⟨t,h,q⟩:=hbody cdv A outer s H vs Q E hr hsp
 exact ⟨t,h.nox,q⟩
theorem Fun.binds {x qual:Str} {st:Stmt} {f:Addr} {fd:AD} {ps:List Str} (F:Fun K x qual st f fd)
  (h:∀ (kV doc pm:Value) (an:Option Addr) (cdv ct:Value) (us:List Value),us.length=ps.length->bindArgs (Bx x qual (qb5 st) (qbq st) (qab st) .none kV doc pm an cdv ct) ⟨us,[]⟩=pure (ps.zip us)):Binds K fd ps []:=by
 obtain ⟨oc,od,kV,doc,pm,an,cdv,ct,osl,rfl,lk,hcd⟩:=F.ex
 exact .all (h kV doc pm an cdv ct)
theorem qpm {x qual:Str} {st:Stmt} {f:Addr} {oc:Value} {od an:Option Addr} {osl:Array (Option Value)} {kV doc pm cdv ct:Value} (l:K.lookup f=some ⟨oc,od,.func (Bx x qual (qb5 st) (qbq st) (qab st) .none kV doc pm an cdv ct),osl⟩)
  (c:Ca K cdv qual=true) (k:Be K (.ref f)=true):Fun K x qual st f (Bx x qual (qb5 st) (qbq st) (qab st) .none kV doc pm an cdv ct):=⟨⟨oc,od,kV,doc,pm,an,cdv,ct,osl,rfl,l,c⟩,k⟩
end
theorem qf5 {A:AX} {k:Nat} (hr:Room k A):A.units + 1 < cLine:=Nat.lt_of_le_of_lt (Nat.add_le_add_left (by decide:1 <= 64) _) hr.units
section
variable {X:Cx}
theorem pv (i:Nat) {x:Str} {pos:Pos} (hN:X.N[i]?=some x:=by rfl) (hv:Vis X.env.scope x:=by first | exact Az rfl | exact CK (Az rfl) | exact CK (CK rfl)) (hd:(x == ("__debug__" : Str))=false:=by decide)
  (hcd:(x == ("__classdict__" : Str))=false:=by decide):PE X (.Name x pos) (tVar i):=qyp hN hv hd hcd
end
theorem qbp {A B:Prop} (h:B):if false=true then A else B:=by
 rw [if_neg A9]
 exact h
theorem qb7 {A B:Prop} (h:A):if true=true then A else B:=by
 rw [if_pos rfl]
 exact h
theorem qa6 {c A B:Prop} [Decidable c] (h1:c->A) (h2:¬ c->B):if c then A else B:=by
 by_cases h:c
 .rw [if_pos h]
  exact h1 h
 .rw [if_neg h]
  exact h2 h
noncomputable def Same (H H':Hp):Prop:=∀ b o,H b=some o->H' b=some o
theorem Same.refl (H:Hp):Same H H:=λ_ _ h=>h
theorem Same.trans {H H1 H2:Hp} (a:Same H H1) (b:Same H1 H2):Same H H2:=λc o h=>b c o (a c o h)
theorem Same.free {H H':Hp} (e:Same H H') {l:Addr} (h:H' l=Option.none):H l=Option.none:=by
 cases q:H l with
 | none=>rfl
 | some o =>
  rw [e l o q] at h
  cases h
theorem Same.seq {K:Ae} {H H':Hp} {a:Addr} {xs:List V} (e:Same H H') (h:SqL K H a xs):SqL K H' a xs:=by
 rcases h with (h | ⟨o,h⟩) | h
 .exact .inl (.inl (e _ _ h))
 .exact .inl (.inr ⟨o,e _ _ h⟩)
 .exact .inr h
end L2
namespace L2
open PySem PySem.Spec PyProof.Rows
section
variable {κ:Type} [DecidableEq κ]
noncomputable def qdv (kvs:List (κ × V)) (k:κ):Option V:=(kvs.find? λkv=>decide (kv.1=k)).map (·.2)
noncomputable def qfm (kvs:List (κ × V)) (k:κ) (v:V):List (κ × V) :=
 if (kvs.any λkv=>decide (kv.1=k))=true then kvs.map (λkv=>if kv.1=k then (kv.1,v) else kv) else kvs ++ [(k,v)]
theorem qcj {p:κ × V} {r:List (κ × V)} {k:κ} (e:p.1=k):qdv (p :: r) k=some p.2:=by simp [qdv,Dc,e]
theorem qck {p:κ × V} {r:List (κ × V)} {k:κ} (e:¬ p.1=k):qdv (p :: r) k=qdv r k:=by simp [qdv,Dc,e]
theorem qf6 (k:κ):∀ kvs:List (κ × V),(kvs.any λkv=>decide (kv.1=k))=(qdv kvs k).isSome
 | []=>rfl
 | p :: r=>by
  rw [Dv]
  by_cases e:p.1=k
  .simp only [qcj e,decide_eq_true e,Bool.true_or,Option.isSome_some]
  .rw [qck e,decide_eq_false e,Bool.false_or]; exact qf6 k r
theorem qn5 (k j:κ) (y:V):∀ kvs:List (κ × V),qdv (kvs.map λkv=>if kv.1=k then (kv.1,y) else kv) j=(qdv kvs j).map λx=>if j=k then y else x
 | []=>rfl
 | p :: r=>by
  have ih:=qn5 k j y r
  rw [A6]
  by_cases h:p.1=k
  .rw [if_pos h]
   by_cases e:p.1=j
   .rw [qcj (p:=(p.1,y)) e,qcj e,Dd,if_pos (e.symm.trans h)]
   .rw [qck (p:=(p.1,y)) e,qck e,ih]
  .rw [if_neg h]
   by_cases e:p.1=j
   .rw [qcj (p:=p) e,qcj e,Dd,if_neg (λz=>h (e.trans z))]
   .rw [qck (p:=p) e,qck e,ih]
theorem ql6 (k j:κ) (y:V):∀ kvs:List (κ × V),qdv kvs k=none->qdv (kvs ++ [(k,y)]) j=if j=k then some y else qdv kvs j
 | [],_=>by
  by_cases e:k=j
  .rw [if_pos e.symm]; exact qcj (p:=(k,y)) e
  .rw [if_neg (λz=>e z.symm)]; exact qck (p:=(k,y)) e
 | p :: r,hn=>by
  rw [AY]
  have hk:¬ p.1=k:=λz=>by rw [qcj z] at hn; cases hn
  rw [qck hk] at hn
  have ih:=ql6 k j y r hn
  by_cases e:p.1=j
  .rw [qcj e,qcj e,if_neg (λz=>hk (e.trans z))]
  .rw [qck e,qck e,ih]
theorem qtw (kvs:List (κ × V)) (k j:κ) (y:V):qdv (qfm kvs k y) j=if j=k then some y else qdv kvs j:=by
 unfold qfm
 by_cases a:(kvs.any λkv=>decide (kv.1=k))=true
 .rw [if_pos a,qn5]
  rw [qf6] at a
  by_cases e:j=k
  .obtain ⟨x,hx⟩:=CJ.mp a
   rw [if_pos e,e,hx,Dd,if_pos rfl]
  .rw [if_neg e]
   cases qdv kvs j with
   | none=>rfl
   | some x=>rw [Dd,if_neg e]
 .rw [if_neg a]
  refine ql6 k j y kvs ?_
  rw [qf6] at a
  cases q:qdv kvs k with
  | none=>rfl
  | some x=>rw [q] at a; exact (a rfl).elim
theorem qf7 (kvs:List (κ × V)) (k:κ) (v:V):(qfm kvs k v).length <= kvs.length + 1:=by
 unfold qfm
 split
 .rw [Ab]; lia
 .rw [Ag,Aq,Cn]; lia
theorem qj9 {kvs:List (κ × V)} {k:κ} (v:V) (h:qdv kvs k=none):qfm kvs k v=kvs ++ [(k,v)]:=by
 unfold qfm
 rw [qf6,h]
 exact if_neg Ez
theorem RelO.isSome_eq {o:Option V} {u:Option Value} (r:RelO o u):o.isSome=u.isSome:=by
 cases o with
 | none=>cases u with
  | none=>rfl
  | some _=>exact (show False from r).elim
 | some _=>cases u with
  | none=>exact (show False from r).elim
  | some _=>rfl
theorem KV.val {kvs:List (κ × V)} {vs:List (κ × Value)} (r:KV kvs vs) (k:κ):RelO (qdv kvs k) (valueAt vs k):=by
 unfold KV at r
 induction r with
 | nil=>exact CI
 | @cons p q ps qs h t ih =>
  obtain ⟨h1,h2⟩:=h
  by_cases e:p.1=k
  .have e':q.1=k:=h1.symm.trans e
   have b:valueAt (q :: qs) k=some q.2:=by simp [valueAt,Dc,e']
   rw [qcj e,b]; exact h2
  .have e':¬ q.1=k:=λz=>e (h1.trans z)
   have b:valueAt (q :: qs) k=valueAt qs k:=by simp [valueAt,Dc,e']
   rw [qck e,b]; exact ih
theorem KV.any {kvs:List (κ × V)} {vs:List (κ × Value)} (r:KV kvs vs) (k:κ):(kvs.any λkv=>decide (kv.1=k))=vs.any λkv=>decide (kv.1=k):=by
 unfold KV at r
 induction r with
 | nil=>rfl
 | cons h t ih=>rw [Dv,Dv,ih,h.1]
theorem KV.repl {kvs:List (κ × V)} {vs:List (κ × Value)} (r:KV kvs vs) (k:κ) {y:V} {u:Value} (ry:RelV y u) :
  KV (kvs.map λkv=>if kv.1=k then (kv.1,y) else kv) (vs.map λkv=>if kv.1=k then (kv.1,u) else kv):=by
 unfold KV at r |-
 induction r with
 | nil=>exact .nil
 | @cons p q ps qs h t ih =>
  rw [A6,A6]
  refine .cons ?_ ih
  obtain ⟨h1,h2⟩:=h
  by_cases e:p.1=k
  .rw [if_pos e,if_pos (h1.symm.trans e)]; exact ⟨h1,ry⟩
  .rw [if_neg e,if_neg (λz=>e (h1.trans z))]; exact ⟨h1,h2⟩
theorem KV.put {kvs:List (κ × V)} {vs:List (κ × Value)} (r:KV kvs vs) (k:κ) {y:V} {u:Value} (ry:RelV y u):KV (qfm kvs k y) (stored vs k u):=by
 unfold qfm stored
 rw [r.any k]
 by_cases e:(vs.any λkv=>decide (kv.1=k))=true
 .rw [if_pos e,if_pos e]; exact r.repl k ry
 .rw [if_neg e,if_neg e]; exact Dz.snoc r ⟨rfl,ry⟩
theorem KV.keys {kvs:List (κ × V)} {vs:List (κ × Value)} (r:KV kvs vs):kvs.map (·.1)=vs.map (·.1):=by
 unfold KV at r
 induction r with
 | nil=>rfl
 | cons h t ih=>rw [A6,A6,ih,h.1]
theorem KV.length {kvs:List (κ × V)} {vs:List (κ × Value)} (r:KV kvs vs):kvs.length=vs.length:=Dz.length r
end
theorem qn6 {P:AN} {w:World} {k:Key} {u:Value} (r:RelV (kV k) u):(qb4 P w).is k u=true:=by
 cases k with
 | inl i=>obtain ⟨t,e⟩:=(show ∃ t,u=Value.int i t from r); subst e; exact qnw P w i t
 | inr x=>obtain ⟨t,e⟩:=(show ∃ t,u=Value.str x t from r); subst e; exact qnx P w x t
theorem ql7 {P:AN} {w:World}:∀ {ks:List Key} {us:List Value},Vals (ks.map kV) us->ItemsAre (qb4 P w) ks us
 | [],_,r=>by rw [B4] at r; cases r; exact .nil
 | k :: ks,_,r=>by
  rw [A6] at r
  cases r with
  | cons h t=>exact .cons (qn6 h) (ql7 t)
noncomputable abbrev KT (H:Hp):List (List Key × V)->List (List Key × Addr × Value)->Prop:=Dz λp q=>p.1=q.1/\H q.2.1=some (.tup (p.1.map kV))/\RelV p.2 q.2.2
theorem KT.val {H:Hp} {kvs:List (List Key × V)} {xs:List (List Key × Addr × Value)} (r:KT H kvs xs) (k:List Key):RelO (qdv kvs k) ((atKey xs k).map (·.2)):=by
 induction r with
 | nil=>exact CI
 | @cons p q ps qs h t ih =>
  obtain ⟨h1,_,h2⟩:=h
  by_cases e:p.1=k
  .have e':q.1=k:=h1.symm.trans e
   have b:atKey (q :: qs) k=some q.2:=by simp [atKey,Dc,e']
   rw [qcj e,b]; exact h2
  .have e':¬ q.1=k:=λz=>e (h1.trans z)
   have b:atKey (q :: qs) k=atKey qs k:=by simp [atKey,Dc,e']
   rw [qck e,b]; exact ih
theorem KT.repl {H:Hp} {kvs:List (List Key × V)} {xs:List (List Key × Addr × Value)} (r:KT H kvs xs) (k:List Key) {y:V} {u:Value} (ry:RelV y u) :
  KT H (kvs.map λkv=>if kv.1=k then (kv.1,y) else kv) (xs.map (putAt k u)):=by
 induction r with
 | nil=>exact .nil
 | @cons p q ps qs h t ih =>
  rw [A6,A6]
  refine .cons ?_ ih
  obtain ⟨h1,h2,h3⟩:=h
  unfold putAt
  by_cases e:p.1=k
  .rw [if_pos e,if_pos (h1.symm.trans e)]; exact ⟨h1,h2,ry⟩
  .rw [if_neg e,if_neg (λz=>e (h1.trans z))]; exact ⟨h1,h2,h3⟩
theorem KT.put {H:Hp} {kvs:List (List Key × V)} {xs:List (List Key × Addr × Value)} (r:KT H kvs xs) (k:List Key) {b:Addr} {y:V} {u:Value} (hb:H b=some (.tup (k.map kV))) (ry:RelV y u) :
  KT H (qfm kvs k y) (storedH xs k b u):=by
 have e:(kvs.any λkv=>decide (kv.1=k))=(atKey xs k).isSome:=by
  rw [qf6,(r.val k).isSome_eq,Option.isSome_map]
 unfold qfm storedH
 rw [e]
 by_cases q:(atKey xs k).isSome=true
 .rw [if_pos q,if_pos q]; exact r.repl k ry
 .rw [if_neg q,if_neg q]; exact Dz.snoc r ⟨rfl,hb,ry⟩
theorem KT.keeps {H H':Hp} {kvs:List (List Key × V)} {xs:List (List Key × Addr × Value)} (r:KT H kvs xs) (ht:∀ b ys,H b=some (.tup ys)->H' b=some (.tup ys)):KT H' kvs xs :=
 Dz.mapP r λ_ _ z=>⟨z.1,ht _ _ z.2.1,z.2.2⟩
section
variable {P:AN} {w:World} {H:Hp} {h:Heap} {a:Addr}
theorem qya {u:HO} (ok:HOk P w H h) (e:Rd H a u):ObjOk P w H h a u:=e.ok ok
theorem qn7 {kvs:List (Key × V)} (ok:HOk P w H h) (e:Rd H a (.dK kvs)):kvs.length <= A0/\(a == sysModules)=false/\∃ vs,KV kvs vs/\h.DictOf (qb4 P w) a vs :=
 show ObjOk P w H h a (.dK kvs) from qya ok e
theorem qqx {kvs:List (Key × V)} (ok:HOk P w H h) (e:H a=some (.dK kvs)):kvs.length <= A0/\(a == sysModules)=false/\∃ vs,KV kvs vs/\h.DictOf (qb4 P w) a vs:=qn7 ok (.inl e)
theorem qka {ks:List Key} (ok:HOk P w H h) (e:H a=some (.tup (ks.map kV))):(tupleKind (qb4 P w)).is h ks a:=by
 obtain ⟨_,its,r,o,h1,h2,n,h3⟩:=(show ObjOk P w H h a (.tup (ks.map kV)) from ok a _ e)
 exact ⟨o,its.toArray,n,h1,h2,h3,by simpa using ql7 r⟩
theorem qn8 {kvs:List (List Key × V)} (ok:HOk P w H h) (e:Rd H a (.dT kvs)):kvs.length <= A0/\(a == sysModules)=false /\
  ∃ xs,KT H kvs xs/\h.DictOfH (tupleKind (qb4 P w)) a xs:=by
 obtain ⟨z,y,xs,r,o,es,ep,h1,h2,h3,h4,h5⟩:=(show ObjOk P w H h a (.dT kvs) from qya ok e)
 refine ⟨z,y,xs,r,o,es,ep,h1,h2,h3,h4,λx hx => ?_,h5⟩
 have all:∀ {l:List (List Key × V)} {m:List (List Key × Addr × Value)},KT H l m->∀ x ∈ m,(tupleKind (qb4 P w)).is h x.1 x.2.1:=by
  intro l m q
  induction q with
  | nil=>intro x hx; exact nomatch hx
  | @cons p q ps qs hq t ih =>
   intro x hx
   rcases Ao.mp hx with e | hx
   .subst e
    exact qka ok (by rw [<- hq.1]; exact hq.2.1)
   .exact ih x hx
 exact all r x hx
theorem dt_of {kvs:List (List Key × V)} (ok:HOk P w H h) (e:H a=some (.dT kvs)):kvs.length <= A0/\(a == sysModules)=false /\
  ∃ xs,KT H kvs xs/\h.DictOfH (tupleKind (qb4 P w)) a xs:=qn8 ok (.inl e)
end
noncomputable def DGet (H:Hp) (a:Addr) (y:V) (r:Option V):Prop :=
 (∃ kvs k,Rd H a (.dK kvs)/\y=kV k/\r=qdv kvs k) \/ ∃ kvs k b,Rd H a (.dT kvs)/\y=.ref b/\H b=some (.tup (k.map kV))/\r=qdv kvs k
noncomputable def DPut (H:Hp) (a:Addr) (y v:V) (H':Hp):Prop :=
 (∃ kvs k,H a=some (.dK kvs)/\y=kV k/\kvs.length < A0/\H'=upd H a (.dK (qfm kvs k v))) \/
 ∃ kvs k b,H a=some (.dT kvs)/\y=.ref b/\H b=some (.tup (k.map kV))/\kvs.length < A0/\H'=upd H a (.dT (qfm kvs k v))
theorem DGet.k {H:Hp} {a:Addr} {kvs:List (Key × V)} {k:Key} (e:H a=some (.dK kvs)):DGet H a (kV k) (qdv kvs k):=.inl ⟨kvs,k,.inl e,rfl,rfl⟩
theorem DPut.k {H:Hp} {a:Addr} {kvs:List (Key × V)} {k:Key} {v:V} (e:H a=some (.dK kvs)) (hl:kvs.length < A0):DPut H a (kV k) v (upd H a (.dK (qfm kvs k v))):=.inl ⟨kvs,k,e,rfl,hl,rfl⟩
section
variable {X:Cx} {pins:List (Addr × Obj)} {σ:St} {H:Hp} {s:Ah} {a:Addr} {y v:V} {u r:Value} {o:Option V} {A:AX} {E:Value->Ah->Prop}
theorem Inv.big (I:Inv X pins σ H s):sysModules < s.heap.objs.size:=by
 have h:A7 < s.heap.objs.size:=(I.mod.glob.keeps I.bk).lt
 exact Nat.lt_trans Ez h
theorem qr1 {Q:Value->Ah->Prop} (hu:A.units + 1 < cLine) (I:Inv X pins σ H s) (g:DGet H a y (some v)) (ry:RelV y u) (h:∀ w' s',Inv X pins σ H s'->RelV v w'->Q w' s') :
  wpAny (model X.prog X.w) A (getItem (.ref a) u) Q E s:=by
 rcases g with ⟨kvs,k,e,ey,l⟩ | ⟨kvs,k,b,e,ey,eb,l⟩
 .subst ey
  obtain ⟨z,hd,vs,rel,dd⟩:=qn7 I.hok e
  obtain ⟨w',hw,rw'⟩:=RelO.some_of (v:=v) (o:=valueAt vs k) (by rw [l]; exact rel.val k)
  exact wpAny_getItem_of (qn6 ry) dd.mapOf hw (h w' _ (I.tok _) rw')
 .subst ey
  cases (show u=Al b from ry)
  obtain ⟨z,hd,xs,rel,dd⟩:=qn8 I.hok e
  obtain ⟨w',hw,rw'⟩:=RelO.some_of (v:=v) (o:=(atKey xs k).map (·.2)) (by rw [l]; exact rel.val k)
  obtain ⟨p,hp,hp2⟩:=Option.map_eq_some_iff.mp hw
  refine wpAny_getItem_heap (D4 hu) (qka I.hok eb) dd hp ?_
  rw [hp2]
  exact h w' _ (I.tok _) rw'
theorem d_in {Q:Value->Ah->Prop} (hu:A.units + 1 < cLine) (I:Inv X pins σ H s) (g:DGet H a y o) (ry:RelV y u) (h:∀ s',Inv X pins σ H s'->Q (.bool o.isSome) s') :
  wpAny (model X.prog X.w) A (compareOp .In u (.ref a)) Q E s:=by
 rcases g with ⟨kvs,k,e,ey,l⟩ | ⟨kvs,k,b,e,ey,eb,l⟩
 .subst ey
  obtain ⟨z,hd,vs,rel,dd⟩:=qn7 I.hok e
  refine wpAny_in_of (qn6 ry) hd dd.mapOf ?_
  rw [<- (rel.val k).isSome_eq,<- l]
  exact h _ (I.tok _)
 .subst ey
  cases (show u=Al b from ry)
  obtain ⟨z,hd,xs,rel,dd⟩:=qn8 I.hok e
  refine wpAny_in_heap (D4 hu) (qka I.hok eb) hd dd ?_
  have q:=(rel.val k).isSome_eq
  rw [Option.isSome_map] at q
  rw [<- q,<- l]
  exact h _ (I.tok _)
theorem qwj {Q:Value->Ah->Prop} (hu:A.units + 1 < cLine) (I:Inv X pins σ H s) (g:DGet H a y o) (ry:RelV y u) (h:∀ s',Inv X pins σ H s'->Q (.bool (!o.isSome)) s') :
  wpAny (model X.prog X.w) A (compareOp .NotIn u (.ref a)) Q E s:=by
 rcases g with ⟨kvs,k,e,ey,l⟩ | ⟨kvs,k,b,e,ey,eb,l⟩
 .subst ey
  obtain ⟨z,hd,vs,rel,dd⟩:=qn7 I.hok e
  refine wpAny_notIn_of (qn6 ry) hd dd.mapOf ?_
  rw [<- (rel.val k).isSome_eq,<- l]
  exact h _ (I.tok _)
 .subst ey
  cases (show u=Al b from ry)
  obtain ⟨z,hd,xs,rel,dd⟩:=qn8 I.hok e
  refine wpAny_notIn_heap (D4 hu) (qka I.hok eb) hd dd ?_
  have q:=(rel.val k).isSome_eq
  rw [Option.isSome_map] at q
  rw [<- q,<- l]
  exact h _ (I.tok _)
theorem qqy {h':Heap} {t':Nat} {ob:HO} (I:Inv X pins σ H s) (mu:Mut (H a)) (hs:Cq a s.heap h') (he:∃ q,h'.get? a=some q) (new:ObjOk X.prog X.w (upd H a ob) h' a ob) :
  Inv X pins σ (upd H a ob) { s with heap:=h',toks:=t' } :=
 I.write (x:=a) (e:=a) mu (.inl rfl) (λb q hb z=>(hs.2 b hb).trans z) he new
theorem qy0 {P:AN} {w:World} {H':Hp} {h':Heap} {kvs:List (Key × V)} {vs:List (Key × Value)} (z:kvs.length <= A0) (hd:(a == sysModules)=false) (rel:KV kvs vs) (dd:h'.DictOf (qb4 P w) a vs) :
  ObjOk P w H' h' a (.dK kvs):=⟨z,hd,vs,rel,dd⟩
theorem qr2 {H':Hp} {Q:Unit->Ah->Prop} (hu:A.units + 1 < cLine) (I:Inv X pins σ H s) (g:DPut H a y v H') (ry:RelV y u) (rv:RelV v r) (h:∀ s',Inv X pins σ H' s'->Q () s') :
  wpAny (model X.prog X.w) A (setItem (.ref a) u r) Q E s:=by
 rcases g with ⟨kvs,k,e,ey,l,eH⟩ | ⟨kvs,k,b,e,ey,eb,l,eH⟩
 .subst ey eH
  obtain ⟨z,hd,vs,rel,dd⟩:=qqx I.hok e
  have hz:vs.length <= A0:=by rw [<- rel.length]; exact z
  have hl:(qfm kvs k v).length <= A0:=by have:=qf7 kvs k v; lia
  refine wpAny_setItem_pairs (hsz:=hz) (qn6 ry) dd λh' dd' hs=>h _ ?_
  have he:∃ q,h'.get? a=some q:=let ⟨q,_,_,hq,_⟩:=dd'; ⟨q,hq⟩
  exact qqy I (by rw [e]; exact CI) hs he (qy0 hl hd (rel.put k rv) dd')
 .subst ey eH
  cases (show u=Al b from ry)
  obtain ⟨z,hd,xs,rel,dd⟩:=dt_of I.hok e
  have hz:xs.length <= A0:=by rw [<- Dz.length rel]; exact z
  have hl:(qfm kvs k v).length <= A0:=by have:=qf7 kvs k v; lia
  refine wpAny_setItem_heap (hsz:=hz) (D4 hu) (qka I.hok eb) dd λh' dd' hs=>h _ ?_
  obtain ⟨q,es,ep,hq,h2,h3,h4,_,h5⟩:=dd'
  refine qqy I (by rw [e]; exact CI) hs ⟨q,hq⟩ ⟨hl,hd,_,(rel.put k eb rv).keeps λc ys ec => ?_,q,es,ep,hq,h2,h3,h4,h5⟩
  rw [zd (ne_of ec e (λz=>nomatch z))]
  exact ec
end
section
variable {X:Cx} {pins:List (Addr × Obj)} {σ:St} {H:Hp} {s:Ah} {a:Addr} {kvs:List (Key × V)} {k:Key} {u:Value} {A:AX} {E:Value->Ah->Prop}
end
noncomputable def NoSl (i:Expr):Prop:=∀ ov iv,subscripted i false ov iv=operate [ov,iv] (getItem ov iv)
theorem qwk {prog:AN} {w:World} {A:AX} {E:Value->Ah->Prop} {s:Ah} {env:Env} {value slice:Expr} {pos:Pos} {T id:String} {Q:Value->Ah->Prop}
  (hl:typeLookup (.type T) "__getitem__" = pure (some (.builtin id))) (hs:NoSl slice)
  (h:wpAny (model prog w) A (eval value env) (λo s₁=>wpAny (model prog w) A (eval slice env) (λi s₂=>s₂.TypeIs o T/\wpAny (model prog w) A (getItem o i) Q E s₂) E s₁) E s) :
  wpAny (model prog w) A (eval (.Subscript value slice pos) env) Q E s:=by
 refine Subscript_ (BO h (λo s₁ h₁=>BO h₁ (λi s₂ h₂ => ?_) λ_ _ x=>x) λ_ _ x=>x)
 obtain ⟨hT,h₂⟩:=h₂
 unfold subscriptTail
 refine Ad ?_
 rw [getitemInPython_of_ne hT.not_modules]
 refine Ad (wpAny_specialOf hT hl ?_)
 have fin:wpAny (model prog w) A (subscripted slice false o i) (λr s₃=>wpAny (model prog w) A (letTemporaryGo value o r >>= λ_=>pure r) Q E s₃) E s₂:=by
  rw [hs o i]
  exact wpAny_operating (BO h₂ (λr s₃ h₃=>Ad (wpAny_letTemporaryGo (A2 h₃))) λ_ _ x=>x)
 first
  | exact A2 (Ad fin)
  | exact Ad (A2 (Ad fin))
  | exact Ad fin
theorem qn9 {X:Cx} {pins:List (Addr × Obj)} {σ:St} {H:Hp} {s:Ah} {a:Addr} {y:V} {o:Option V} (I:Inv X pins σ H s) (g:DGet H a y o):s.TypeIs (.ref a) "dict" := by
 rcases g with ⟨kvs,k,e,_,_⟩ | ⟨kvs,k,b,e,_,_,_⟩
 .obtain ⟨_,_,vs,_,dd⟩:=qn7 I.hok e
  exact dd.typeIs
 .obtain ⟨_,_,xs,_,dd⟩:=qn8 I.hok e
  exact dd.typeIs
noncomputable def tDGet (td ty:TE):TE:=λσ H Q=>td σ H λx H1=>ty σ H1 λy H2=>∃ a v,x=.ref a/\DGet H2 a y (some v)/\Q v H2
noncomputable def tDIn (ty td:TE):TE:=λσ H Q=>ty σ H λy H1=>td σ H1 λx H2=>∃ a o,x=.ref a/\DGet H2 a y o/\Q (.bl o.isSome) H2
noncomputable def qwl (ty td:TE):TE:=λσ H Q=>ty σ H λy H1=>td σ H1 λx H2=>∃ a o,x=.ref a/\DGet H2 a y o/\Q (.bl (!o.isSome)) H2
noncomputable def sDPut (td ty tv:TE):TS:=λD σ H=>tv σ H λv H1=>td σ H1 λx H2=>ty σ H2 λy H3=>∃ a H4,x=.ref a/\DPut H3 a y v H4/\D.nx σ H4
section
variable {X:Cx} {o i e value:Expr} {pos pos' tpos:Pos} {td ty tv:TE}
theorem qjv (hu:X.A.units + 1 < cLine) (ho:PE X o td) (hi:PE X i ty) (hs:NoSl i):PE X (.Subscript o i pos) (tDGet td ty):=by
 intro pins s σ H Q I h
 refine qwk PySem.F.slot_dict_getitem.lookup hs (thn (ho pins s σ H _ I h) λu s1 ⟨x,H1,I1,rx,q1⟩=>thn (hi pins s1 σ H1 _ I1 q1) λiv s2 hh9 => ?_)
 obtain ⟨y,H2,I2,ry,a,v,ex,g,q2⟩:=hh9
 subst ex
 obtain rfl:u=Al a:=rx
 exact ⟨qn9 I2 g,qr1 hu I2 g ry λw' s3 I3 rw'=>⟨v,H2,I3,rw',q2⟩⟩
theorem qy1 (hu:X.A.units + 1 < cLine) (hi:PE X i ty) (ho:PE X o td):PC X .In i o (tDIn ty td):=by
 intro pins s σ H Q I h
 refine thn (hi pins s σ H _ I h) λiv s1 ⟨y,H1,I1,ry,q1⟩=>thn (ho pins s1 σ H1 _ I1 q1) λu s2 hh9 => ?_
 obtain ⟨x,H2,I2,rx,a,ov,ex,g,q2⟩:=hh9
 subst ex
 obtain rfl:u=Al a:=rx
 exact d_in hu I2 g ry λs3 I3=>⟨.bl ov.isSome,H2,I3,rfl,q2⟩
theorem qiw (hu:X.A.units + 1 < cLine) (hi:PE X i ty) (ho:PE X o td):PC X .NotIn i o (qwl ty td):=by
 intro pins s σ H Q I h
 refine thn (hi pins s σ H _ I h) λiv s1 ⟨y,H1,I1,ry,q1⟩=>thn (ho pins s1 σ H1 _ I1 q1) λu s2 hh9 => ?_
 obtain ⟨x,H2,I2,rx,a,ov,ex,g,q2⟩:=hh9
 subst ex
 obtain rfl:u=Al a:=rx
 exact qwj hu I2 g ry λs3 I3=>⟨.bl (!ov.isSome),H2,I3,rfl,q2⟩
theorem qm6 (hu:X.A.units + 1 < cLine) (ho:PE X o td) (hi:PE X i ty) (hv:PE X value tv) (hs:swapsWith value (some (.Subscript o i pos')) pos.line X.env=pure false) :
  PS X (.Assign [.Subscript o i pos'] value pos) (sDPut td ty tv):=by
 intro pins s σ H D I h
 refine wpAny_Assign_Subscript (thn (hv pins s σ H _ I h) λr s1 ⟨v,H1,I1,rv,q1⟩=>thn (ho pins s1 σ H1 _ I1 q1) λu s2 ⟨x,H2,I2,rx,q2⟩=>thn (hi pins s2 σ H2 _ I2 q2) λiv s3 hh9 => ?_) hs
 obtain ⟨y,H3,I3,ry,a,H4,ex,g,q3⟩:=hh9
 subst ex
 obtain rfl:u=Al a:=rx
 exact qr2 hu I3 g ry rv λs4 I4=>⟨σ,H4,I4,q3⟩
end
theorem qtx {P:AN} {w:World} {H:Hp} (h:Heap) (hb:sysModules < h.objs.size):ObjOk P w H (h.push { cls:=.type "dict",data:=.dict #[] }) h.objs.size (.dK []) :=
 ⟨Bt _,beq_eq_false_iff_ne.mpr (Bc (AJ hb)),[],.nil,Heap.DictOf.new h⟩
noncomputable def qy2:TE:=λ_ H Q=>∀ p,H p=none->Q (.ref p) (upd H p (.dK []))
section
variable {X:Cx} {pos:Pos}
theorem qkb:PE X (.Dict [] [] pos) qy2:=λpins s σ H Q I h =>
 wpAny_Dict_empty ⟨.ref s.heap.objs.size,_,I.laid (a:=s.heap.objs.size) (o:=.dK []) (t':=s.toks) (λ_ _ q=>Am _ q) (A1 _) (qtx s.heap I.big),rfl,h _ (I.hok.fresh (A1 _))⟩
end
section
variable {X:Cx} {pins:List (Addr × Obj)} {σ:St} {H:Hp} {s:Ah} {a:Addr} {y d:V} {u r:Value} {o:Option V} {A:AX} {E:Value->Ah->Prop}
end
section
variable {X:Cx} {o e f:Expr} {apos cpos:Pos} {td ty tx:TE}
end
section
variable {X:Cx} {pins:List (Addr × Obj)} {σ:St} {H:Hp} {s:Ah} {a:Addr} {kvs:List (Key × V)} {A:AX} {E:Value->Ah->Prop}
end
section
variable {X:Cx} {pins:List (Addr × Obj)} {σ:St} {H:Hp} {s:Ah} {a:Addr} {y:V} {u:Value} {A:AX} {E:Value->Ah->Prop}
end
end L2
namespace L2
open PySem PySem.Spec PyProof.Rows
section
variable {κ:Type} [DecidableEq κ]
end
end L2
namespace Add
open PySem PySem.Spec PyProof.Rows L2
theorem pos {j:Int} (h:0 < j):0 < j:=h
theorem qoa {i j:Int} (h : -1000000 < i) (h':i < 1000000):CMul i j:=.inl ⟨by lia,by lia⟩
section
variable {K:Ae}
theorem qf8:BC K (.type "int") (.type "int")=some true:=by kernel_rfl
theorem qhz:BC K (.type "int") (.type "bool")=some false:=by kernel_rfl
end
section
variable {X:Cx}
theorem qf9:qel X (.builtin "isinstance") (λxs H Q=>∃ x t c b,xs=[x,.ty c]/\TyOf X.K H x t/\BC X.K t (.type c)=some b/\Q (.bl b) H):=by
 intro pins s σ H xs us Q I r h
 obtain ⟨x,t,c,b,rfl,ty,e,q⟩:=h
 obtain ⟨u,u',rfl,r1,r2⟩:=Vals.two r
 cases (show u'=BW c from r2)
 exact qrx I r1 ty e λtk=>⟨.bl b,H,I.tok tk,rfl,q⟩
noncomputable def qh0:List V->List V->Bool
 | [],[]=>true
 | x :: xs,y :: ys=>eqV x y && qh0 xs ys
 | _,_=>false
noncomputable def eAt (xs ys:List V) (j:Nat):Bool:=match xs[j]?,ys[j]? with
 | some x,some y=>eqV x y
 | _,_=>false
theorem qty:∀ (xs ys:List V),((Bh (min xs.length ys.length)).all (eAt xs ys) && (xs.length == ys.length))=qh0 xs ys
 | [],[]=>rfl
 | [],_ :: _=>by simp [qh0]
 | _ :: _,[]=>by simp [qh0]
 | x :: xs,y :: ys=>by
  have ih:=qty xs ys
  have e:min (x :: xs).length (y :: ys).length=min xs.length ys.length + 1:=by simp only [Aq]; lia
  rw [e,List.range_succ_eq_map,Cr,CY]
  have f:(eAt (x :: xs) (y :: ys) ∘ Nat.succ)=eAt xs ys:=by funext j; simp [eAt,Function.comp]
  have g:((x :: xs).length == (y :: ys).length)=(xs.length == ys.length):=by simp
  rw [f,g]
  show ((eqV x y && (Bh (min xs.length ys.length)).all (eAt xs ys)) && (xs.length == ys.length))=(eqV x y && qh0 xs ys)
  rw [<- ih,Bool.and_assoc]
theorem qob {A:AX} {s:Ah} {xs ys:List V} {us ws:List Value} (r:Vals xs us) (r':Vals ys ws) (fx:xs.all qct=true) (fy:ys.all qct=true) :
  ∀ j (h1:j < us.toArray.size) (h2:j < ws.toArray.size),BB A s us.toArray[j] ws.toArray[j] (eAt xs ys j):=by
 intro j h1 h2
 have g1:j < xs.length:=by rw [r.length]; simpa using h1
 have g2:j < ys.length:=by rw [r'.length]; simpa using h2
 obtain ⟨u,hu,ru⟩:=r.get (i:=j) (x:=xs[j]) (by simp [g1])
 obtain ⟨w,hw,rw'⟩:=r'.get (i:=j) (x:=ys[j]) (by simp [g2])
 have e1:us.toArray[j]=u:=by
  have:us[j]?=some us[j]:=by simp
  rw [this] at hu
  simpa using AF hu
 have e2:ws.toArray[j]=w:=by
  have:ws[j]?=some ws[j]:=by simp
  rw [this] at hw
  simpa using AF hw
 have e3:eAt xs ys j=eqV xs[j] ys[j]:=by simp [eAt,g1,g2]
 rw [e1,e2,e3]
 exact qtt ru rw' (AQ.mp fx _ (Bv g1)) (AQ.mp fy _ (Bv g2))
end
section
variable {X:Cx} {tg:Expr}
end
section
open PySem.SeqAt
open PySem.AutoSeq1 (wpAny_loadPart')
open PySem.MeetsSeq PySem.MeetsSeq2 PySem.MeetsSeq3
open HT
end
section
variable {prog:AN} {w:World} {A:AX} {E:Value->Ah->Prop} {s:Ah}
end
section
variable {X:Cx}
end
theorem qhg {env:Env}:∀ (names:List (Str × Bo)) (acc:List (Str × Addr)),(∀ x ∈ names,x.2=.free->∃ c,env.cells.lookup x.1=some c) ->
  (∀ x c,acc.lookup x=some c->env.cells.lookup x=some c) ->
  ∃ cl,(forIn names acc λ(x:Str × Bo) (cs:List (Str × Addr))=>if (x.2 == Bg)=true then (do let a <- cellOf env x.1; pure (De ((x.1,a) :: cs))) else (pure (De cs):Sem (ForInStep (List (Str × Addr)))))=pure cl /\
   (∀ x c,cl.lookup x=some c->env.cells.lookup x=some c)/\(∀ x,(acc.lookup x).isSome=true->(cl.lookup x).isSome=true)/\∀ x ∈ names,x.2=.free->(cl.lookup x.1).isSome=true
 | [],acc,_,ha=>⟨acc,rfl,ha,λ_ h=>h,λ_ h=>absurd h (by simp)⟩
 | (n,k) :: r,acc,hf,ha=>by
  have hr:∀ x ∈ r,x.2=.free->∃ c,env.cells.lookup x.1=some c:=λx hx=>hf x (At _ hx)
  rw [DW]
  cases hk:(k == Bg) with
  | false =>
   obtain ⟨cl,e,c1,c2,c3⟩:=qhg r acc hr ha
   refine ⟨cl,?_,c1,c2,λx hx hx2 => ?_⟩
   .simp only [hk,CZ,if_false]
    exact e
   .rcases Ao.mp hx with z | z
    .subst z
     have z2:k=.free:=hx2
     subst z2
     exact absurd hk Ez
    .exact c3 x z hx2
  | true =>
   have hk':k=.free:=by simpa using hk
   obtain ⟨c,hc⟩:=hf (n,k) Ak hk'
   have ha':∀ x d,((n,c) :: acc).lookup x=some d->env.cells.lookup x=some d:=λx d e=>by
    rw [BD] at e
    cases q:x == n with
    | true =>
     rw [q] at e
     have q':x=n:=by simpa using q
     subst q'
     rw [hc]; exact e
    | false=>rw [q] at e; exact ha x d e
   obtain ⟨cl,e,c1,c2,c3⟩:=qhg r ((n,c) :: acc) hr ha'
   have there:((((n,c) :: acc).lookup n).isSome)=true:=by simp
   refine ⟨cl,?_,c1,λx hx=>c2 x ?_,λx hx hx2 => ?_⟩
   .have hcell:cellOf env n=pure c:=by unfold cellOf; rw [hc]
    simp only [hk,if_true,hcell]
    exact e
   .rw [BD]
    cases q:x == n with
    | true=>rfl
    | false=>exact hx
   .rcases Ao.mp hx with z | z
    .subst z; exact c2 n there
    .exact c3 x z hx2
theorem qkc {env:Env} {scope:Scope} (hf:∀ x ∈ scope.names,x.2=.free->∃ c,env.cells.lookup x.1=some c) :
  ∃ cl,closureFor scope env=pure cl/\(∀ x c,cl.lookup x=some c->env.cells.lookup x=some c)/\∀ x ∈ scope.names,x.2=.free->(cl.lookup x.1).isSome=true:=by
 obtain ⟨cl,e,c1,_,c3⟩:=qhg scope.names [] hf (λx c h=>absurd h (by simp))
 refine ⟨cl,?_,c1,c3⟩
 unfold closureFor
 exact (congrArg (λz=>z >>= λcs=>(pure cs:Sem (List (Str × Addr)))) e).trans rfl
noncomputable def qm7 (N:List Str) (js:List (Option Nat)) (XN:List Str) (xs scope:Scope):Bool :=
 (scope.kind == .function) && (scope.names.all λx=>x.2 != .cell) && (scope.names.all λx=>x.2 != .local || (scope.names.lookup x.1 == some .local)) &&
 (scope.names.all λx=>x.2 != .free || (xs.names.lookup x.1 == some .cell || xs.names.lookup x.1 == some .free)) && (N.length == js.length) &&
 ((N.zip js).all λp=>match p.2 with | none=>true | some j=>(XN[j]? == some p.1) && (xs.names.lookup p.1 == some .cell || xs.names.lookup p.1 == some .free) && (scope.names.any λx=>x.1 == p.1 && x.2 == .free) && (scope.names.lookup p.1 == some .free))
structure CompNm (N:List Str) (js:List (Option Nat)) (XN:List Str) (xs scope:Scope):Prop where
 kind:scope.kind=.function
 nocell:∀ x ∈ scope.names,x.2 ≠ .cell
 names:∀ x ∈ scope.names,x.2=.local->scope.names.lookup x.1=some .local
 clos:∀ x ∈ scope.names,x.2=.free->(xs.names.lookup x.1=some .cell \/ xs.names.lookup x.1=some .free)
 len:N.length=js.length
 free:∀ (i j:Nat) (x:Str),N[i]?=some x->js[i]?=some (some j)->XN[j]?=some x/\(xs.names.lookup x=some .cell \/ xs.names.lookup x=some .free)/\(x,Bg) ∈ scope.names/\scope.names.lookup x=some .free
theorem ql8 {N:List Str} {js:List (Option Nat)} {XN:List Str} {xs scope:Scope} (h:qm7 N js XN xs scope=true):CompNm N js XN xs scope:=by
 unfold qm7 at h
 simp only [AC,AQ,beq_iff_eq,Bool.or_eq_true,bne_iff_ne,ne_eq] at h
 obtain ⟨⟨⟨⟨⟨h1,h2⟩,h3⟩,h4⟩,h5⟩,h6⟩:=h
 refine ⟨h1,λx hx=>h2 x hx,λx hx e => ?_,λx hx e => ?_,h5,λi j x e1 e2 => ?_⟩
 .rcases h3 x hx with z | z
  .exact absurd e z
  .exact z
 .rcases h4 x hx with z | z
  .exact absurd e z
  .exact z
 .have hz:(N.zip js)[i]?=some (x,some j):=by rw [List.getElem?_zip_eq_some]; exact ⟨e1,e2⟩
  have:=h6 _ (Aw hz)
  simp only [AC,beq_iff_eq,Bool.or_eq_true,DK] at this
  obtain ⟨⟨⟨a1,a2⟩,y,hy,b1,b2⟩,a4⟩:=this
  refine ⟨a1,a2,?_,a4⟩
  obtain ⟨y1,y2⟩:=y
  have b1':y1=x:=b1
  have b2':y2=.free:=b2
  subst b1' b2'
  exact hy
theorem qoc {env:Env} {scope:Scope} {x:Str} (h:scope.names.lookup x=some .free):(relabel scope env).names.lookup x=some .cell \/ (relabel scope env).names.lookup x=some .free:=by
 have gen:∀ (l:List (Str × Bo)),l.lookup x=some .free->((l.map λ(n,k)=>if (k == Bg && env.scope.kind == .function && env.kindOf n == some .cell) then (n,Bo.cell) else (n,k)).lookup x=some .cell \/ (l.map λ(n,k)=>if (k == Bg && env.scope.kind == .function && env.kindOf n == some .cell) then (n,Bo.cell) else (n,k)).lookup x=some .free):=by
  intro l
  induction l with
  | nil=>intro h; simp at h
  | cons y r ih =>
   obtain ⟨n,k⟩:=y
   intro h
   rw [BD] at h
   rw [A6]
   cases q:x == n with
   | false =>
    rw [q] at h
    have:=ih h
    by_cases hc:(k == Bg && env.scope.kind == .function && env.kindOf n == some .cell)=true
    .simpa [hc,BD,q] using this
    .simpa [hc,BD,q] using this
   | true =>
    rw [q] at h
    have h':k=.free:=AF h
    subst h'
    by_cases hc:(Bg == Bg && env.scope.kind == .function && env.kindOf n == some .cell)=true
    .exact .inl (by show CC x ((if (Bg == Bg && env.scope.kind == .function && env.kindOf n == some .cell)=true then (n,Bo.cell) else (n,Bg)) :: _)=_; rw [if_pos hc,BD,q])
    .exact .inr (by show CC x ((if (Bg == Bg && env.scope.kind == .function && env.kindOf n == some .cell)=true then (n,Bo.cell) else (n,Bg)) :: _)=_; rw [if_neg hc,BD,q])
 exact gen scope.names h
noncomputable def qcg (X:Cx) (N:List Str) (scope:Scope) (cl:List (Str × Addr)) (C:Addr) (s:Ah) (H:Hp) (fp:List Addr) (E:Value->Ah->Prop):Cx :=
 { X with N:=N,s₀:=s,H₀:=H,env:=compEnvC scope cl C X.env,outer:=X.stack,ex:=fp,fn:=λ_=>false,pn:=[],xe:=E }
noncomputable def qe7 (js:List (Option Nat)) (σ:L2.St):L2.St:=js.map λj=>j.bind λk=>(σ[k]?).join
section
variable {prog:AN} {w:World} {A:AX} {R:Result->Ah->Prop} {s:Ah}
theorem qpn {elt target iter:Expr} {ifs:List Expr} {scope:Scope} {pos:Pos} {it acc:Value} {env:Env} (I:Nat->Ah->Prop)
  (turn:∀ n s,I n s->wpAny (model prog w) A (pyNext it) (λr s₁=>match r with
   | none=>R (.ok .next) s₁
   | some v=>wpAny (model prog w) A (letOwnedTupleGo target it v) (λ_ s₁'=>wpAny (model prog w) A (assign target env v) (λ_ s₂ =>
     wpAny (model prog w) A (forIn ifs true λc r=>if r=true then do let ok <- isTrue c env (eval c env); pure (De ok) else pure (De r)) (λok s₃ =>
      if ok=true then wpAny (model prog w) A (eval elt env) (λx s₄ =>
       wpAny (model prog w) A (call (.builtin "list.append") [acc,x]) (λ_ s₅=>∃ m,m < n/\I m s₅) (notedBy (model prog w) A env λe s'=>R (.error e) s') s₄) (notedBy (model prog w) A env λe s'=>R (.error e) s') s₃
      else ∃ m,m < n/\I m s₃) (notedBy (model prog w) A env λe s'=>R (.error e) s') s₂) (notedBy (model prog w) A env λe s'=>R (.error e) s') s₁')
     (notedBy (model prog w) A env λe s'=>R (.error e) s') s₁) (notedBy (model prog w) A env λe s'=>R (.error e) s') s)
  (n:Nat) (h:I n s):codeAny (model prog w) A (.compLoop (.ListComp elt [⟨target,iter,ifs,0⟩] scope pos) 0 it acc env) R s:=by
 refine codeAny_loop rfl I (λn s hI => ?_) n h
 show wpAny _ A ((compTurn (.ListComp elt [⟨target,iter,ifs,0⟩] scope pos) 0 it acc env).onRaise (λx=>do noteFrame x env; theTreesLotGoes x)) _ _ s
 refine wpAny_noted ?_
 rw [compTurn_list]
 refine Ad (DR (Ad (BO (turn n s hI) (λr s₁ h₁ => ?_) λ_ _ h'=>h')))
 cases r with
 | none=>exact A2 h₁
 | some v =>
  refine Ad (BO h₁ (λ_ s₁' h₁' => ?_) λ_ _ h'=>h')
  refine Ad (BO h₁' (λ_ s₂ h₂=>Ad (BO h₂ (λok s₃ h₃ => ?_) λ_ _ h'=>h')) λ_ _ h'=>h')
  cases ok with
  | false=>exact A2 ⟨rfl,h₃⟩
  | true =>
   exact Ad (Ad (BO h₃ (λx s₄ h₄=>Ad (BO h₄ (λ_ s₅ h₅=>A2 (A2 ⟨rfl,h₅⟩)) λ_ _ h'=>h')) λ_ _ h'=>h'))
end
noncomputable def PTs (X:Cx) (ifs:List Expr) (t:TT):Prop :=
 ∀ (pins:List (Addr × Obj)) (s:Ah) (σ:L2.St) (H:Hp) (Q:Bool->Hp->Prop),Inv X pins σ H s->t σ H Q ->
  wpAny (model X.prog X.w) X.A (forIn ifs true λc r=>if r=true then do let ok <- isTrue c X.env (eval c X.env); pure (De ok) else pure (De r)) (TP X pins σ Q) X.xe s
noncomputable def qqz:TT:=λ_ H Q=>Q true H
theorem qc2 {X:Cx}:PTs X [] qqz:=λ_ _ _ H _ I h=>wpAny_tests_nil ⟨H,I,h⟩
theorem qq0 {X:Cx} {c:Expr} {t:TT} (hc:PT X c t):PTs X [c] t:=λpins s σ H Q I h=>wpAny_tests_one (hc pins s σ H Q I h)
noncomputable def qhh (js:List (Option Nat)) (g:TG) (tc:TT) (te:TE) (σ:L2.St) (Q:VK) (J:It) (H1:Hp):Prop:=∀ p,H1 p=none ->
 ∃ W:Nat->Nat->L2.St->Hp->Prop,(∃ m,W 0 m (qe7 js σ) (upd H1 p (.lst [])))/\∀ i m σ' H',W i m σ' H' ->
  (J.stop i H'/\Q (.ref p) H') \/ (J.go i H'/\∃ N:L2.St->Hp->Prop,(∀ σ2 H2,N σ2 H2->∃ m',m' < m/\W (i + 1) m' σ2 H2) /\
   ∀ x H2,J.yld i H' x H2->g x σ' H2 λσ3 H3=>tc σ3 H3 λk H4=>if k=true then te σ3 H4 λv H5=>∃ xs,H5 p=some (.lst xs)/\xs.length < A0/\N σ3 (upd H5 p (.lst (xs ++ [v]))) else N σ3 H4)
noncomputable def qyb (js:List (Option Nat)) (wi:TI) (g:TG) (tc:TT) (te:TE):TE:=λσ H Q=>wi σ H (qhh js g tc te σ Q)
section
variable {X:Cx} {N XN:List Str} {js:List (Option Nat)} {xs scope:Scope} {elt target iter:Expr} {ifs:List Expr} {pos:Pos} {g:TG} {tc:TT} {te:TE}
theorem qkd {pins:List (Addr × Obj)} {σ:L2.St} {H2:Hp} {s2:Ah} {it:Addr} {fp:List Addr} {tn:Nat->Heap->Prop} {J:It} {cl:List (Str × Addr)} {Q:V->Hp->Prop} {RR:Value->Addr->Result->Ah->Prop} {E:Value->Ah->Prop}
  (hc:X.calm=true) (hN:X.N=XN) (hS:X.env.scope=xs) (nm:CompNm N js XN xs scope) (hcl1:∀ x c,cl.lookup x=some c->X.env.cells.lookup x=some c) (hcl2:∀ x ∈ scope.names,x.2=.free->(cl.lookup x.1).isSome=true)
  (hg:∀ (cl:List (Str × Addr)) (C:Addr) (s:Ah) (H:Hp) (fp:List Addr) (E:Value->Ah->Prop),PG (qcg X N scope cl C s H fp E) target g)
  (ht:∀ (cl:List (Str × Addr)) (C:Addr) (s:Ah) (H:Hp) (fp:List Addr) (E:Value->Ah->Prop),PTs (qcg X N scope cl C s H fp E) ifs tc)
  (he:∀ (cl:List (Str × Addr)) (C:Addr) (s:Ah) (H:Hp) (fp:List Addr) (E:Value->Ah->Prop),PE (qcg X N scope cl C s H fp E) elt te)
  (I2:Inv X pins σ H2 s2) (T:Turn X.prog X.w X.K target J fp it tn) (st2:tn 0 s2.heap) (f2:∀ b ∈ fp,qek X pins H2 b)
  (hW:qhh js g tc te σ Q J H2)
  (fin:∀ (p C:Addr) (H':Hp) (s':Ah) (m:Str->Option Value),Inv X pins σ H' s'->s'.heap.Ns C m->s2.heap.objs.size <= C->H' C=none->Q (.ref p) H'->RR (.ref p) C (.ok .next) s') :
  wpAny (model X.prog X.w) X.A (newList []) (λacc s₃=>wpAny (model X.prog X.w) X.A (newFunctionEnv scope X.env.globals cl [] X.env.qual none .none (some X.env)) (λcenv s₄ =>
   codeAny (model X.prog X.w) X.A (.compStart (.ListComp elt [⟨target,iter,ifs,0⟩] scope pos) 0 (.ref it) acc { cenv with scope:=relabel scope X.env }) (RR acc cenv.locals) s₄) E s₃) E s2:=by
 refine DA (wpAny_newFunctionEnv nm.nocell (by intro y hy; simp at hy) (λh₁ hns₁ hsb₁ => ?_) nm.kind)
 obtain ⟨W,⟨m0,w0⟩,turn⟩:=hW s2.heap.objs.size I2.fresh
 have I3:Inv X pins σ (upd H2 s2.heap.objs.size (.lst [])) { s2 with heap:=s2.heap.push { cls:=.type "list",data:=.seq ([]:List Value).toArray } }:=I2.lnew (ys:=[]) (its:=[]) (t':=s2.toks) .nil (Bt _)
 generalize hs3:({ s2 with heap:=s2.heap.push { cls:=.type "list",data:=.seq ([]:List Value).toArray } }:Ah)=s3 at I3 hns₁ hsb₁ |-
 have hh3:s3.heap=s2.heap.push { cls:=.type "list",data:=.seq ([]:List Value).toArray }:=by rw [<- hs3]
 have z3:s3.heap.objs.size=s2.heap.objs.size + 1:=by rw [hh3,Cu]
 generalize hP:s2.heap.objs.size=P at w0 turn I3 z3 |-
 have hH3:∀ b ∈ fp,upd H2 P (.lst []) b=none:=λb hb=>by
  have nb:b ≠ P:=by
   obtain ⟨o,eo,_⟩:=T.obj 0 s2.heap st2 b hb
   have:=A3 eo
   rw [hP] at this
   exact AJ this
  rw [zd nb]
  exact (f2 b hb).1
 generalize hH:upd H2 P (.lst [])=H3 at w0 I3 hH3
 have f3:∀ b ∈ fp,b ≠ X.env.locals/\b ∉ X.fs/\(b ∈ X.ex \/ X.s₀.heap.objs.size <= b)/\(∀ x c,X.env.cells.lookup x=some c->c ≠ b)/\∀ p ∈ X.pn ++ pins,p.1 ≠ b:=λb hb=>(f2 b hb).2
 have fpl:∀ b ∈ fp,b < s3.heap.objs.size:=λb hb=>by
  obtain ⟨o,eo,_⟩:=T.obj 0 s2.heap st2 b hb
  have hl:=A3 eo
  exact A8 hl (by rw [z3,hP]; exact Cv _)
 have st3:tn 0 s3.heap:=T.keep 0 _ _ st2 λb _ o e=>by rw [hh3]; exact Am _ e
 generalize hC:s3.heap.objs.size=C at hns₁ hsb₁ z3 fpl |-
 have old:∀ b o,s3.heap.get? b=some o->h₁.get? b=some o:=λb o e=>hsb₁.extBut b o (by have hl:=A3 e; rw [hC] at hl; exact AJ hl) (Am _ e)
 have stk:∀ b ∈ fp,b ∉ frs X.stack:=λb hb z=>by
  rcases Ao.mp (I3.stkSub b z) with q | q
  .exact (f3 b hb).1 q
  .exact (f3 b hb).2.1 q
 have ok:∀ E',(qcg X N scope cl C s3 H3 fp E').Ok:=λE'=>{
  mod:=I3.ok.mod
  kind:=nm.kind
  glob:=I3.ok.glob
  blt:=I3.ok.blt
  above:=BQ hC
  inj:=λx y c h1 h2=>I3.ok.inj x y c (hcl1 x c h1) (hcl1 y c h2)
  has:=λx hx=>by
   have key:(x,Bg) ∈ scope.names:=by
    have hl:(relabel scope X.env).names.lookup x=some .cell \/ (relabel scope X.env).names.lookup x=some .free:=hx
    have gen:∀ (l:List (Str × Bo)),(∀ y ∈ l,y.2 ≠ .cell)->((l.map λ(n,k)=>if (k == Bg && X.env.scope.kind == .function && X.env.kindOf n == some .cell) then (n,Bo.cell) else (n,k)).lookup x=some .cell \/ (l.map λ(n,k)=>if (k == Bg && X.env.scope.kind == .function && X.env.kindOf n == some .cell) then (n,Bo.cell) else (n,k)).lookup x=some .free)->(x,Bg) ∈ l:=by
     intro l
     induction l with
     | nil=>intro _ h; rcases h with h | h <;> simp at h
     | cons y r ih =>
      obtain ⟨n,k⟩:=y
      intro hn h
      have hr:=ih (λy hy=>hn y (At _ hy))
      have hk:k ≠ .cell:=hn (n,k) Ak
      rw [A6] at h
      cases q:x == n with
      | false =>
       refine At _ (hr ?_)
       by_cases hc:(k == Bg && X.env.scope.kind == .function && X.env.kindOf n == some .cell)=true
       .simpa [hc,BD,q] using h
       .simpa [hc,BD,q] using h
      | true =>
       have q':x=n:=by simpa using q
       subst q'
       by_cases hc:(k == Bg && X.env.scope.kind == .function && X.env.kindOf x == some .cell)=true
       .have:k=.free:=by
         simp only [AC,beq_iff_eq] at hc
         exact hc.1.1
        subst this
        exact Ak
       .have h':k=.cell \/ k=.free:=by simpa [hc,BD] using h
        rcases h' with z | z
        .exact absurd z hk
        .subst z; exact Ak
    exact gen scope.names nm.nocell hl
   exact CJ.mp (hcl2 _ key rfl)
  cab:=λ_ _ h _=>nomatch h
  hd:=I3.ok.hd
  frames:=I3.ok.frames
  stk:=.inl rfl
  exf:=λb hb=>⟨AJ (fpl b hb),λx c e=>(f3 b hb).2.2.2.1 x c (hcl1 x c e)⟩
  bs:=I3.bs
  bsz:=Au I3.ok.bsz I3.sz
  noex:=λb o e hb=>by
   rcases (f3 b hb).2.2.1 with z | z
   .exact I3.ok.noex b o e z
   .have h1:=A3 e
    have h2:=I3.ok.bsz
    exact absurd (A8 h1 (Au h2 z)) (Cf _)
  exfs:=stk
  funs:=I3.stack
  frf:=I3.stkFree }
 have qfz:∀ E',Inv (qcg X N scope cl C s3 H3 fp E') [] (qe7 js σ) H3 { s3 with heap:=h₁,toks:=s3.toks + ([]:List (Str × Value)).length }:=λE'=>{
  ok:=ok E'
  os:=rfl
  bare:=I3.bare
  base:=Un.kept old
  loc:=by
   refine ⟨_,hns₁,λi x v e1 e2 e3 => ?_⟩
   have e2':((js[i]?).map λj=>j.bind λk=>(σ[k]?).join)=some (some v):=by
    have:=e2
    unfold qe7 at this
    rwa [An] at this
   cases hj:js[i]? with
   | none=>rw [hj] at e2'; cases e2'
   | some jo =>
    rw [hj] at e2'
    cases jo with
    | none=>cases e2'
    | some j =>
     have e2'':(σ[j]?).join=some v:=AF e2'
     have e4:σ[j]?=some (some v):=by
      cases q:σ[j]? with
      | none=>rw [q] at e2''; cases e2''
      | some o=>rw [q] at e2''; cases o with
       | none=>cases e2''
       | some y=>cases e2''; rfl
     obtain ⟨a1,a2,a3,a4⟩:=nm.free i j x e1 hj
     obtain ⟨mX,hnX,lX⟩:=I3.loc
     have vis:Vis X.env.scope x:=by rw [hS]; exact .inr a2
     obtain ⟨u,ru,lu⟩:=lX j x v (by rw [hN]; exact a1) e4 vis
     refine ⟨u,ru,?_⟩
     rcases lu with ⟨k1,_⟩ | ⟨k1,c,e5,z⟩
     .exfalso
      have k1':X.env.scope.names.lookup x=some .local:=k1
      rw [hS] at k1'
      rcases a2 with q | q <;> rw [q] at k1' <;> cases k1'
     .obtain ⟨c',e6⟩:=CJ.mp (hcl2 _ a3 rfl)
      have e7:=hcl1 x c' e6
      rw [e5] at e7
      cases e7
      refine .inr ⟨?_,c,e6,?_⟩
      .rcases e3 with q | q | q
       .exfalso
        have:=qoc (env:=X.env) a4
        rcases this with t | t <;> (have q':(relabel scope X.env).names.lookup x=some .local:=q; rw [t] at q'; cases q')
       .exact .inl q
       .exact .inr q
      .obtain ⟨o,ho,hd⟩:=z
       exact ⟨o,old c o ho,hd⟩
  cell:=λx c e=>by
   obtain ⟨v,o,ho,hd⟩:=I3.cell x c (hcl1 x c e)
   exact ⟨v,o,old c o ho,hd⟩
  free:=I3.hok.fresh (BQ hC)
  freeC:=λx c e=>I3.freeC x c (hcl1 x c e)
  pin:=λp hp=>absurd (show p ∈ ([]:List (Addr × Obj)) from hp) (by simp)
  hok:=I3.hok.kept old
  len:=by unfold qe7; rw [Ab]; exact nm.len.symm }
 have done:∀ {E':Value->Ah->Prop} {σ':L2.St} {H':Hp} {s':Ah},Inv (qcg X N scope cl C s3 H3 fp E') [] σ' H' s'->Q (.ref P) H'->RR (.ref P) C (.ok .next) s':=λ{E' σ' H' s'} J' q=>by
  obtain ⟨m',hn',_⟩:=J'.loc
  refine fin P C H' s' m' (I3.call' (ch:=fp) J'.os J'.base J'.hok J'.bare λb hb=>⟨(f3 b hb).2.2.1,(f3 b hb).1,(f3 b hb).2.2.2.1,(f3 b hb).2.2.2.2⟩) hn' (by rw [z3,hP]; exact Cv _) J'.free q
 have loop:∀ s₄:Ah,s₄={ s3 with heap:=h₁,toks:=s3.toks + ([]:List (Str × Value)).length } ->
   codeAny (model X.prog X.w) X.A (.compLoop (.ListComp elt [⟨target,iter,ifs,0⟩] scope pos) 0 (.ref it) (.ref P) (compEnvC scope cl C X.env)) (RR (.ref P) C) s₄:=by
  rintro s₄ rfl
  generalize hNB:notedBy (model X.prog X.w) X.A (compEnvC scope cl C X.env) (λe s'=>RR (.ref P) C (.error e) s')=NB
  have stat:∀ {H':Hp},(∀ b ∈ fp,H' b=none)->∀ b ∈ fp,qek (qcg X N scope cl C s3 H3 fp NB) [] H' b:=λhn b hb =>
   ⟨hn b hb,AJ (fpl b hb),stk b hb,.inl hb,λx c e=>(f3 b hb).2.2.2.1 x c (hcl1 x c e),λp hp=>absurd (show p ∈ ([]:List (Addr × Obj)) from hp) (by simp)⟩
  refine qpn (λn s'=>∃ i σ' H',Inv (qcg X N scope cl C s3 H3 fp NB) [] σ' H' s'/\tn i s'.heap/\(∀ b ∈ fp,H' b=none)/\W i n σ' H') ?_ m0 ⟨0,qe7 js σ,H3,qfz NB,T.keep 0 _ _ st3 λb _ o e=>old b o e,hH3,w0⟩
  rw [hNB]
  rintro n s5 ⟨i,σ5,H5,I5,st5,fr5,w5⟩
  rcases turn i n σ5 H5 w5 with ⟨stop,qn⟩ | ⟨go,Nx,hNx,step⟩
  .refine thn (T.done (qcg X N scope cl C s3 H3 fp NB) rfl rfl rfl hc i [] s5 σ5 H5 NB I5 (stat fr5) st5 stop) λr s6 ⟨hr,I6⟩ => ?_
   subst hr
   exact done I6 qn
  .refine thn (T.item (qcg X N scope cl C s3 H3 fp NB) rfl rfl rfl hc i [] s5 σ5 H5 NB I5 (stat fr5) st5 go) λr s6 ⟨u,hr,h6⟩ => ?_
   subst hr
   refine thn h6 λ_ s7 ⟨x,H7,I7,r7,y7,st7,fr7⟩ => ?_
   have I7':=I7.pinned (stat fr7) (T.obj _ _ st7)
   have again:∀ {σ8:L2.St} {H8:Hp} {s8:Ah},Inv (qcg X N scope cl C s3 H3 fp NB) ([] ++ qj4 fp s7.heap) σ8 H8 s8->Nx σ8 H8->∃ m,m < n/\∃ i σ' H',Inv (qcg X N scope cl C s3 H3 fp NB) [] σ' H' s8/\tn i s8.heap/\(∀ b ∈ fp,H' b=none)/\W i m σ' H':=λ{σ8 H8 s8} I8 n8=>by
    obtain ⟨m',hm,w8⟩:=hNx σ8 H8 n8
    refine ⟨m',hm,i + 1,σ8,H8,I8.unpinned,T.keep _ _ _ st7 λb hb o e=>(I8.pin (b,o) (AE _ (AE _ (qfk hb e)))).1,λb hb => ?_,w8⟩
    obtain ⟨o,e,d⟩:=T.obj _ _ st7 b hb
    exact (I8.pin (b,o) (AE _ (AE _ (qfk hb e)))).2.1
   refine thn (hg cl C s3 H3 fp NB _ s7 σ5 H7 x u _ I7' r7 (step x H7 y7)) λ_ s8 ⟨σ8,H8,I8,q8⟩ => ?_
   refine thn (ht cl C s3 H3 fp NB _ s8 σ8 H8 _ I8 q8) λk s9 ⟨H9,I9,q9⟩ => ?_
   cases k with
   | false =>
    rw [if_neg Ez] at q9 |-
    exact again I9 q9
   | true =>
    rw [if_pos rfl] at q9 |-
    refine thn (he cl C s3 H3 fp NB _ s9 σ8 H9 _ I9 q9) λuv s10 ⟨v,H10,I10,r10,xs',hx1,hx2,q10⟩ => ?_
    refine thn (qbw (X:=qcg X N scope cl C s3 H3 fp NB) _ s10 σ8 H10 (.ref P) [v] (.ref P) [uv] (λ_ H11=>Nx σ8 H11) I10 rfl (.cons r10 .nil) ⟨P,xs',v,rfl,rfl,hx1,hx2,q10⟩) λ_ s11 ⟨_,H11,I11,_,q11⟩ => ?_
    exact again I11 q11
 exact codeAny_compStart_list (loop _ rfl) (T.self _ 0 _ _ _ (T.keep 0 _ _ st3 λb _ o e=>old b o e) (loop _ rfl))
end
section
variable {X:Cx} {N XN:List Str} {js:List (Option Nat)} {xs scope:Scope} {elt target iter:Expr} {ifs:List Expr} {pos:Pos} {wi:TI} {g:TG} {tc:TT} {te:TE}
theorem qjd {pins:List (Addr × Obj)} {σ σ':L2.St} {H H':Hp} {s s':Ah} {C:Addr} {h':Heap} (I2:Inv X pins σ H s) (J:Inv X pins σ' H' s') (hC:s.heap.objs.size <= C) (hn:H' C=none) (sb:Cq C s'.heap h'):Inv X pins σ' H' { s' with heap:=h' } :=
 J.turned (t':=s'.toks) (it:=C) (λb o hb e=>sb.extBut b o hb e) hn (C0 (A8 I2.lt hC)) (.inr (Au I2.sz hC))
  (λx c e=>by
   obtain ⟨v,q⟩:=I2.cell x c e
   exact AJ (A8 q.lt hC)) λp hp=>AJ (A8 (A3 (I2.pin p hp).1) hC)
theorem qe0 (hc:X.calm=true) (hN:X.N=XN) (hS:X.env.scope=xs) (hok:qm7 N js XN xs scope=true) (hi:PI X target iter wi)
  (hg:∀ (cl:List (Str × Addr)) (C:Addr) (s:Ah) (H:Hp) (fp:List Addr) (E:Value->Ah->Prop),PG (qcg X N scope cl C s H fp E) target g)
  (ht:∀ (cl:List (Str × Addr)) (C:Addr) (s:Ah) (H:Hp) (fp:List Addr) (E:Value->Ah->Prop),PTs (qcg X N scope cl C s H fp E) ifs tc)
  (he:∀ (cl:List (Str × Addr)) (C:Addr) (s:Ah) (H:Hp) (fp:List Addr) (E:Value->Ah->Prop),PE (qcg X N scope cl C s H fp E) elt te)
  (hs:∀ x,foldedSetIterable iter X.env x=pure x:=by intro _; rfl):PE X (.ListComp elt [⟨target,iter,ifs,0⟩] scope pos) (qyb js wi g tc te):=by
 intro pins s σ H Q I h
 have nm:=ql8 hok
 obtain ⟨cl,hcl,c1,c2⟩:=qkc (env:=X.env) (scope:=scope) λx hx e=>I.ok.has x.1 (by
  rcases nm.clos x hx e with q | q
  .exact .inl (by show X.env.scope.names.lookup _=_; rw [hS]; exact q)
  .exact .inr (by show X.env.scope.names.lookup _=_; rw [hS]; exact q))
 rw [eval_ListComp]
 refine wpAny_comprehension_free (use:=none) rfl hs hcl nm.kind nm.names (thn (hi pins s σ H _ I h) λv s1 h1=>thn h1 λitv s2 h2 => ?_)
 obtain ⟨it,fp,tn,J,H2,e,I2,T,st2,f2,hW⟩:=h2
 subst e
 refine qkd (RR:=λacc C=>compPost (model X.prog X.w) X.A X.xe none (EP X pins σ Q) acc C) hc hN hS nm c1 c2 hg ht he I2 T st2 f2 hW λp C H' s' m J' hn hC hCf q => ?_
 exact ⟨m,hn,λh' hs'=>⟨.ref p,H',qjd I2 J' hC hCf hs',rfl,q⟩⟩
theorem qde {i:Nat} {x:Str} {px spos:Pos} (hNd:X.N.Nodup) (hix:X.N[i]?=some x) (hloc:X.env.scope.names.lookup x=some .local) (hc:X.calm=true) (hN:X.N=XN) (hS:X.env.scope=xs) (hok:qm7 N js XN xs scope=true) (hi:PI X target iter wi)
  (hg:∀ (cl:List (Str × Addr)) (C:Addr) (s:Ah) (H:Hp) (fp:List Addr) (E:Value->Ah->Prop),PG (qcg X N scope cl C s H fp E) target g)
  (ht:∀ (cl:List (Str × Addr)) (C:Addr) (s:Ah) (H:Hp) (fp:List Addr) (E:Value->Ah->Prop),PTs (qcg X N scope cl C s H fp E) ifs tc)
  (he:∀ (cl:List (Str × Addr)) (C:Addr) (s:Ah) (H:Hp) (fp:List Addr) (E:Value->Ah->Prop),PE (qcg X N scope cl C s H fp E) elt te)
  (hsw:swapsWith (.ListComp elt [⟨target,iter,ifs,0⟩] scope pos) (some (.Name x px)) spos.line X.env=pure true:=by rfl)
  (hs:∀ x,foldedSetIterable iter X.env x=pure x:=by intro _; rfl):PS X (.Assign [.Name x px] (.ListComp elt [⟨target,iter,ifs,0⟩] scope pos) spos) (qyr (qyb js wi g tc te) (qlx i)):=by
 intro pins s σ H D I h
 have nm:=ql8 hok
 obtain ⟨cl,hcl,c1,c2⟩:=qkc (env:=X.env) (scope:=scope) λx hx e=>I.ok.has x.1 (by
  rcases nm.clos x hx e with q | q
  .exact .inl (by show X.env.scope.names.lookup _=_; rw [hS]; exact q)
  .exact .inr (by show X.env.scope.names.lookup _=_; rw [hS]; exact q))
 rw [exec_Assign_Name_used _ _ _ _ hsw]
 refine Ad (DR (Ad ?_))
 show wpAny _ X.A (do let _ <- comprehension (.ListComp elt [⟨target,iter,ifs,0⟩] scope pos) scope X.env _ (newList []) false (eval iter X.env) (some (assign (.Name x px) X.env))) _ _ s
 refine Ad (BO (wpAny_comprehension_free (use:=some (assign (.Name x px) X.env)) (Q:=λ_ s'=>SP X pins D .next s') rfl hs hcl nm.kind nm.names
  (thn (hi pins s σ H _ I h) λv s1 h1=>thn h1 λitv s2 h2 => ?_)) (λ_ s' hq=>A2 (A2 hq)) λ_ _ e=>e)
 obtain ⟨it,fp,tn,J,H2,e,I2,T,st2,f2,hW⟩:=h2
 subst e
 refine qkd (Q:=λx H1=>qlx i x σ H1 D.nx) (RR:=λacc C=>compPost (model X.prog X.w) X.A X.xe (some (assign (.Name x px) X.env)) (λ_ s'=>SP X pins D .next s') acc C) hc hN hS nm c1 c2 hg ht he I2 T st2 f2 hW λp C H' s' m J' hn hC hCf q => ?_
 obtain ⟨o,es,ep,ho,hd,hr⟩:=id hn
 have Jp:Inv X (pins ++ [(C,o)]) σ H' s':=J'.pins_of λz hz=>(Ax.mp hz).elim (λy=>J'.pin z (AE _ y)) λy=>by
  have e:z=(C,o):=by simpa using y
  subst e
  exact ⟨ho,hCf,C0 (A8 I2.lt hC),I2.nofs hC,λv z=>by rw [hd] at z; cases z⟩
 refine thn (qap (X:=X) (pos:=px) hNd hix (.inl hloc) (.inr hloc) (pins ++ [(C,o)]) s' σ H' (.ref p) (.ref p) _ Jp rfl q) λ_ s'' ⟨σ'',H'',Js,q''⟩ => ?_
 have pc:=Js.pin (C,o) (AE _ (AE _ (by simp)))
 refine ⟨m,⟨o,es,ep,pc.1,hd,hr⟩,λh' hs'=>⟨σ'',H'',qjd I2 Js.unpinned hC pc.2.1 hs',q''⟩⟩
end
noncomputable def qke (J:It) (H:Hp) (xs:List V):Prop:=∀ H',Same H H'->(∀ i x,xs[i]?=some x->J.go i H'/\∀ y H2,J.yld i H' y H2->y=x/\H2=H')/\J.stop xs.length H'
theorem qcu {K:Ae} {H:Hp} {a:Addr} {xs:List V} (h:SqL K H a xs):qke (Itl K a) H xs:=λH' e =>
 ⟨λi x hx=>⟨⟨xs,x,e.seq h,hx⟩,λy H2 hy=>by
  obtain ⟨e1,e2⟩:=hy
  have:=e2 xs (e.seq h)
  rw [hx] at this
  exact ⟨(AF this).symm,e1⟩⟩,⟨xs,e.seq h,A1 _⟩⟩
theorem qe1 {H:Hp} {lo:Int} {n:Nat}:qke (Itr lo n) H ((Bh n).map λi=>V.int (lo + (i:Nat))):=λH' _ =>
 ⟨λi x hx=>by
  rw [An] at hx
  cases q:(Bh n)[i]? with
  | none=>rw [q] at hx; cases hx
  | some j =>
   have hi:i < n:=by
    obtain ⟨h1,_⟩:=Af.mp q
    simpa using h1
   have hj:j=i:=by
    obtain ⟨_,h2⟩:=Af.mp q
    simpa using h2.symm
   rw [q] at hx
   subst hj
   exact ⟨hi,λy H2 hy=>⟨hy.2.trans (AF hx),hy.1⟩⟩,by show n <= _; simp⟩
theorem qcb {js:List (Option Nat)} {g:TG} {te:TE} {J:It} {σ:L2.St} {H:Hp} {Q:VK} {xs:List V} (f:V->V) (Sv:L2.St->Prop) (F:qke J H xs) (hz:xs.length <= A0) (h0:Sv (qe7 js σ))
  (step:∀ (x:V) (σ':L2.St) (H':Hp) (R:L2.St->VK),x ∈ xs->Same H H'->Sv σ'->(∀ σ3,Sv σ3->R σ3 (f x) H')->g x σ' H' λσ3 H3=>te σ3 H3 (R σ3))
  (gk:∀ (x:V) (σ':L2.St) (H':Hp) (R R':L2.St->Hp->Prop),(∀ σ3 H3,R σ3 H3->R' σ3 H3)->g x σ' H' R->g x σ' H' R')
  (fin:∀ p,H p=none->Q (.ref p) (upd H p (.lst (xs.map f)))) :
  qhh js g qqz te σ Q J H:=by
 intro p hp
 have sm:∀ o,Same H (upd H p o):=λo b u e=>by rw [zd (qag e hp)]; exact e
 refine ⟨λi m σ' H'=>m=xs.length - i/\i <= xs.length/\Sv σ'/\H'=upd H p (.lst ((xs.take i).map f)),⟨xs.length,by simp,Bt _,h0,by simp⟩,?_⟩
 rintro i m σ' H' ⟨rfl,hi,hv,rfl⟩
 obtain ⟨F1,F2⟩:=F _ (sm (.lst ((xs.take i).map f)))
 by_cases hlt:i < xs.length
 .have ex:xs[i]?=some xs[i]:=by simp [hlt]
  obtain ⟨go,yl⟩:=F1 i _ ex
  refine .inr ⟨go,λσ2 H2=>Sv σ2/\H2=upd H p (.lst ((xs.take (i + 1)).map f)),λσ2 H2 ⟨a,b⟩=>⟨xs.length - (i + 1),by lia,rfl,hlt,a,b⟩,λx H2 hy => ?_⟩
  obtain ⟨rfl,rfl⟩:=yl x H2 hy
  refine gk _ _ _ _ _ (λσ3 H3 z => ?_) (step xs[i] σ' _ (λσ3 v H5=>∃ ys,H5 p=some (.lst ys)/\ys.length < A0/\(Sv σ3/\upd H5 p (.lst (ys ++ [v]))=upd H p (.lst ((xs.take (i + 1)).map f)))) (Bv hlt) (sm _) hv λσ3 hs3 => ?_)
  .exact z
  .refine ⟨_,qu,?_,hs3,?_⟩
   .rw [Ab,Ap]; lia
   .rw [qqp,CD,ex,Ay]; rfl
 .have e:i=xs.length:=by lia
  subst e
  refine .inl ⟨F2,?_⟩
  rw [B0]
  exact fin p hp
theorem qcq {i:Nat} (x:V) (σ':L2.St) (H':Hp) (R R':L2.St->Hp->Prop) (h:∀ σ3 H3,R σ3 H3->R' σ3 H3) (z:qlx i x σ' H' R):qlx i x σ' H' R':=h _ _ z
noncomputable def Ixs (x:Str):It:=⟨λi _=>i < x.cps.size,λi H v H'=>H'=H/\∃ c,x.cps[i]?=some c/\v=.str ⟨#[c]⟩,λi _=>i=x.cps.size⟩
theorem ql9 {P:AN} {w:World} {K:Ae} {tg:Expr} {it:Addr} {x:Str} {t:Tok} {ty:String}
  (hty:["enumerate", "zip", "dict_itemiterator", "dict_reverseitemiterator", "odict_iterator", "itertools.zip_longest", "itertools.pairwise"].contains ty=false)
  (W:∀ A':AX,A'.handled=none->Walks P w A' it [it] [it] x.cps.size (SignAt x) (λi h=>h.IsStrIter it ty x t i))
  (self:∀ (A:AX) (i:Nat) (s:Ah) (Q:Value->Ah->Prop) (E:Value->Ah->Prop),s.heap.IsStrIter it ty x t i->Q (.ref it) s->wpAny (model P w) A (pyIter (.ref it)) Q E s) :
  Turn P w K tg (Ixs x) [it] it (λi h=>h.IsStrIter it ty x t i) where
 mem:=by simp
 obj:=λi h st b hb=>by
  have e:b=it:=by simpa using hb
  subst e
  obtain ⟨o,ho,_,hd⟩:=st
  exact ⟨o,ho,λv z=>by rw [hd] at z; cases z⟩
 keep:=λi h h' st k=>let ⟨o,ho,r⟩:=st; ⟨o,k it (by simp) o ho,r⟩
 item:=by
  intro X hP hw hK hc i pins s σ H E I hf st hg
  subst hP hw hK
  obtain ⟨f0,f1,f2,f3,f4,f5⟩:=hf it (by simp)
  refine (W X.A (I.ok.hd hc)).item i s _ _ hg st λv h' tk hv st' kk => ?_
  obtain ⟨c,u,hcx,rfl⟩:=hv
  have I1:Inv X pins σ H { s with heap:=h',toks:=tk }:=I.turned (λb o hb e=>kk b o (by simpa using hb) e) f0 f1 f3 f4 f5
  obtain ⟨o,ho,hcl,hd⟩:=id st'
  exact ⟨_,rfl,qqq (s:={ s with heap:=h',toks:=tk }) ho hcl hd hty ⟨.str ⟨#[c]⟩,H,I1,⟨u,rfl⟩,⟨rfl,c,hcx,rfl⟩,st',λb hb=>(hf b hb).1⟩⟩
 done:=by
  intro X hP hw hK hc i pins s σ H E I hf st hg
  subst hP hw hK
  obtain ⟨f0,f1,f2,f3,f4,f5⟩:=hf it (by simp)
  have e:i=x.cps.size:=hg
  subst e
  exact (W X.A (I.ok.hd hc)).done s _ _ st λh' tk kk=>⟨rfl,I.turned (t':=tk) (λb o hb e=>kk b o (by simpa using hb) e) f0 f1 f3 f4 f5⟩
 self:=self
section
variable {X:Cx} {tg:Expr}
noncomputable def iText (tl:TE):TI:=λσ H R=>tl σ H λv H1=>∃ x,v=.str x/\R (Ixs x) H1
theorem qm8 {l:Expr} {tl:TE} (hl:PE X l tl):PI X tg l (iText tl):=by
 intro pins s σ H R I h
 refine thn (hl pins s σ H _ I h) λv s1 ⟨y,H1,I1,r1,q1⟩ => ?_
 obtain ⟨x,e,q⟩:=q1
 subst e
 obtain ⟨t,rfl⟩:=r1
 have fo:∀ b ∈ [s1.heap.objs.size],qek X pins H1 b:=λb hb=>by
  have e:b=s1.heap.objs.size:=by simpa using hb
  subst e
  exact I1.fpOk (A1 _) (I1.hok.fresh (A1 _))
 cases ha:x.cps.all (· < 128)
 .exact wpAny_pyIter_wide ha ⟨s1.heap.objs.size,[s1.heap.objs.size],_,_,H1,rfl,I1.kept (t':=s1.toks) λb o e=>Am _ e,
   ql9 (ty := "str_iterator") (t:=t) Ez (λA' hA=>Walks.strWide hA _ x t) (λ_ _ _ _ _ st h=>wpAny_pyIter_striter_wide st h),⟨_,A5 _ rfl,rfl,rfl⟩,fo,q⟩
 .exact wpAny_pyIter_ascii ha ⟨s1.heap.objs.size,[s1.heap.objs.size],_,_,H1,rfl,I1.kept (t':=s1.toks) λb o e=>Am _ e,
   ql9 (ty := "str_ascii_iterator") (t:=t) Ez (λA' hA=>Walks.strAscii hA _ x t) (λ_ _ _ _ _ st h=>wpAny_pyIter_striter_ascii st h),⟨_,A5 _ rfl,rfl,rfl⟩,fo,q⟩
end
theorem qtz {x:Str} {g:TG} {tb:TS} {D:Ends} {σ:L2.St} {H:Hp} (Pv:Nat->L2.St->Hp->Prop) (h0:Pv 0 σ H)
  (hs:∀ i c σ H,x.cps[i]?=some c->Pv i σ H->g (.str ⟨#[c]⟩) σ H λσ2 H2=>tb { D with nx:=Pv (i + 1),ct:=Pv (i + 1),bk:=D.nx } σ2 H2) (hd:∀ σ H,Pv x.cps.size σ H->D.nx σ H) :
  ∃ W:Nat->Nat->L2.St->Hp->Prop,(∃ m,W 0 m σ H)/\∀ i m σ H,W i m σ H ->
   ((Ixs x).stop i H/\D.nx σ H) \/ ((Ixs x).go i H/\∃ N:L2.St->Hp->Prop,(∀ σ' H',N σ' H'->∃ m',m' < m/\W (i + 1) m' σ' H')/\∀ v H',(Ixs x).yld i H v H'->g v σ H' λσ2 H2=>tb { D with nx:=N,ct:=N,bk:=D.nx } σ2 H2):=by
 refine ⟨λi m σ H=>m=x.cps.size - i/\i <= x.cps.size/\Pv i σ H,⟨x.cps.size,by simp,Bt _,h0⟩,?_⟩
 rintro i m σ H ⟨rfl,hi,p⟩
 by_cases hlt:i < x.cps.size
 .refine .inr ⟨hlt,Pv (i + 1),λσ' H' p'=>⟨x.cps.size - (i + 1),by lia,rfl,hlt,p'⟩,λv H' y => ?_⟩
  obtain ⟨e,c,hc,y⟩:=y
  subst e y
  exact hs i c σ _ hc p
 .have e:i=x.cps.size:=by lia
  subst e
  exact .inl ⟨rfl,hd σ H p⟩
theorem qkf {H:Hp} {x:Str}:qke (Ixs x) H (x.cps.toList.map λc=>V.str ⟨#[c]⟩):=λH' _ =>
 ⟨λi v hv=>by
  rw [An] at hv
  cases q:x.cps.toList[i]? with
  | none=>rw [q] at hv; cases hv
  | some c =>
   rw [q] at hv
   have q':x.cps[i]?=some c:=by simpa using q
   have hi:i < x.cps.size:=(C4.mp q').1
   refine ⟨hi,λy H2 hy=>⟨?_,hy.1⟩⟩
   obtain ⟨_,d,hd,rfl⟩:=hy
   rw [q'] at hd
   cases hd
   exact AF hv,by show _=x.cps.size; simp⟩
section
variable {X:Cx}
theorem qt0 (bs:List Bool):((Bh bs.length).all λj=>(bs[j]?).getD true)=bs.all λb=>b:=by
 rw [<- all_rangeD bs λb=>b]
 congr 1
theorem qix (hc:X.calm=true):qel X (.builtin "all") (λxs H Q=>∃ (p:Addr) (bs:List Bool),xs=[V.ref p]/\SqL X.K H p (bs.map V.bl)/\Q (.bl (bs.all λb=>b)) H):=by
 intro pins s σ H xs us Q I r h
 obtain ⟨p,bs,rfl,hS,q⟩:=h
 obtain ⟨u,rfl,ru⟩:=Vals.one r
 cases ru
 obtain ⟨its,rv,pl,hz⟩:=I.list hS
 have hl:=rv.length
 rw [Ab] at hl
 have hne:p ≠ s.heap.objs.size:=by
  obtain ⟨o,ho,_⟩:=pl.isList
  exact AJ (A3 ho)
 refine call_all_walk (D6 pl.isList ⟨s.heap.objs.size,_,_,its.toArray.size,_,_,λj=>(bs[j]?).getD true,rfl,Walks.list (show X.A.in1.handled=none from I.ok.hd hc) _ p hne its.toArray,
  ⟨⟨_,A5 _ rfl,rfl,rfl⟩,pl.isList.at λo e=>Am _ e⟩,?_,λh' tk hk => ?_⟩)
 .intro i v s' Q' E' hv hq
  have hv':its[i]?=some v:=by simpa using hv
  cases e:bs[i]? with
  | none =>
   exfalso
   have h1:its.length <= i:=by rw [<- hl]; exact Co.mp e
   rw [Co.mpr h1] at hv'
   cases hv'
  | some b =>
   obtain ⟨u,hu,ru⟩:=rv.get (i:=i) (x:=.bl b) (by rw [An,e]; rfl)
   rw [hv'] at hu
   cases hu
   cases (show v=Ei b from ru)
   dsimp only at hq
   rw [e] at hq
   exact BF hq
 .refine ⟨.bl _,H,I.kept (t':=tk) λb o e=>hk b o (λz => ?_) (Am _ e),rfl,?_⟩
  .have z':b=s.heap.objs.size:=by simpa using z
   exact absurd (A3 e) (by rw [z']; exact Cf _)
  .have e:its.toArray.size=bs.length:=by rw [Av,hl]
   rw [e]
   rw [qt0]
   exact q
theorem qgv:OpR X (compareOp .LtE) (λx y H Q=>∃ i j,x=.str i/\y=.str j/\Q (.bl (!decide (j.cps.toList < i.cps.toList))) H):=by
 intro pins s σ H x y v u Q I rx ry h
 obtain ⟨i,j,rfl,rfl,q⟩:=h
 obtain ⟨t,rfl⟩:=rx
 obtain ⟨t',rfl⟩:=ry
 exact PySem.P.le_str (qa5 I q rfl)
theorem qhi:SlR X (λx lo hi H Q=>∃ z,x=.str z/\z.length <= A0/\Q (.str (Cw z lo hi)) H):=by
 intro pins s σ H x v vl vu lo hi sl Q I rx hs pl pu h
 obtain ⟨z,rfl,hz,q⟩:=h
 obtain ⟨t,rfl⟩:=rx
 refine ⟨"str",_,F.slot_str_getitem.lookup,typeIs_str _ _ _,?_⟩
 have fin:∀ t' k,EP X pins σ Q (.str (Cw z lo hi) t') { s with toks:=k }:=λt' k=>⟨.str _,H,I.tok k,⟨t',rfl⟩,q⟩
 cases pl with
 | none =>
  cases pu with
  | none=>exact CP (l:=none) (u:=none) (st:=none) hs rfl (DX ⟨Au (Dm z _ _) hz,fin⟩)
  | int j uj=>exact CP (l:=none) (u:=some (j,uj)) (st:=none) hs rfl (DX ⟨Au (Dm z _ _) hz,fin⟩)
 | int i ui =>
  cases pu with
  | none=>exact CP (l:=some (i,ui)) (u:=none) (st:=none) hs rfl (DX ⟨Au (Dm z _ _) hz,fin⟩)
  | int j uj=>exact CP (l:=some (i,ui)) (u:=some (j,uj)) (st:=none) hs rfl (DX ⟨Au (Dm z _ _) hz,fin⟩)
theorem qt1 {a b} {es:List Expr} {env:Env}:starEach (.List a b :: es) env=(false,eval (.List a b) env) :: starEach es env:=by rw [starEach]; intro e p' h; cases h
theorem zx {a b c} {es:List Expr} {env:Env}:starEach (.Tuple a b c :: es) env=(false,eval (.Tuple a b c) env) :: starEach es env:=by rw [starEach]; intro e p' h; cases h
theorem qh1 {a b c d} {es:List Expr} {env:Env}:starEach (.ListComp a b c d :: es) env=(false,eval (.ListComp a b c d) env) :: starEach es env:=by rw [starEach]; intro e p' h; cases h
theorem qz {a b c} {es:List Expr} {env:Env}:starEach (.Constant a b c :: es) env=(false,eval (.Constant a b c) env) :: starEach es env:=by rw [starEach]; intro e p' h; cases h
theorem qj {a b} {es:List Expr} {env:Env}:starEach (.Name a b :: es) env=(false,eval (.Name a b) env) :: starEach es env:=by rw [starEach]; intro e p' h; cases h
theorem zt {a b c d} {es:List Expr} {env:Env}:starEach (.Call a b c d :: es) env=(false,eval (.Call a b c d) env) :: starEach es env:=by rw [starEach]; intro e p' h; cases h
theorem zu {a b c d} {es:List Expr} {env:Env}:starEach (.BinOp a b c d :: es) env=(false,eval (.BinOp a b c d) env) :: starEach es env:=by rw [starEach]; intro e p' h; cases h
theorem qt2 {a b c d} {es:List Expr} {env:Env}:starEach (.Compare a b c d :: es) env=(false,eval (.Compare a b c d) env) :: starEach es env:=by rw [starEach]; intro e p' h; cases h
theorem zw {a b c} {es:List Expr} {env:Env}:starEach (.Subscript a b c :: es) env=(false,eval (.Subscript a b c) env) :: starEach es env:=by rw [starEach]; intro e p' h; cases h
theorem qcl {a b c} {es:List Expr} {env:Env}:starEach (.Attribute a b c :: es) env=(false,eval (.Attribute a b c) env) :: starEach es env:=by rw [starEach]; intro e p' h; cases h
theorem qga {a b c} {es:List Expr} {env:Env}:starEach (.BoolOp a b c :: es) env=(false,eval (.BoolOp a b c) env) :: starEach es env:=by rw [starEach]; intro e p' h; cases h
end
section
variable {K:Ae}
theorem qgb:BC K (.type "str") (.type "str")=some true:=by kernel_rfl
theorem qgc:BC K (.type "str") (.type "int")=some false:=by kernel_rfl
theorem qh2:BC K (.type "str") (.type "bool")=some false:=by kernel_rfl
end
section
variable {prog:AN} {w:World} {A:AX} {E:Value->Ah->Prop} {h:Heap} {g:Array GenState} {d:Drawn} {t:Nat} {os:OsState}
variable {nm q:Str} {C N:Addr} {bs bm bmB:List Value} {hdct:Bool} {sn:List Str} {sub:List Value} {ab:Bool} {col:Option Bool} {dd:Option Addr} {k0 k1 k2 k3 k5:Option Value} {B Bn newId nid initId inN:String} {bmN:List Value}
noncomputable abbrev qgd (qbl:List Value):Obj:={ cls:=.type "tuple",data:=.seq qbl.toArray }
noncomputable abbrev qen (C t:Addr):Obj:={ cls:=.ref C,data:=.fields #[.ref t,.none,.none,.none,.bool false,.none] }
theorem qll (Fn:ExcBaseFacts Bn newId inN bmN) (hBn:bmB.contains (.type Bn)=true) (F:ExcBaseFacts B nid initId bmB) (T:OwnTail h bmB bm) {mN:Str->Option Value} {qbl:List Value} {R:Result->Ah->Prop} {fI:Addr} {A':AX}
  (hC:h.get? C=some (excClassObj nm q C N bs bm hdct sn sub ab col dd k0 k1 k2 k3 k5 newId)) (hn:h.Ns N mN) (hni:mN "__init__" = some (.ref fI)) (hb:∀ self,BG (model prog w) h (bindSpecial (.ref fI) self) (.ref fI,[self]))
  (hq:codeAny (model prog w) A (.call (.ref fI) ⟨.ref (h.objs.size + 1) :: qbl,[]⟩) (PySem.W.InitBack (h.objs.size + 1) R) ⟨(h.push (qgd qbl)).push (qen C h.objs.size),g,d,t,os⟩) (hrest:qbl.length <= A0) :
  wpAny (model prog w) A (AM.«type.__call__» ⟨.ref C :: qbl,[]⟩) (λfin s'=>match fin with | .done f=>R (.ok f) s' | .again c'=>c'.quiet=true/\codeAny (model prog w) A' c' R s') (λe s'=>R (.error e) s') ⟨h,g,d,t,os⟩:=by
 repeat (first | with_reducible refine wpAny_loadPart_at hC ?_ | with_reducible refine wpAny_madeBy_exc hC ?_ | wp_step)
 refine codeAny_call_builtin_code (Code.quiet_builtin _ Fn.quiet) (wpAny_check_new_subU Fn hBn T hC ?_)
 refine codeAny_exc_new_subU Fn hBn F T hC ?_ hrest
 show wpAny _ _ _ _ _ _
 have kk:∀ b o,h.get? b=some o->((h.push (qgd qbl)).push (qen C h.objs.size)).get? b=some o:=λb o e=>Am _ (Am _ e)
 have hC₁:=kk _ _ hC
 have hn₁:((h.push (qgd qbl)).push (qen C h.objs.size)).Ns N mN:=let ⟨o,es,ep,e,r⟩:=hn; ⟨o,es,ep,kk _ _ e,r⟩
 have hget:((h.push (qgd qbl)).push (qen C h.objs.size)).get? (h.objs.size + 1)=some (qen C h.objs.size):=by heap_get
 have hcC:(Al C :: bm).contains (.ref C)=true:=by simp
 have T₁:=T.keeps (h':=(h.push (qgd qbl)).push (qen C h.objs.size)) kk
 have b1:=(hb (.ref (h.objs.size + 1))).keeps kk
 unfold isInstance
 repeat (first | with_reducible refine wpAny_loadPart_at hget ?_ | (with_reducible refine wpAny_isSubtype_exc hC₁ ?_; rw [hcC]) | wp_step)
 show wpAny _ _ (typeLookup (.ref C) _) _ _ _
 refine wpAny_typeLookup_tail hC₁ hn₁ T₁ F.mroIs F.init.lookup ?_
 rw [hni]
 refine Cg (Ad (b1.here ?_))
 refine Ad (CU (CV hq λr s' z => ?_))
 rcases r with e | (v | _ | _ | _) <;> first | exact z | exact z.elim | skip
 obtain ⟨rfl,z⟩:=z
 exact A2 (A2 z)
end
section
open PySem.W
variable {prog:AN} {w:World} {A:AX} {E:Value->Ah->Prop} {s:Ah} {K:Frag} {x C:Addr} {ox:Obj} {od:Option Obj} {name:Str} {expr:Bool}
theorem qwm:builtinKind "BaseException.__getattribute__" = some .slot:=En
theorem qt3:splitId "BaseException.__getattribute__" = some ("BaseException", "__getattribute__"):=En
theorem qy3:(Value.builtin "BaseException.__getattribute__" == Value.builtin "object.__getattribute__")=false:=En
structure XGet (K:Frag) (C:Addr):Prop where
 ga:findIn K (.ref C) "__getattribute__" = some (some (.builtin "BaseException.__getattribute__"))
 hk:findIn K (.ref C) "__getattr__" = some none
 sub:mroIn K C (.type "BaseException")=some true
theorem qt4 {fill:Bool} {tk:Tok} {Q:Value->Ah->Prop} (X:K.In s.heap) (I:InstAt s.heap x ox C od) (c:XGet K C)
  (h:wpAny (model prog w) A.in1 (AM.«object.__getattribute__» ⟨[.ref x,.str name tk],[]⟩)
   (λfin s'=>match fin with | .done (.ret v)=>wpAny (model prog w) A (handedOut v) Q E s' | _=>False) (λ_ _=>False) s) :
  wpAny (model prog w) A (getAttrBy (.ref x) (.str name tk) fill expr) Q E s:=by
 obtain ⟨hh,g,d,t,os⟩:=s
 have L0:=I.type (M:=model prog w)
 have L1:=looks_findIn (M:=model prog w) X c.ga
 have L2:=looks_findIn (M:=model prog w) X c.hk
 have sb:Looks (model prog w) hh (isInstance (.ref x) (.type "BaseException")) true:=L0.andThen (looks_mroIn X c.sub)
 unfold getAttrBy
 refine Cg (Ad (L0.at (Ad (L1.at ?_))))
 dsimp only
 rw [qy3,CQ,if_neg Ez]
 unfold getAttrByItsOwn hookBefore
 refine Ad ?_
 show wpAny _ _ (typeLookup (.ref C) "__getattr__") _ _ _
 refine L2.at (Ad (wpAny_attempt (Cg ?_)))
 have e1:callGetattribute (.ref x) (.str name tk) (.builtin "BaseException.__getattribute__") expr=boundAndCalled (.builtin "BaseException.__getattribute__") (.ref x) (.str name tk):=by
  cases expr <;> rfl
 rw [e1]
 unfold boundAndCalled
 rw [PySem.F.attr_ValueError.ga.bind (.ref x)]
 refine Ad (A2 (CU ?_))
 refine DV PySem.F.attr_ValueError.ga.plain PySem.F.entry_bexc_ga (@check_slot (model prog w) _ _ ⟨hh,g,d,t,os⟩ "BaseException.__getattribute__" "BaseException" "__getattribute__" (.ref x) [.str name tk] [] _ qwm qt3 sb (PySem.F.args_bexc_ga (.ref x) (.str name tk)) ?_)
 refine BO h (λfin s' z => ?_) λ_ _ z=>z.elim
 rcases fin with (_ | _ | _ | _) | _ <;> first | exact z | exact z.elim
theorem qt5 {Q:Value->Ah->Prop} (X:K.In s.heap) (I:InstAt s.heap x ox C od) (c:XGet K C)
  (h:wpAny (model prog w) A.in1 (AM.«object.__getattribute__» ⟨[.ref x,.str name s.toks],[]⟩)
   (λfin s'=>match fin with | .done (.ret v)=>wpAny (model prog w) A (handedOut v) Q E s' | _=>False) (λ_ _=>False) { s with toks:=s.toks + 1 }) :
  wpAny (model prog w) A (getAttr (.ref x) name expr) Q E s:=by
 unfold getAttr
 exact Ad (wpAny_mkText (qt4 (s:={ s with toks:=s.toks + 1 }) X I c h))
theorem qr3 {v:Value} {Q:Value->Ah->Prop} (X:K.In s.heap) (I:InstAt s.heap x ox C od) (c:XGet K C) (hf:findObj K C od name=some (.value v)) (hh:handedIn v=true) (h:Q v { s with toks:=s.toks + 1 }) :
  wpAny (model prog w) A (getAttr (.ref x) name expr) Q E s:=by
 refine qt5 X I c ?_
 obtain ⟨hh',g,d,t,os⟩:=s
 have L0:=I.type (M:=model prog w)
 have L1:=looks_find (M:=model prog w) X I hf
 unfold AM.«object.__getattribute__»
 refine Ad (A2 (Ad (A2 (Ad (L0.at (Ad (L1.at ?_)))))))
 refine A2 ?_
 show wpAny _ _ (handedOut v) _ _ _
 rw [handedOut_of hh]; exact A2 h
end
section
open PySem.W
variable {prog:AN} {w:World} {A:AX} {E:Value->Ah->Prop} {s:Ah} {K:Frag} {x C:Addr} {ox:Obj} {od:Option Obj} {name:Str} {expr:Bool}
structure XIs (K:Frag) (C:Addr):Prop extends XGet K C where
 dct:hasDictIn K C=true
 cls:findIn K (.ref C) "__class__" = some (some (.builtin "object.__class__"))
 get:specialIn K (.builtin "object.__class__") "__get__" = some (some (.builtin "getset_descriptor.__get__"))
 tak:takesIn K (.builtin "object.__class__")=some true
 obj:mroIn K C (.type "object")=some true
theorem qpo (c:XIs K C):findObj K C od "__class__" = some (.bind (.builtin "getset_descriptor.__get__") (.builtin "object.__class__")):=by
 obtain ⟨cd,hc,_⟩:=any_some c.dct
 unfold findObj
 rw [hc,Ce,c.cls,Ce]
 dsimp only
 rw [c.get,Ce]
 dsimp only
 rw [c.tak,Ce]
theorem qpp {M:Model} {h:Heap} (c:hasDictIn K C=true) (X:K.In h):Looks M h (isType (.ref C)) true:=by
 obtain ⟨cd,hc,_⟩:=any_some c
 unfold clsIn at hc
 split at hc
 .rename_i c' d' cd' sl' ho
  intro A' Q' E' s' k q
  unfold isType loadHead
  exact Ad (Ek (k _ _ (X _ _ ho)) (A2 q))
 .cases hc
theorem qwn {h:Heap} {tp:Addr} {dd:Option Addr} {its:List Value} {n:Nat} {sl:Array (Option Value)} (c:hasDictIn K C=true) (X:K.In h) (htp:h.get? tp=some ⟨.type "tuple",dd,.seq its.toArray n,sl⟩):(Al C == .ref tp)=false:=by
 obtain ⟨cd,hc,_⟩:=any_some c
 refine DB.mpr λq => ?_
 have e:C=tp:=Al.inj (beq_iff_eq.mp q)
 subst e
 unfold clsIn at hc
 split at hc
 .rename_i c' d' cd' sl' ho
  have z:=(X _ _ ho).symm.trans htp
  cases z
 .cases hc
theorem qr4 {Q:Option Value->Ah->Prop} (X:K.In s.heap) (I:InstAt s.heap x ox C od) (c:XIs K C) (h:Q (some (.ref C)) { s with toks:=s.toks + 1 }):wpAny (model prog w) A (getAttr? (.ref x) "__class__") Q E s:=by
 unfold getAttr? getAttrBy?
 refine Ad (wpAny_mkText (Ad (wpAny_attempt (qt4 (s:={ s with toks:=s.toks + 1 }) X I c.toXGet ?_))))
 obtain ⟨hh',g,d,t,os⟩:=s
 have L0:=I.type (M:=model prog w)
 have L1:=looks_find (M:=model prog w) X I (qpo (od:=od) c)
 unfold AM.«object.__getattribute__»
 refine Ad (A2 (Ad (A2 (Ad (L0.at (Ad (L1.at ?_)))))))
 show wpAny _ _ (AM.ObjectAttr.bindTo (.builtin "getset_descriptor.__get__") (.builtin "object.__class__") (.ref x) (.ref C)) _ _ _
 unfold AM.ObjectAttr.bindTo
 refine Ad (Cg (CU (class_get (s:=⟨hh',g,d,t + 1,os⟩) (ox:=ox) (od:=od) X I c.obj ?_)))
 refine A2 ?_
 show wpAny _ _ (handedOut (.ref C)) _ _ _
 rw [handedOut_of rfl]
 exact A2 (A2 h)
theorem qod (c:XIs K C):KitX K (.ref x) (.ref C) (λh=>∃ ox od,InstAt h x ox C od) where
 ty:=λ_ _ _ ⟨_,_,I⟩=>I.type
 it:=λ_ _ X _=>qpp c.dct X
 ne:=λh tp dd its n sl X htp=>qwn c.dct X htp
 ca:=λX ⟨_,_,I⟩ k=>qr4 X I c k
noncomputable abbrev VE:List Value:=[.type "ValueError",.type "Exception",.type "BaseException",.type "object"]
noncomputable def qoe:List Value->Bool
 | .ref _ :: r=>qoe r
 | l=>l == VE
theorem qkg (self:Value):∀ {l:List Value},qoe l=true->refuseLoop self "__setattr__" l=pure ()/\l.isEmpty=false/\l.contains (.type "object")=true
 | [],e=>by cases e
 | .ref c :: r,e=>by
  obtain ⟨a,b,d⟩:=qkg self (l:=r) e
  exact ⟨by rw [refuseLoop_ref]; exact a,rfl,by rw [List.contains_cons,d,Bool.or_true]⟩
 | .type n :: r,e=>by
  have e':(.type n :: r:List Value)=VE:=beq_iff_eq.mp e
  rw [e']
  exact ⟨PySem.F.store_ValueError.passes self,rfl,Ez⟩
 | .none :: r,e=>by have e':=beq_iff_eq.mp (show ((.none :: r:List Value) == VE)=true from e); cases e'
 | .bool _ :: r,e=>by have e':=beq_iff_eq.mp (show ((.bool _ :: r:List Value) == VE)=true from e); cases e'
 | .int _ _ :: r,e=>by have e':=beq_iff_eq.mp (show ((.int _ _ :: r:List Value) == VE)=true from e); cases e'
 | .float _ _ :: r,e=>by have e':=beq_iff_eq.mp (show ((.float _ _ :: r:List Value) == VE)=true from e); cases e'
 | .str _ _ :: r,e=>by have e':=beq_iff_eq.mp (show ((.str _ _ :: r:List Value) == VE)=true from e); cases e'
 | .bytes _ _ :: r,e=>by have e':=beq_iff_eq.mp (show ((.bytes _ _ :: r:List Value) == VE)=true from e); cases e'
 | .builtin _ :: r,e=>by have e':=beq_iff_eq.mp (show ((.builtin _ :: r:List Value) == VE)=true from e); cases e'
end
section
open PySem.W
variable {prog:AN} {w:World} {A:AX} {E:Value->Ah->Prop} {s:Ah} {K:Frag} {x C:Addr} {o:Obj} {name:Str} {v:Value}
structure XSet (K:Frag) (C:Addr) (name:Str):Prop where
 sa:findIn K (.ref C) "__setattr__" = some (some (.builtin "object.__setattr__"))
 no:findIn K (.ref C) name=some none
 cd:((clsIn K C).any λcd=>qoe cd.mro && cd.hasDict)=true
theorem qwo {tk:Tok} {R:Result->Ah->Prop} (X:K.In s.heap) (hx:s.heap.get? x=some o) (hc:o.cls=.ref C) (c:XSet K C name)
  (h:wpAny (model prog w) A.in1 (AM.ObjectAttr.storeInOwnDict (.ref x) (.ref C) (.str name tk) name v false)
   (λfin s'=>match fin with | .done f=>R (.ok f) s' | .again c'=>c'.quiet=true/\codeAny (model prog w) A c' R s') (λe s'=>R (.error e) s') s) :
  codeAny (model prog w) A (.call (.builtin "object.__setattr__") ⟨[.ref x,.str name tk,v],[]⟩) R s:=by
 have SF:=PySem.F.store_object
 obtain ⟨cd,hcd,ho⟩:=any_some c.cd
 simp only [AC] at ho
 obtain ⟨rf,ne,has⟩:=qkg (.ref x) ho.1
 have L0:Looks (model prog w) s.heap (typeOf (.ref x)) (.ref C):=hc ▸ (Looks.ld hx).andThen .now
 have sub:Looks (model prog w) s.heap (isInstance (.ref x) (.type "object")) true:=L0.andThen (looks_mroIn X (by unfold mroIn; rw [hcd,Ce,if_neg (by rw [ne]; decide),has]))
 have hm:Looks (model prog w) s.heap (mroOf (.ref C)) cd.mro:=(looks_clsIn X hcd).andThen .now
 have LN:=looks_findIn (M:=model prog w) X c.no
 refine DV SF.slot.plain SF.entry (@check_slot (model prog w) _ _ s "object.__setattr__" "object" "__setattr__" (.ref x) [.str name tk,v] [] _ SF.kind SF.split sub (SF.args (.ref x) (.str name tk) v) ?_)
 rw [osa_eq,refuse_eq]
 refine Ad (Ad (L0.here (Ad (hm.here ?_))))
 rw [rf]
 refine A2 (Ad (L0.here (Ad (LN.here (Ad (A2 ?_))))))
 exact h
noncomputable abbrev qc8 (C:Addr) (od:Option Addr) (vs:Array Value) (sl:Array (Option Value)):Obj:={ cls:=.ref C,dict:=od,data:=.fields vs,slots:=sl }
theorem qt6 {Q:Unit->Ah->Prop} {od:Option Addr} {vs:Array Value} {sl:Array (Option Value)} (X:K.In s.heap) (hx:s.heap.get? x=some (qc8 C od vs sl)) (c:XSet K C name)
  (h:wpAny (model prog w) A.in1 (AM.ObjectAttr.storeInOwnDict (.ref x) (.ref C) (.str name s.toks) name v false) (λfin s'=>fin=.done (.ret .none)/\Q () s') (λ_ _=>False) { s with toks:=s.toks + 1 }) :
  wpAny (model prog w) A (setAttr (.ref x) name v) Q E s:=by
 have L0:Looks (model prog w) s.heap (typeOf (.ref x)) (.ref C):=(Looks.ld hx).andThen .now
 have LS:=looks_findIn (M:=model prog w) X c.sa
 refine Ad (wpAny_mkText (Ad (Ad (Ad (L0 _ _ _ _ (λ_ _ e=>e) (LS _ _ _ _ (λ_ _ e=>e) (Cg ?_)))))))
 rw [PySem.F.store_object.slot.bind]
 refine Ad (A2 (Ad (CU (qwo (s:={ s with toks:=s.toks + 1 }) X hx rfl c (BO h (λfin s' z => ?_) λ_ _ z=>z.elim)))))
 obtain ⟨rfl,z⟩:=z
 exact A2 (A2 z)
theorem qt7 {Q:Unit->Ah->Prop} {vs:Array Value} {sl:Array (Option Value)} (X:K.In s.heap) (hx:s.heap.get? x=some (qc8 C none vs sl)) (c:XSet K C name)
  (h:∀ h' tk',h'.get? x=some (qc8 C (some s.heap.objs.size) vs sl)->h'.Ns1 s.heap.objs.size (λy=>if y=name then some v else none)->(∀ b ob,b ≠ x->s.heap.get? b=some ob->h'.get? b=some ob)->Q () { s with heap:=h',toks:=tk' }) :
  wpAny (model prog w) A (setAttr (.ref x) name v) Q E s:=by
 obtain ⟨cd,hcd,ho⟩:=any_some c.cd
 simp only [AC] at ho
 refine qt6 X hx c ?_
 obtain ⟨hp,g,d,t,os⟩:=s
 unfold AM.ObjectAttr.storeInOwnDict AM.ObjectAttr.ownDictForStores instanceDict
 refine Ad (A2 (Ad (Ad (Ek hx (Ad ((looks_clsIn X hcd).at ?_))))))
 rw [ho.2]
 have hxs:x ≠ hp.objs.size:=AJ (A3 hx)
 have hx1:(hp.push emptyDict).get? x=some (qc8 C none vs sl):=Am _ hx
 show wpAny _ _ (alloc emptyDict >>= _) _ _ _
 refine Ad (wpAny_alloc' (Ad (wpAny_update' hx1 ?_)))
 refine A2 ?_
 have hgd:((hp.push emptyDict).update x λo=>{ cls:=o.cls,dict:=some hp.objs.size,data:=o.data,slots:=o.slots }).get? hp.objs.size=some emptyDict:=(Heap.get?_update_ne _ _ _ _ hxs.symm).trans (Heap.get?_push_at rfl rfl)
 have hnd:((hp.push emptyDict).update x λo=>{ cls:=o.cls,dict:=some hp.objs.size,data:=o.data,slots:=o.slots }).Ns hp.objs.size (λ_=>none):=⟨_,#[],_,hgd,rfl,λe he=>absurd he (by simp),λ_=>rfl⟩
 show wpAny _ _ (AM.ObjectAttr.storeInDict hp.objs.size (.str name t) name v) _ _ _
 unfold AM.ObjectAttr.storeInDict AM.ObjectAttr.newKeyGuard
 refine Ad (A2 (Ad (wpAny_nsSet1 (Heap.Ns1.of_empty hnd) λh' hn' hs => ?_)))
 obtain ⟨oD,esD,epD,hoD,hdD,hcD⟩:=hn'.count (Within.cons name v Within.nil)
 refine Ad (wpAny_lookBehind hoD (by rw [hdD]; exact pastItsLine_dict (Au hcD (by rw [Aq,Cn,Bf]; lia))) ?_)
 refine A2 ⟨rfl,h h' _ ?_ hn' λb ob hb e => ?_⟩
 .exact (hs.2 x hxs).trans (B8 _ hx1 rfl)
 .exact (hs.2 b (AJ (A3 e))).trans ((Heap.get?_update_ne _ _ _ _ hb).trans (Am _ e))
theorem qt8 {Q:Unit->Ah->Prop} {dx:Addr} {vs:Array Value} {sl:Array (Option Value)} {mA:Str->Option Value} {ns:List Str} (X:K.In s.heap) (hx:s.heap.get? x=some (qc8 C (some dx) vs sl)) (hn:s.heap.Ns1 dx mA) (hne:dx ≠ x) (hw:Within mA ns) (hsz:ns.length <= 1000) (c:XSet K C name)
  (h:∀ h' tk',h'.Ns1 dx (λy=>if y=name then some v else mA y)->Cq dx s.heap h'->Q () { s with heap:=h',toks:=tk' }) :
  wpAny (model prog w) A (setAttr (.ref x) name v) Q E s:=by
 obtain ⟨cd,hcd,ho⟩:=any_some c.cd
 simp only [AC] at ho
 refine qt6 X hx c ?_
 obtain ⟨hp,g,d,t,os⟩:=s
 unfold AM.ObjectAttr.storeInOwnDict AM.ObjectAttr.ownDictForStores instanceDict
 refine Ad (A2 (Ad (Ad (Ek hx (Ad ((looks_clsIn X hcd).at ?_))))))
 rw [ho.2]
 refine A2 (a:=some dx) ?_
 show wpAny _ _ (AM.ObjectAttr.storeInDict dx (.str name t) name v) _ _ _
 unfold AM.ObjectAttr.storeInDict AM.ObjectAttr.newKeyGuard
 refine Ad (A2 (Ad (wpAny_nsSet1 hn λh' hn' hs => ?_)))
 obtain ⟨oD,esD,epD,hoD,hdD,hcD⟩:=hn'.count (Within.cons name v hw)
 refine Ad (wpAny_lookBehind hoD (by rw [hdD]; exact pastItsLine_dict (Au hcD (by rw [Aq,Bf]; lia))) ?_)
 exact A2 ⟨rfl,h h' _ hn' hs⟩
end
noncomputable def qof (K:Ae) (C:Addr) (ini:Option Value):Bool:=match K.lookup C with
 | some ⟨.type "type",_,.cls cd,sl⟩=>(match cd.mro,sl.toList with
  | .ref C' :: bm,[_,_,_,_,some (.builtin n),_]=>C' == C && n == "ValueError.__new__" && !cd.hasDel && PySem.W.tailIn K VE bm && PySem.W.nsOkIn K cd.ns && AA K cd.ns "__init__" == some ini
  | _,_=>false)
 | _=>false
theorem ns_in {K:Ae} {h:Heap} {N:Addr} {mg:Str->Option Value} {n:Str} {v:Value} (X:K.In h) (G:h.Ns N mg) (e:AA K N n=some (some v)):mg n=some v:=by
 obtain ⟨o,es,ep,ho,hd,_,hf⟩:=G
 unfold AA at e
 split at e
 .rename_i c d es' n' sl q
  have:=X _ _ q
  rw [ho] at this
  cases this
  cases hd
  split at e
  .rename_i en he
   cases e
   rw [<- hf]
   unfold nsFind findBy
   rw [<- Array.find?_toList,he]
   rfl
  .split at e <;> cases e
 .cases e
theorem qyc {K:Ae} {h:Heap} {C:Addr} {ini:Option Value} (X:K.In h) (q:qof K C ini=true):∃ (bm:List Value) (N:Addr) (nm qn:Str) (bs:List Value) (hd:Bool) (sn:List Str) (sub:List Value) (ab:Bool) (col:Option Bool) (dd:Option Addr) (k0 k1 k2 k3 k5:Option Value) (mN:Str->Option Value),
  h.get? C=some (excClassObj nm qn C N bs bm hd sn sub ab col dd k0 k1 k2 k3 k5 "ValueError.__new__")/\h.Ns N mN/\mN "__init__" = ini/\OwnTail h VE bm:=by
 unfold qof at q
 split at q
 .rename_i dd cd sl ho
  split at q
  .rename_i C' bm k0 k1 k2 k3 n k5 hm hs
   simp only [AC,beq_iff_eq,Bool.not_eq_true'] at q
   obtain ⟨⟨⟨⟨⟨rfl,rfl⟩,hdel⟩,ht⟩,hok⟩,hni⟩:=q
   obtain ⟨nm,bs,mro,ns,qn,hd,sn,sub,ab,col,del⟩:=cd
   dsimp only at hm hdel hok hni
   subst hm hdel
   have hsl:sl=#[k0,k1,k2,k3,some (.builtin "ValueError.__new__"),k5]:=by
    obtain ⟨l⟩:=sl
    simp only at hs
    rw [hs]
   subst hsl
   have G:h.Ns ns (h.nsMap ns):=.of_isNs (PySem.W.isNs_of_in X hok)
   refine ⟨bm,ns,nm,qn,bs,hd,sn,sub,ab,col,dd,k0,k1,k2,k3,k5,_,X _ _ ho,G,?_,PySem.W.tail_of_in X ht⟩
   cases ini with
   | none=>exact PySem.W.ns_none_of X G hni
   | some v=>exact ns_in X G hni
  .cases q
 .cases q
section
variable {prog:AN} {w:World} {A:AX} {E:Value->Ah->Prop} {K:Ae} {C fI:Addr} {s:Ah} {qbl:List Value}
theorem qt9 {R:Result->Ah->Prop} {nm q:Str} {N:Addr} {bs bm:List Value} {hdct:Bool} {sn:List Str} {sub:List Value} {ab:Bool} {col:Option Bool} {dd:Option Addr} {k0 k1 k2 k3 k5:Option Value} {newId:String}
  (hC:s.heap.get? C=some (excClassObj nm q C N bs bm hdct sn sub ab col dd k0 k1 k2 k3 k5 newId))
  (h:wpAny (model prog w) (A.under (.builtin "type.__call__" ⟨.ref C :: qbl,[]⟩)) (AM.«type.__call__» ⟨.ref C :: qbl,[]⟩)
   (λfin s'=>match fin with | .done f=>R (.ok f) s' | .again c'=>c'.quiet=true/\codeAny (model prog w) A c' R s') (λe s'=>R (.error e) s') s) :
  codeAny (model prog w) A (.call (.ref C) ⟨qbl,[]⟩) R s:=by
 obtain ⟨hp,g,d,t,os⟩:=s
 have f1:=tc_lookup
 have f2:=tc_bind (.ref C)
 have hT:(⟨hp,g,d,t,os⟩:Ah).TypeIs (.ref C) "type" := ⟨_,hC,rfl⟩
 refine codeAny_of_tree ?_
 show wpAny _ _ (callAny (.ref C) _) _ _ _
 repeat (any_goals (first | assumption | with_reducible refine wpAny_loadPart_at hC ?_ | wp_step))
 refine ⟨rfl,?_⟩
 exact codeAny_call_builtin_at (Code.quiet_builtin _ En) entry_typeCall (wpAny_check_type_call_sub hC h)
theorem qua {R:Result->Ah->Prop} (X:K.In s.heap) (c:qof K C (some (.ref fI))=true) (hf:Ci K (.ref fI)=some (.type "function")) (hrest:qbl.length <= A0)
  (h:codeAny (model prog w) (A.under (.builtin "type.__call__" ⟨.ref C :: qbl,[]⟩)) (.call (.ref fI) ⟨.ref (s.heap.objs.size + 1) :: qbl,[]⟩) (PySem.W.InitBack (s.heap.objs.size + 1) R)
   { s with heap:=(s.heap.push (qgd qbl)).push (qen C s.heap.objs.size) }) :
  codeAny (model prog w) A (.call (.ref C) ⟨qbl,[]⟩) R s:=by
 obtain ⟨bm,N,nm,qn,bs,hd,sn,sub,ab,col,dd,k0,k1,k2,k3,k5,mN,hC,hn,hi,T⟩:=qyc X c
 obtain ⟨hp,g,d,t,os⟩:=s
 exact qt9 hC (qll Dh Ez Dh T hC hn hi (λself=>PySem.W.bind_fn X self hf) h hrest)
end
noncomputable abbrev Sz6 (vs:Array Value):Prop:=vs.size=6/\vs[2]?=some .none
noncomputable def exO (x C:Addr) (od:Option Addr) (fr:Bool):HO:=.ext λh=>∃ (vs:Array Value) (sl:Array (Option Value)),h.get? x=some (qc8 C od vs sl)/\Sz6 vs/\(fr=true->sl=#[]/\∃ t:Addr,vs=#[.ref t,.none,.none,.none,.bool false,.none])
noncomputable def exD (dx:Addr) (fs:List (Str × V)):HO:=.ext λh=>∃ mA,h.Ns1 dx mA/\(∀ f,RelO (fs.lookup f) (mA f))/\Dk mA (fs.map (·.1))
section
variable {P:AN} {w:World} {H:Hp} {h:Heap} {x C dx:Addr} {od:Option Addr} {fr:Bool} {fs:List (Str × V)}
theorem qm9 {vs:Array Value} {sl:Array (Option Value)} (e:h.get? x=some (qc8 C od vs sl)) (z:Sz6 vs) (f:fr=true->sl=#[]/\∃ t:Addr,vs=#[.ref t,.none,.none,.none,.bool false,.none]):ObjOk P w H h x (exO x C od fr) :=
 ⟨⟨vs,sl,e,z,f⟩,⟨_,e⟩,λ_ h2 ⟨vs,sl,e,z,f⟩ k=>⟨vs,sl,k _ e,z,f⟩⟩
theorem qub {mA:Str->Option Value} (n:h.Ns1 dx mA) (r:∀ f,RelO (fs.lookup f) (mA f)) (wi:Dk mA (fs.map (·.1))):ObjOk P w H h dx (exD dx fs) :=
 ⟨⟨mA,n,r,wi⟩,let ⟨o,_,_,e,_⟩:=n; ⟨o,e⟩,λ_ h2 ⟨mA,n,r,wi⟩ k=>⟨mA,n.at λo q=>k o q,r,wi⟩⟩
theorem qeo (ok:HOk P w H h) (e:H x=some (exO x C od fr)):∃ vs sl,h.get? x=some (qc8 C od vs sl)/\Sz6 vs/\(fr=true->sl=#[]/\∃ t:Addr,vs=#[.ref t,.none,.none,.none,.bool false,.none]):=(ok x _ e).1
theorem qna (ok:HOk P w H h) (e:H dx=some (exD dx fs)):∃ mA,h.Ns1 dx mA/\(∀ f,RelO (fs.lookup f) (mA f))/\Dk mA (fs.map (·.1)):=(ok dx _ e).1
theorem qyd (ok:HOk P w H h) (e:H x=some (exO x C od fr)) (e':H dx=some (exD dx fs)):dx ≠ x:=λz=>by
 obtain ⟨vs,sl,q,_⟩:=qeo ok e
 obtain ⟨mA,⟨o,es,ep,q',d,_⟩,_⟩:=qna ok e'
 rw [z,q] at q'
 cases q'
 cases d
end
theorem qog {H:Hp} {a:Addr} {o:HO} (h:H a=some o):upd H a o=H:=by
 funext b
 unfold upd
 by_cases e:b=a
 .rw [if_pos e,e,h]
 .rw [if_neg e]
section
variable {X:Cx} {pins:List (Addr × Obj)} {σ:L2.St} {H:Hp} {s:Ah} {A:AX} {E:Value->Ah->Prop}
theorem qwp {C t:Addr} {h':Heap} {tk:Nat} (I:Inv X pins σ H s) (k:∀ b o,s.heap.get? b=some o->h'.get? b=some o) (e:h'.get? (s.heap.objs.size + 1)=some (qen C t)) :
  Inv X pins σ (upd H (s.heap.objs.size + 1) (exO (s.heap.objs.size + 1) C none true)) { s with heap:=h',toks:=tk } :=
 I.laid (a:=s.heap.objs.size + 1) k (Cv _) (qm9 (vs:=#[.ref t,.none,.none,.none,.bool false,.none]) (sl:=#[]) e ⟨rfl,rfl⟩ λ_=>⟨rfl,t,rfl⟩)
noncomputable def tExcI (C:Addr) (sp:Sp) (dvs:List V) (E:XK) (t:TA):TE:=λσ H Q=>t σ H λvs H1=>vs.length <= A0/\∀ x,H1 x=none->sp (.ref x :: (vs ++ dvs)) (upd H1 x (exO x C none true)) (λv H2=>v=.non/\Q (.ref x) H2) E
variable {CX:CXT} {k:Nat} {f:Addr} {fd:AD} {ps:List Str} {sp:Sp} {ds:List Value} {dvs:List V} {EX:XK}
theorem qec {C:Addr} {x:Str} {p pos:Pos} {e:Expr} {es:List Expr} {t:TA} (c:qof X.K C (some (.ref f))=true) (hf:Ci X.K (.ref f)=some (.type "function")) (F:FnOk X.prog X.w X.K X.mg X.base CX k f fd ps sp) (hr:Room (k + 1) X.A) (hg:Gl X x) (hm:X.mg x=some (.ref C))
  (hk:Be X.K (.ref C)=true) (hb:Binds X.K fd ps ds) (hd:Vals dvs ds) (hx:qf3 CX X EX) (ha:PA X (e :: es) t)
  (hdb:(x == ("__debug__" : Str))=false:=by decide) (he:starEach (e :: es) X.env=(false,eval e X.env) :: starEach es X.env:=by rfl) (hpl:(backTo pos (starEach es X.env)).any (·.1)=false:=by rfl) :
  PE X (.Call (.Name x p) (e :: es) [] pos) (tExcI C sp dvs EX t):=by
 intro pins s0 σ H0 Q I0 h
 refine BJ (qey I0 hg hm ?_ hdb)
 refine CW (h₀:=X.base) I0.ok.mod.kin hk (thn (ha pos pins s0 σ H0 _ I0 h) λus s ⟨vs,H,I,r,hz,q⟩=>⟨I.kIn,?_⟩) he hpl
 have hl0:=r.length
 have hq:=q (s.heap.objs.size + 1) (I.hok.fresh (Cv _))
 have hget:((s.heap.push (qgd us)).push (qen C s.heap.objs.size)).get? (s.heap.objs.size + 1)=some (qen C s.heap.objs.size):=by heap_get
 have I2:=qwp (C:=C) (t:=s.heap.objs.size) (h':=(s.heap.push (qgd us)).push (qen C s.heap.objs.size)) (tk:=s.toks) I (λb o e=>Am _ (Am _ e)) hget
 have r2:Vals (V.ref (s.heap.objs.size + 1) :: (vs ++ dvs)) (Al (s.heap.objs.size + 1) :: (us ++ ds)):=.cons rfl (r.append hd)
 have hl:(Al (s.heap.objs.size + 1) :: us ++ ds).length=ps.length:=by
  have e:=r2.length
  rw [F.len _ _ _ _ hq] at e
  exact e.symm
 refine CU (qua I.kIn c hf (by show us.length <= _; lia) (CV (F.run _ X.stack _ _ ⟨Al (s.heap.objs.size + 1) :: us,[]⟩ (Al (s.heap.objs.size + 1) :: (us ++ ds)) _ _ EX (hr.make C us [])
  (I2.env0.make C us []) (hb _ (Al (s.heap.objs.size + 1) :: us) I2.kIn hl) r2 hq) λr s' hq' => ?_))
 cases r with
 | error e=>exact hx pins σ _ _ e s' I2 hq'
 | ok fl =>
  cases fl with
  | ret u =>
   obtain ⟨v,H',I3,rv,ev,q3⟩:=I2.after hq'
   subst ev
   exact ⟨rv,⟨V.ref (s.heap.objs.size + 1),H',I3,rfl,q3⟩⟩
  | next=>exact B6 hq'
  | brk=>exact B6 hq'
  | cont=>exact B6 hq'
theorem qq1 {h:Heap} {x C:Addr} {od:Option Addr} {vs:Array Value} {sl:Array (Option Value)} (e:h.get? x=some (qc8 C od vs sl)) (d:∀ dx,od=some dx->∃ o,h.get? dx=some o):∃ ox od,PySem.W.InstAt h x ox C od:=by
 cases od with
 | none=>exact ⟨_,none,e,rfl,rfl,trivial⟩
 | some dx =>
  obtain ⟨o,ho⟩:=d dx rfl
  exact ⟨_,some o,e,rfl,rfl,ho⟩
noncomputable def exHas (H:Hp):Option Addr->Prop
 | none=>True
 | some dx=>∃ fs,H dx=some (exD dx fs)
theorem exHas.at {P:AN} {w:World} {H:Hp} {h:Heap} {od:Option Addr} (ok:HOk P w H h) (e:exHas H od):∀ dx,od=some dx->∃ o,h.get? dx=some o:=λdx z=>by
 subst z
 obtain ⟨fs,q⟩:=e
 obtain ⟨mA,⟨o,_,_,e,_⟩,_⟩:=qna ok q
 exact ⟨o,e⟩
theorem qcv:qel X (.builtin "isinstance") (λxs H Q=>∃ (x C:Addr) (od:Option Addr) (fr:Bool) (c:V) (cv:Value) (b:Bool),xs=[.ref x,c]/\H x=some (exO x C od fr)/\exHas H od/\XIs X.K C/\((∃ n,c=.ty n/\cv=.type n) \/ ∃ D,c=.ref D/\cv=.ref D) /\
  BC X.K (.ref C) cv=some b/\Q (.bl b) H):=by
 intro pins s σ H xs us Q I r h
 obtain ⟨x,C,od,fr,c,cv,b,rfl,e,hs,ci,hc,kk,q⟩:=h
 obtain ⟨u,u',rfl,r1,r2⟩:=Vals.two r
 cases r1
 have hu:u'=cv:=by
  rcases hc with ⟨n,rfl,rfl⟩ | ⟨D,rfl,rfl⟩
  .exact r2
  .exact r2
 subst hu
 obtain ⟨vs,sl,e1,_⟩:=qeo I.hok e
 exact BK (qod ci) I.kIn (qq1 e1 (exHas.at I.hok hs)) kk (λz=>nomatch z) λtk=>⟨.bl b,H,I.tok tk,rfl,q⟩
end
section
variable {X:Cx} {pins:List (Addr × Obj)} {σ:L2.St} {H:Hp} {s:Ah} {E:Value->Ah->Prop}
structure XBase (K:Ae) (B:Addr):Prop where
 ga:D8 K (.ref B) "__getattribute__" = some (some (.builtin "type.__getattribute__"))
 rd:PySem.W.readsIn K B (.type "type")=true
 at_:PySem.W.findCls K (.ref B) (.type "type") "__init__" = some (.val (.builtin "ValueError.__init__"))
noncomputable def qy4 (K:Ae) (t:TA):TE:=λσ H Q=>t σ H λvs H1=>∃ (x C:Addr) (od:Option Addr) (qbl:List V) (ini:Option Value),vs=.ref x :: qbl/\H1 x=some (exO x C od true)/\qof K C ini=true/\qbl.length <= A0/\Q .non H1
theorem qr5 {A:AX} {x C:Addr} {od:Option Addr} {qbl:List Value} {ini:Option Value} {Q:Value->Ah->Prop} {K:Ae} {prog:AN} {w:World} {t:Addr} (KX:K.In s.heap) (c:qof K C ini=true)
  (hx:s.heap.get? x=some (qc8 C od #[.ref t,.none,.none,.none,.bool false,.none] #[])) (hrest:qbl.length <= A0)
  (h:∀ h' t',h'.get? x=some (qc8 C od #[.ref t',.none,.none,.none,.bool false,.none] #[])->(∀ b o,b ≠ x->s.heap.get? b=some o->h'.get? b=some o)->Q .none { s with heap:=h' }) :
  wpAny (model prog w) A (call (.builtin "ValueError.__init__") (.ref x :: qbl)) Q E s:=by
 obtain ⟨bm,N,nm,qn,bs,hd,sn,sub,ab,col,dd,k0,k1,k2,k3,k5,mN,hC,hn,hni,T⟩:=qyc KX c
 obtain ⟨hp,g,d,tk,os⟩:=s
 have F:=Dh
 refine CU (DV F.init.plain F.initEntry (wpAny_check_init_subU F T hC hx rfl ?_))
 wp_walk
 refine h _ hp.objs.size ?_ λb o hb e => ?_
 .rw [B8 _ (Am _ hx) rfl]
  rfl
 .rw [B3 _ _ (Bc hb)]
  exact Am _ e
theorem qge {B:Addr} {x:Str} {p apos pos:Pos} {e:Expr} {es:List Expr} {t:TA} {pl:Sem Bool} (c:XBase X.K B) (hg:Gl X x) (hm:X.mg x=some (.ref B)) (ha:PA X (e :: es) t) (hdb:(x == ("__debug__" : Str))=false:=by decide)
  (hst:starEach (e :: es) X.env=(false,eval e X.env) :: starEach es X.env:=by rfl) (hpl:(backTo pos (starEach es X.env)).any (·.1)=false:=by rfl)
  (ht:eval (.Call (.Attribute (.Name x p) "__init__" apos) (e :: es) [] pos) X.env=(do
   let ov <- eval (.Name x p) X.env
   standAt apos.atName
   let (f,first) <- holding [ov] (getMethod ov "__init__" pl)
   callWith pos f first (backTo pos (starEach (e :: es) X.env)) (backToKw pos (keywordEach [] X.env))):=by rfl) :
  PE X (.Call (.Attribute (.Name x p) "__init__" apos) (e :: es) [] pos) (qy4 X.K t):=by
 intro pins s σ H Q I h
 refine PySem.W.methodCall_KW (pl:=pl) (qey I hg hm ?_ hdb) ht
 refine PySem.W.method_cls I.kIn c.ga (PySem.W.cls_value I.kIn c.rd c.at_ rfl ?_)
 have I1:=I.tok (s.toks + 1)
 refine DI (thn (ha pos pins _ σ H _ I1 h) λus s1 ⟨vs,H1,I2,r1,q1⟩ => ?_) hst hpl
 obtain ⟨x',C,od,qbl,ini,rfl,e1,ci,hz,q⟩:=q1
 cases r1 with
 | cons ra rr =>
  cases ra
  obtain ⟨ws,sl,ex,z6,ff⟩:=qeo I2.hok e1
  obtain ⟨rfl,t',rfl⟩:=ff rfl
  have hl:=rr.length
  refine qr5 I2.kIn ci ex (by lia) λh' t2 ex' kk => ?_
  refine ⟨.non,H1,?_,rfl,q⟩
  have J:=I2.write (x:=x') (e:=x') (o:=exO x' C od true) (t':=s1.toks) (h':=h') (by rw [e1]; exact trivial) (.inl rfl) (λb u hb hu=>kk b u hb hu) ⟨_,ex'⟩ (qm9 ex' ⟨rfl,rfl⟩ λ_=>⟨rfl,t2,rfl⟩)
  rw [qog e1] at J
  exact J
noncomputable def tXFld (K:Ae) (ta:TE) (f:Str):TE:=λσ H Q=>ta σ H λv H1=>∃ (x C dx:Addr) (fr:Bool) (fs:List (Str × V)) (y:V),v=.ref x/\H1 x=some (exO x C (some dx) fr)/\H1 dx=some (exD dx fs)/\XIs K C/\AK K (.ref C) f=some none/\fs.lookup f=some y/\Q y H1
theorem quc {K:Ae} {C:Addr} {o:Obj} {f:Str} {u:Value} (c:CB K C=true) (n:AK K (.ref C) f=some none) (l:D7 f o=some (some u)):PySem.W.findObj K C (some o) f=some (.value u):=by
 obtain ⟨cd,hc,hd⟩:=PySem.W.any_some c
 unfold PySem.W.findObj
 rw [hc,Ce,n,Ce]
 dsimp only
 simp only [Ce]
 unfold PySem.W.ownOf
 rw [hd,if_pos rfl]
 dsimp only
 rw [l,Ce]
theorem qh3 {e:Expr} {f:Str} {pos:Pos} {ta:TE} (he:PE X e ta) (hb:attributeBase e f X.env (eval e X.env)=eval e X.env):PE X (.Attribute e f pos) (tXFld X.K ta f):=by
 intro pins s σ H Q I h
 refine qqv hb (thn (he pins s σ H _ I h) λu s1 ⟨v,H1,I1,rv,x,C,dx,fr,fs,y,ev,ex,ed,c,n,l,q⟩ => ?_)
 subst ev
 obtain rfl:u=Al x:=rv
 obtain ⟨vs,sl,e1,_⟩:=qeo I1.hok ex
 obtain ⟨mA,hn,r,_⟩:=qna I1.hok ed
 obtain ⟨od,hod,hl⟩:=qlz hn
 obtain ⟨uv,hu,ru⟩:=RelO.some_of (v:=y) (o:=mA f) (by rw [<- l]; exact r f)
 exact qr3 I1.kIn (ox:=qc8 C (some dx) vs sl) (od:=some od) ⟨e1,rfl,rfl,hod⟩ c.toXGet (quc c.dct n (by rw [hl,hu])) (ql0 ru) ⟨y,H1,I1.tok _,ru,q⟩
theorem qud {x dx:Addr} {o o':HO} {h':Heap} {tk:Nat} (I:Inv X pins σ H s) (mu:Mut (H x)) (hd:s.heap.objs.size <= dx) (hne:dx ≠ x) (k:∀ b u,b ≠ x->s.heap.get? b=some u->h'.get? b=some u) (hx:∃ u,h'.get? x=some u)
  (n1:ObjOk X.prog X.w (upd (upd H dx o') x o) h' x o) (n2:ObjOk X.prog X.w (upd (upd H dx o') x o) h' dx o'):Inv X pins σ (upd (upd H dx o') x o) { s with heap:=h',toks:=tk }:=by
 have hdn:H dx=none:=I.hok.fresh hd
 have hxn:∀ b,H b=none->b ≠ x:=λb n z=>by subst z; rw [n] at mu; exact mu
 have nm:∀ b u,H b=some u->¬ Mut (some u)->b ≠ x:=λb u q nm z=>by subst z; rw [q] at mu; exact nm mu
 have nd:∀ b u,H b=some u->b ≠ dx:=λb u q=>qag q hdn
 have old:∀ b u,s.heap.get? b=some u->b ≠ dx:=λb u q=>AJ (A8 (A3 q) hd)
 have stay:∀ b u,H b=some u->b ≠ x->upd (upd H dx o') x o b=some u:=λb u q hb=>by rw [zd hb,zd (nd b u q)]; exact q
 refine I.un ⟨λb u q n _ _=>k b u (hxn b n) q,λb u q n _ _=>⟨u.slots,k b u (hxn b n) q⟩,λb u q n _=>by rw [zd (hxn b n),zd (old b u q)]; exact n,λb u q _ => ?_,λb xs q=>stay b _ q (nm b _ q λz=>z),λb u xs q=>stay b _ q (nm b _ q λz=>z),λb ps q=>⟨#[],by rw [stay b _ q (nm b _ q λz=>z)]; simp⟩⟩ ?_
 .by_cases hb:b=x
  .subst hb; exact hx
  .exact ⟨u,k b u hb q⟩
 .intro b u q
  by_cases hb:b=x
  .subst hb
   rw [qu] at q
   cases q
   exact n1
  .rw [zd hb] at q
   by_cases hb':b=dx
   .subst hb'
    rw [qu] at q
    cases q
    exact n2
   .rw [zd hb'] at q
    refine (I.hok b u q).stay (λc v hc r=>k c v ?_ r) (λc r=>stay c _ r (nm c _ r λz=>z)) λc xs r=>stay c _ r (nm c _ r λz=>z)
    rcases hc with rfl | hc
    .exact hb
    .exact nm c _ hc λz=>z
noncomputable def sXFld (K:Ae) (ta tv:TE) (f:Str):TS:=λD σ H=>tv σ H λy H1=>ta σ H1 λv H2=>∃ (x C:Addr) (fr:Bool),v=.ref x/\XSet K C f /\
 ((H2 x=some (exO x C none fr)/\∀ dx,H2 dx=none->D.nx σ (upd (upd H2 dx (exD dx [(f,y)])) x (exO x C (some dx) fr))) \/
  (∃ dx fs,H2 x=some (exO x C (some dx) fr)/\H2 dx=some (exD dx fs)/\fs.length < 900/\D.nx σ (upd H2 dx (exD dx (qcs f y fs)))))
theorem qh4 {o value:Expr} {f:Str} {pos pos':Pos} {ta tv:TE} (ha:PE X o ta) (hv:PE X value tv) (hs:swapsWith value (some (.Attribute o f pos')) pos.line X.env=pure false):PS X (.Assign [.Attribute o f pos'] value pos) (sXFld X.K ta tv f):=by
 intro pins s0 σ H0 D I0 h
 refine DF (thn (hv pins s0 σ H0 _ I0 h) λu s1 ⟨y,H1,I1,ry,q⟩=>thn (ha pins s1 σ H1 _ I1 q) λov s ⟨v,H,I,rv,x,C,fr,ev,c,q2⟩ => ?_) hs
 subst ev
 obtain rfl:ov=Al x:=rv
 rcases q2 with ⟨ex,nx⟩ | ⟨dx,fs,ex,ed,hl,nx⟩
 .obtain ⟨vs,sl,e1,z6,ff⟩:=qeo I.hok ex
  refine qt7 I.kIn e1 c λh' tk' e2 hn kk => ?_
  have hne:s.heap.objs.size ≠ x:=C0 (A3 e1)
  refine ⟨σ,_,qud (x:=x) (dx:=s.heap.objs.size) (o:=exO x C (some s.heap.objs.size) fr) (o':=exD s.heap.objs.size [(f,y)]) I (by rw [ex]; exact trivial) (A1 _) hne (λb ob hb e=>kk b ob hb e) ⟨_,e2⟩ (qm9 e2 z6 ff) (qub hn (λg => ?_) λg hg => ?_),nx _ (I.hok.fresh (A1 _))⟩
  .show RelO (CC g [(f,y)]) (if g=f then some u else none)
   by_cases q:g=f
   .subst q
    rw [if_pos rfl,BD,beq_self_eq_true]
    exact ry
   .have q':(g == f)=false:=by simpa using q
    rw [if_neg q,BD,q']
    exact trivial
  .by_cases q:g=f
   .subst q; simp
   .exact absurd (if_neg q) hg
 .obtain ⟨vs,sl,e1,z6,ff⟩:=qeo I.hok ex
  obtain ⟨mA,hn,r,wi⟩:=qna I.hok ed
  refine qt8 I.kIn e1 hn (qyd I.hok ex ed) wi (by rw [Ab]; lia) c λh' tk' hn' sb => ?_
  have hd:∃ o,h'.get? dx=some o:=let ⟨o,_,_,e',_⟩:=hn'; ⟨o,e'⟩
  refine ⟨σ,_,I.write (x:=dx) (e:=dx) (o:=exD dx (qcs f y fs)) (t':=tk') (by rw [ed]; exact trivial) (.inl rfl) (λb ob hb z=>(sb.2 b hb).trans z) hd (qub hn' (λg => ?_) λg hg => ?_),nx⟩
  .show RelO ((qcs f y fs).lookup g) (if g=f then some u else mA g)
   rw [qf2]
   by_cases q:g=f
   .rw [if_pos q,if_pos q]; exact ry
   .rw [if_neg q,if_neg q]; exact r g
  .by_cases q:g=f
   .rw [q]; exact (qfb f y fs).1
   .refine (qfb f y fs).2 g (wi g λz=>hg ?_)
    show (if g=f then some u else mA g)=none
    rw [if_neg q]; exact z
end
section
variable {X:Cx}
noncomputable def rEqL (K:Ae) (f:Bool->Bool):R2:=λx y H Q=>∃ a b xs ys,x=.ref a/\y=.ref b/\SqL K H a xs/\SqL K H b ys/\xs.all qct=true/\ys.all qct=true/\Q (.bl (f (qh0 xs ys))) H
theorem qkh:∀ {xs ys:List V},xs.length ≠ ys.length->qh0 xs ys=false
 | [],[],h=>absurd rfl h
 | [],_ :: _,_=>rfl
 | _ :: _,[],_=>rfl
 | x :: xs,y :: ys,h=>by
  show (eqV x y && qh0 xs ys)=false
  rw [qkh (λz=>h (by rw [Aq,Aq,z])),CQ]
theorem qje {xs ys:List V} (h:xs.length=ys.length):(Bh xs.length).all (eAt xs ys)=qh0 xs ys:=by
 rw [<- qty xs ys,<- h,Nat.min_self]
 simp
theorem qy5 (hu:X.A.units < cLine):OpR X (compareOp .Eq) (rEqL X.K λz=>z):=by
 intro pins s σ H x y v u Q I rx ry h
 obtain ⟨a,b,xs,ys,rfl,rfl,ha,hb,fx,fy,q⟩:=h
 cases rx
 cases ry
 obtain ⟨its,r1,p1,_⟩:=I.list ha
 obtain ⟨its2,r2,p2,_⟩:=I.list hb
 have l1:=r1.length
 have l2:=r2.length
 by_cases hz:xs.length=ys.length
 .refine SeqAt.eq_listAt p1.isList p2.isList (by rw [Av,Av]; lia) hu (qob r1 r2 fx fy) ?_
  rw [Av,<- l1,qje hz]
  exact ⟨.bl (qh0 xs ys),H,I,rfl,q⟩
 .refine SeqAt.eq_list_lengthsAt p1.isList p2.isList (bne_iff_ne.mpr (by rw [Av,Av]; lia)) hu ?_
  rw [qkh hz] at q
  exact ⟨.bl false,H,I,rfl,q⟩
theorem que (hu:X.A.units < cLine):OpR X (compareOp .NotEq) (rEqL X.K λz => !z):=by
 intro pins s σ H x y v u Q I rx ry h
 obtain ⟨a,b,xs,ys,rfl,rfl,ha,hb,fx,fy,q⟩:=h
 cases rx
 cases ry
 obtain ⟨its,r1,p1,_⟩:=I.list ha
 obtain ⟨its2,r2,p2,_⟩:=I.list hb
 have l1:=r1.length
 have l2:=r2.length
 by_cases hz:xs.length=ys.length
 .refine SeqAt.RcNeAt.lists p1.isList p2.isList (by rw [Av,Av]; lia) hu (qob r1 r2 fx fy) _ _ _ _ ?_
  rw [Av,<- l1,qje hz]
  exact ⟨.bl (!qh0 xs ys),H,I,rfl,q⟩
 .refine SeqAt.RcNeAt.lists_lengths p1.isList p2.isList (bne_iff_ne.mpr (by rw [Av,Av]; lia)) hu _ _ _ _ ?_
  rw [qkh hz] at q
  exact ⟨.bl true,H,I,rfl,q⟩
theorem quf:∀ {x:V},qct x=true->eqV x x=true
 | .non,_=>rfl
 | .bl b,_=>by cases b <;> rfl
 | .int i,_=>by simp [eqV]
 | .str y,_=>by simp [eqV]
 | .byt _,h=>by simp [qct] at h
 | .flt _,h=>by simp [qct] at h
 | .ref _,h=>by simp [qct] at h
 | .ty _,h=>by simp [qct] at h
theorem qma:∀ {xs:List V},xs.all qct=true->qh0 xs xs=true
 | [],_=>rfl
 | x :: xs,h=>by
  rw [Cr,AC] at h
  show (eqV x x && qh0 xs xs)=true
  rw [quf h.1,qma h.2]; rfl
end
noncomputable def qpq (K:Ae) (C:Addr) (ini:Option Value):Bool:=qof K C ini && Be K (.ref C) && (AK K (.ref C) "__getattribute__" == some (some (.builtin "BaseException.__getattribute__"))) && (AK K (.ref C) "__getattr__" == some none) &&
 (DS K C (.type "BaseException") == some true) && CB K C && (AK K (.ref C) "__class__" == some (some (.builtin "object.__class__"))) &&
 (D8 K (.builtin "object.__class__") "__get__" == some (some (.builtin "getset_descriptor.__get__"))) && (PySem.W.takesIn K (.builtin "object.__class__") == some true) && (DS K C (.type "object") == some true) &&
 (AK K (.ref C) "__setattr__" == some (some (.builtin "object.__setattr__"))) && ((PySem.W.clsIn K C).any λcd=>qoe cd.mro && cd.hasDict)
structure XA (K:Ae) (C:Addr) (ini:Option Value):Prop where
 xc:qof K C ini=true
 kp:Be K (.ref C)=true
 is:XIs K C
 sa:AK K (.ref C) "__setattr__" = some (some (.builtin "object.__setattr__"))
 cd:((PySem.W.clsIn K C).any λcd=>qoe cd.mro && cd.hasDict)=true
theorem qoh {K:Ae} {C:Addr} {ini:Option Value} (h:qpq K C ini=true):XA K C ini:=by
 unfold qpq at h
 rw [AC] at h
 obtain ⟨h,hcd⟩:=h
 simp only [AC,beq_iff_eq] at h
 obtain ⟨⟨⟨⟨⟨⟨⟨⟨⟨⟨h1,h2⟩,h3⟩,h4⟩,h5⟩,h6⟩,h7⟩,h8⟩,h9⟩,h10⟩,h11⟩:=h
 exact ⟨h1,h2,{ ga:=h3,hk:=h4,sub:=h5,dct:=h6,cls:=h7,get:=h8,tak:=h9,obj:=h10 },h11,hcd⟩
theorem XA.set {K:Ae} {C:Addr} {ini:Option Value} {name:Str} (a:XA K C ini) (no:AK K (.ref C) name=some none):XSet K C name:=⟨a.sa,no,a.cd⟩
noncomputable def xNo (K:Ae) (C:Addr) (ns:List Str):Bool:=ns.all λn=>AK K (.ref C) n == some none
theorem zc {K:Ae} {C:Addr} {ns:List Str} {n:Str} (h:xNo K C ns=true) (m:n ∈ ns):AK K (.ref C) n=some none:=beq_iff_eq.mp (AQ.mp h n m)
noncomputable def qgf (K:Ae) (C:Addr) (cs:List Value) (bs:List Bool):Bool:=(cs.map λc=>BC K (.ref C) c) == bs.map some
theorem qbb {K:Ae} {C:Addr} {cs:List Value} {bs:List Bool} (h:qgf K C cs bs=true) {i:Nat} {c:Value} {b:Bool} (hc:cs[i]?=some c) (hb:bs[i]?=some b):BC K (.ref C) c=some b:=by
 have e:=congrArg (λl=>l[i]?) (beq_iff_eq.mp h)
 simp only [An,hc,hb,Dd] at e
 exact AF e
noncomputable def qug (K:Ae) (B:Addr):Bool:=(D8 K (.ref B) "__getattribute__" == some (some (.builtin "type.__getattribute__"))) && PySem.W.readsIn K B (.type "type") &&
 (match PySem.W.findCls K (.ref B) (.type "type") "__init__" with | some (.val (.builtin n))=>n == "ValueError.__init__" | _=>false)
theorem xb_of {K:Ae} {B:Addr} (h:qug K B=true):XBase K B:=by
 unfold qug at h
 simp only [AC,beq_iff_eq] at h
 obtain ⟨⟨h1,h2⟩,h3⟩:=h
 refine ⟨h1,h2,?_⟩
 split at h3
 .rename_i n e
  rw [e,beq_iff_eq.mp h3]
 .cases h3
structure MethAt (K:Ae) (x qual:Str) (st:Stmt) (ps:List Str) (f:Addr) (fd:AD):Prop where
 fn:Fun K x qual st f fd
 bd:Binds K fd ps []
 ty:Ci K (.ref f)=some (.type "function")
section
variable {X:Cx} {K:Ae}
theorem qpr (hK:X.K=K):OpR X (compareOp .In) (rIn K false):=hK ▸ qef
theorem qlm (hK:X.K=K):OpR X (compareOp .NotIn) (rIn K true):=hK ▸ qc1
end
structure Notes (fs:List Addr) (x C:Addr) (od:Option Addr) (sl:Array (Option Value)) (told:List Addr) (T:Addr) (fl:Value) (h h':Heap):Prop where
 rc:∃ vs:Array Value,Sz6 vs/\h'.get? x=some (qc8 C od vs sl)/\vs[1]?=some (.ref T)
 tb:∃ oT ts,h'.get? T=some oT/\oT.data=.fields ts/\ts[3]?=some fl
 new:h.objs.size <= T
 ne:T ≠ x
 keep:∀ b o,b ≠ x->b ∉ told->b ∉ fs->h.get? b=some o->h'.get? b=some o
 slot:∀ b o,b ≠ x->b ∉ told->h.get? b=some o->∃ s,h'.get? b=some { o with slots:=s }
 old:∀ b ∈ told,∃ o,h'.get? b=some o
section
variable {M:Model} {A:AX} {E:Value->Ah->Prop} {s:Ah} {base:Heap} {env:Env} {outer:List Env} {L x C:Addr} {od:Option Addr} {vs:Array Value} {sl:Array (Option Value)}
theorem qq2 {head:Value} {hadNext:Bool} {Q:Unit->Ah->Prop} (hfr:A.frames=some (env :: outer)) (hl:s.heap.FunFrames base (env :: outer)) (hf:env.frame=some L) (he:s.heap.get? x=some (qc8 C od vs sl)) (hz:Sz6 vs)
  (h:∀ h' T,Notes (frs (env :: outer)) x C od sl [] T (rawInt L) s.heap h'->Q () { s with heap:=h' }) :
  wpAny M A (do let a <- frameOf env; let pl <- entryPlaceOf L hadNext; let b <- EntryCells.newEntry head a .none (rawInt L) .none pl; setField (.ref x) 1 b) Q E s:=by
 have hene:x ∉ (env :: outer).filterMap (·.frame):=λhm=>by
  obtain ⟨_,o,ho,hnf⟩:=hl.mem hm
  rw [he] at ho; cases ho; exact hnf vs rfl
 refine Ad (wpAny_frameOf_fun hfr hl hf λh₁ hs₁ => ?_)
 refine Ad (wpAny_entryPlaceOf λpl hpl => ?_)
 unfold EntryCells.newEntry newFields
 refine Ad (DA ?_ (hpl.sizeOk5 _ _ _ _ _))
 generalize hO:({ cls:=.type "traceback",dict:=none,data:=.fields ([head,.ref L,.none,rawInt L,.none] ++ (if pl.isEmpty then List.replicate 6 BI else pl)).toArray }:Obj)=oT
 have he₁:h₁.get? x=some (qc8 C od vs sl):=(hs₁.2.1 x hene).trans he
 have he₂:=Am (h:=h₁) oT he₁
 have hd₂:(qc8 C od vs sl).data=.fields vs:=rfl
 refine Di he₂ hd₂ (by lia) (h _ h₁.objs.size ?_)
 have hTx:h₁.objs.size ≠ x:=C0 (A3 he₁)
 have hd₃:=Cc hd₂ (·.setIfInBounds 1 (Al h₁.objs.size))
 have he₃:=B8 (CL (·.setIfInBounds 1 (Al h₁.objs.size))) he₂ (C6 hd₃)
 have hT₃:((h₁.push oT).update x (CL (·.setIfInBounds 1 (Al h₁.objs.size)))).get? h₁.objs.size=some oT :=
  (B3 _ _ (Bc hTx)).trans (A5 h₁ (by rw [<- hO]; rfl))
 have kp:∀ b o,b ≠ x->h₁.get? b=some o->((h₁.push oT).update x (CL (·.setIfInBounds 1 (Al h₁.objs.size)))).get? b=some o:=λb o hb e=>by
  rw [B3 _ _ (Bc hb)]
  exact Am _ e
 refine ⟨⟨vs.setIfInBounds 1 (.ref h₁.objs.size),⟨by rw [Array.size_setIfInBounds]; exact hz.1,by rw [Array.getElem?_setIfInBounds_ne Ez]; exact hz.2⟩,he₃,by simp [hz.1]⟩,⟨oT,_,hT₃,by rw [<- hO],?_⟩,?_,hTx,λb o hb _ hbf e=>kp b o hb ((hs₁.2.1 b hbf).trans e),λb o hb _ e => ?_,λb hb=>absurd hb (by simp)⟩
 .first | (simp; done) | (rcases hpl with rfl | ⟨_,_,_,_,_,_,_,rfl⟩ <;> simp)
 .exact BQ hs₁.1.symm
 .obtain ⟨sl',e'⟩:=hs₁.2.2 b o e
  exact ⟨sl',kp b _ hb e'⟩
theorem quh {Q:Unit->Ah->Prop} (hfr:A.frames=some (env :: outer)) (hl:s.heap.FunFrames base (env :: outer)) (hf:env.frame=some L) (he:s.heap.get? x=some (qc8 C od vs sl)) (hz:Sz6 vs) (h1:vs[1]?=some .none)
  (h:∀ h' T,Notes (frs (env :: outer)) x C od sl [] T (rawInt L) s.heap h'->Q () { s with heap:=h' }):wpAny M A (noteFrame (.ref x) env) Q E s:=by
 unfold noteFrame
 simp only [hf]
 refine Ad (BH he rfl h1 ?_)
 rw [if_neg Ez]
 exact qq2 hfr hl hf he hz h
theorem qr6 {Q:Unit->Ah->Prop} {T:Addr} {oT:Obj} {ts:Array Value} (hfr:A.frames=some (env :: outer)) (hl:s.heap.FunFrames base (env :: outer)) (hf:env.frame=some L) (he:s.heap.get? x=some (qc8 C od vs sl)) (hz:Sz6 vs) (h1:vs[1]?=some (.ref T))
  (hTx:T ≠ x) (hT:s.heap.get? T=some oT) (hd:oT.data=.fields ts) (h3:ts[3]?=some .none)
  (h:∀ h' T',Notes (frs (env :: outer)) x C od sl [T] T' (rawInt L) s.heap h'->Q () { s with heap:=h' }):wpAny M A (noteFrame (.ref x) env) Q E s:=by
 unfold noteFrame
 simp only [hf]
 refine Ad (BH he rfl h1 ?_)
 rw [if_pos (show (Al T != BI)=true from by simp)]
 refine Ad (BH hT hd h3 ?_)
 rw [if_neg (show ¬ ((BI == rawInt L)=true) from by simp [rawInt])]
 refine Ad (Di hT hd (C4.mp h3).1 ?_)
 have other:∀ b,b ≠ T->(s.heap.update T (CL (·.setIfInBounds 3 BI))).get? b=s.heap.get? b:=λb hb=>B3 _ _ (Bc hb)
 have hTT:∃ o,(s.heap.update T (CL (·.setIfInBounds 3 BI))).get? T=some o:=⟨_,B8 _ hT (C6 (Cc hd _))⟩
 have nr:∀ b o,s.heap.get? b=some o->(∀ vs,o.data ≠ .fields vs)->b ≠ T:=λb o hb hnf q=>by
  rw [q,hT] at hb; cases hb; exact hnf ts hd
 have nf:T ∉ frs (env :: outer):=λhm=>by
  obtain ⟨_,o,ho,hnf⟩:=hl.mem hm
  rw [hT] at ho; cases ho; exact hnf ts hd
 refine qq2 hfr (hl.of_keeps λb o hb hnf=>⟨o,(other b (nr b o hb hnf)).trans hb,rfl⟩) hf ((other x (Bc hTx)).trans he) hz λh' T' N=>h h' T' ?_
 obtain ⟨o,ho⟩:=hTT
 refine ⟨N.rc,N.tb,Au (BQ (Heap.size_update ..).symm) N.new,N.ne,λb o hb hb' hbf e=>N.keep b o hb (by simp) hbf ((other b (by simpa using hb')).trans e),λb o hb hb' e=>N.slot b o hb (by simp) ((other b (by simpa using hb')).trans e),λb hb => ?_⟩
 have e:b=T:=by simpa using hb
 subst e
 exact ⟨o,N.keep b o hTx (by simp) nf ho⟩
theorem qy6 {Q:Unit->Ah->Prop} {fs told:List Addr} {T:Addr} {fl:Value} {h0:Heap} (N:Notes fs x C od sl told T fl h0 s.heap) (nt:T ∉ told) (h:∀ h',Notes fs x C od sl told T .none h0 h'->Q () { s with heap:=h' }):wpAny M A (setFlight (.ref x) none) Q E s:=by
 obtain ⟨vs,hz,he,h1⟩:=N.rc
 obtain ⟨oT,ts,hT,hd,h3⟩:=N.tb
 have hs3:=(C4.mp h3).1
 unfold setFlight
 refine Ad (BH he rfl h1 ?_)
 rw [if_pos (show (Al T != BI)=true from by simp)]
 refine Di hT hd hs3 (h _ ?_)
 have other:∀ b,b ≠ T->(s.heap.update T (CL (·.setIfInBounds 3 ((none:Option Addr).elim BI λf=>rawInt f)))).get? b=s.heap.get? b:=λb hb=>B3 _ _ (Bc hb)
 have lt:∀ b o,h0.get? b=some o->b ≠ T:=λb o e=>AJ (A8 (A3 e) N.new)
 refine ⟨⟨vs,hz,(other x (Bc N.ne)).trans he,h1⟩,⟨_,_,B8 _ hT (C6 (Cc hd _)),Cc hd _,by simp [hs3]⟩,N.new,N.ne,λb o hb hb' hbf e=>(other b (lt b o e)).trans (N.keep b o hb hb' hbf e),λb o hb hb' e => ?_,λb hb => ?_⟩
 .obtain ⟨s',e'⟩:=N.slot b o hb hb' e
  exact ⟨s',(other b (lt b o e)).trans e'⟩
 .obtain ⟨o,e⟩:=N.old b hb
  exact ⟨o,(other b λz=>nt (z ▸ hb)).trans e⟩
end
noncomputable def qps (X:Cx) (pins:List (Addr × Obj)) (H:Hp) (h:Heap) (x C:Addr) (od:Option Addr):Prop:=H x=some (exO x C od false)/\∃ (vs:Array Value) (sl:Array (Option Value)) (T:Addr) (oT:Obj) (ts:Array Value),
 h.get? x=some (qc8 C od vs sl)/\vs[1]?=some (.ref T)/\h.get? T=some oT/\oT.data=.fields ts/\ts[3]?=some .none/\qek X pins H T
noncomputable def Fly (X:Cx) (pins:List (Addr × Obj)) (H:Hp) (h:Heap) (x C:Addr) (od:Option Addr):Prop:=H x=some (exO x C od true) \/ qps X pins H h x C od
theorem qq3 {P:AN} {w:World} {H:Hp} {h:Heap} {x C:Addr} {od:Option Addr} {fr fr':Bool} (ok:HOk P w H h) (e:H x=some (exO x C od fr)) (a:exHas H od):exHas (upd H x (exO x C od fr')) od:=by
 cases od with
 | none=>exact trivial
 | some dx =>
  obtain ⟨fs,q⟩:=a
  exact ⟨fs,by rw [zd (qyd ok e q)]; exact q⟩
section
variable {X:Cx} {pins:List (Addr × Obj)} {σ:L2.St} {H:Hp} {s:Ah} {E:Value->Ah->Prop} {x C:Addr} {od:Option Addr}
theorem qr7 {fr:Bool} {sl:Array (Option Value)} {told:List Addr} {T:Addr} {fl:Value} {h':Heap} (I:Inv X pins σ H s) (e:H x=some (exO x C od fr)) (N:Notes (frs X.stack) x C od sl told T fl s.heap h') (ht:∀ b ∈ told,qek X pins H b) :
  Inv X pins σ (upd H x (exO x C od false)) { s with heap:=h' }/\qek X pins (upd H x (exO x C od false)) T:=by
 have nx:∀ b,H b=none->b ≠ x:=λb n z=>by rw [z,e] at n; cases n
 have nt:∀ b u,H b=some u->b ∉ told:=λb u q z=>by rw [(ht b z).1] at q; cases q
 have nf:∀ b u,H b=some u->b ∉ frs X.stack:=λb u q z=>by rw [I.stkFree b z] at q; cases q
 have hx':∀ b u,H b=some u->u ≠ exO x C od fr->b ≠ x:=λb u q n z=>n (by rw [z,e] at q; exact (AF q).symm)
 have sub:∀ b,b ≠ X.env.locals->b ∉ X.fs->b ∉ frs X.stack:=λb h1 h2 z=>by
  rcases Ao.mp (I.stkSub b z) with q | q
  .exact h1 q
  .exact h2 q
 refine ⟨I.step (g':=s.gens) (d':=s.drawn) (t':=s.toks) (ch:=told) (λb hb=>⟨(ht b hb).2.2.2.1,(ht b hb).2.1,(ht b hb).2.2.2.2.1,(ht b hb).2.2.2.2.2⟩) (λb o h1 h2 hc q n=>N.keep b o (nx b n) hc (sub b h1 h2) q) (λb o _ _ hc q n=>N.slot b o (nx b n) hc q)
  (λb o _ _ n=>by rw [zd (nx b n)]; exact n) (λb o hc q => ?_) (λb xs q => ?_) (λb o u q => ?_) (λb ps q => ?_) (λm hm => ?_) (λb u q => ?_) I.bare,?_⟩
 .by_cases hb:b=x
  .subst hb
   obtain ⟨vs,_,r,_⟩:=N.rc
   exact ⟨_,r⟩
  .obtain ⟨s',q'⟩:=N.slot b o hb hc q
   exact ⟨_,q'⟩
 .rw [zd (hx' b _ q (by unfold exO; intro z; cases z))]; exact q
 .rw [zd (hx' b _ q (by unfold exO; intro z; cases z))]; exact q
 .exact ⟨#[],by rw [zd (hx' b _ q (by unfold exO; intro z; cases z)),q]; simp⟩
 .obtain ⟨o,es,ep,ho,r⟩:=hm
  obtain ⟨s',q'⟩:=N.slot _ o (nx _ I.free) (λz=>(ht _ z).2.1 rfl) ho
  exact ⟨_,es,ep,q',r⟩
 .by_cases hb:b=x
  .subst hb
   rw [qu] at q
   cases q
   obtain ⟨vs,hz,r,_⟩:=N.rc
   exact qm9 r hz λz=>nomatch z
  .rw [zd hb] at q
   refine (I.hok b u q).stay (λc v hc r => ?_) (λc r => ?_) λc xs r => ?_
   .rcases hc with rfl | hc
    .exact N.keep c v hb (nt c u q) (nf c u q) r
    .exact N.keep c v (hx' c _ hc (by unfold exO; intro z; cases z)) (nt c _ hc) (nf c _ hc) r
   .rw [zd (hx' c _ r (by unfold exO; intro z; cases z))]; exact r
   .rw [zd (hx' c _ r (by unfold exO; intro z; cases z))]; exact r
 .exact I.fpOk N.new (by rw [zd N.ne]; exact I.hok.fresh N.new)
theorem qmb {Q:Ah->Prop} (hst:X.stack=X.env :: X.outer/\X.env.frame=some X.env.locals) (I:Inv X pins σ H s) (f:Fly X pins H s.heap x C od)
  (h:∀ s',Inv X pins σ (upd H x (exO x C od false)) s'->qps X pins (upd H x (exO x C od false)) s'.heap x C od->Q s') :
  wpAny (model X.prog X.w) X.A (noteFrame (.ref x) X.env) (λ_ s2=>wpAny (model X.prog X.w) X.A (setFlight (.ref x) none) (λ_ s3=>Q s3) E s2) E s:=by
 have hfr:X.A.frames=some (X.env :: X.outer):=by rw [I.ok.frames,hst.1]
 have hl:s.heap.FunFrames X.base (X.env :: X.outer):=by rw [<- hst.1]; exact I.stack
 have fin:∀ {fr:Bool} {sl:Array (Option Value)} {told:List Addr} {T:Addr} {fl:Value} {h':Heap},H x=some (exO x C od fr)->(∀ b ∈ told,qek X pins H b)->(∀ b ∈ told,∃ o,s.heap.get? b=some o)->Notes (frs (X.env :: X.outer)) x C od sl told T fl s.heap h' ->
   wpAny (model X.prog X.w) X.A (setFlight (.ref x) none) (λ_ s3=>Q s3) E { s with heap:=h' }:=by
  intro fr sl told T fl h' e ht hex N
  refine qy6 (s:={ s with heap:=h' }) N (λz => ?_) λh2 N2 => ?_
  .obtain ⟨o,q⟩:=hex T z
   exact absurd (A3 q) (Nat.not_lt.mpr N.new)
  .rw [<- hst.1] at N2
   obtain ⟨J,fp⟩:=qr7 I e N2 ht
   obtain ⟨vs,hz,r,h1⟩:=N2.rc
   obtain ⟨oT,ts,hT,hd,h3⟩:=N2.tb
   exact h _ J ⟨qu,vs,sl,T,oT,ts,r,h1,hT,hd,h3,fp⟩
 rcases f with e | ⟨e,vs,sl,T,oT,ts,he,h1,hT,hd,h3,fp⟩
 .obtain ⟨vs,sl,he,hz,ff⟩:=qeo I.hok e
  obtain ⟨rfl,t,rfl⟩:=ff rfl
  exact quh hfr hl hst.2 he ⟨rfl,rfl⟩ rfl λh' T N=>fin e (λb hb=>absurd hb (by simp)) (λb hb=>absurd hb (by simp)) N
 .have hz:Sz6 vs:=by
   obtain ⟨vs',sl',he',hz,_⟩:=qeo I.hok e
   rw [he] at he'
   cases he'
   exact hz
  have hTx:T ≠ x:=λz=>by
   have:=fp.1
   rw [z,e] at this
   cases this
  have one:∀ b ∈ [T],b=T:=λb hb=>by simpa using hb
  exact qr6 hfr hl hst.2 he hz h1 hTx hT hd h3 λh' T' N=>fin e (λb hb=>by rw [one b hb]; exact fp) (λb hb=>by rw [one b hb]; exact ⟨_,hT⟩) N
end
noncomputable def CX1 (P:AN) (w:World):CXT:=λouter H s E e s'=>∃ (x C:Addr) (od:Option Addr) (H':Hp) (vs:Array Value) (sl:Array (Option Value)) (T:Addr) (oT:Obj) (ts:Array Value),e=.ref x/\H' x=some (exO x C od false)/\exHas H' od/\s'.heap.get? x=some (qc8 C od vs sl)/\vs[1]?=some (.ref T) /\
 s'.heap.get? T=some oT/\oT.data=.fields ts/\ts[3]?=some .none/\H' T=none/\s.heap.objs.size <= T/\s'.os=s.os/\Eg s'.gens/\Un (frs outer) [] H H' s.heap s'.heap/\HOk P w H' s'.heap/\E (.ref x) od H'
noncomputable def Takes (X:Cx) (E:XK):Prop:=∀ (pins:List (Addr × Obj)) (σ:L2.St) (H:Hp) (s:Ah) (x C:Addr) (od:Option Addr),Inv X pins σ H s->Fly X pins H s.heap x C od->exHas H od->E (.ref x) od (upd H x (exO x C od false))->X.xe (.ref x) s
theorem qbo {P:AN} {w:World} {K:Ae} {mg:Str->Option Value} {base:Heap} {N:List Str} {qual:Str} {scope:Scope} {f:Addr} {cd:Value} {A:AX} {outer:List Env} {s:Ah} {H:Hp} {E:XK} :
  Takes (qm3 (CX1 P w) P w K mg base N qual scope f cd A outer s H E) E:=by
 intro pins σ H1 s1 x C od I fl has q
 show wpAny _ _ (leaving _ _) _ _ _
 unfold leaving
 refine Ad (qmb ⟨rfl,rfl⟩ I fl λs2 J ft => ?_)
 obtain ⟨e,vs,sl,T,oT,ts,hx,h1,hT,hd,h3,fp⟩:=ft
 have hTs:s.heap.objs.size <= T:=by
  rcases fp.2.2.2.1 with z | z
  .exact absurd (show T ∈ ([]:List Addr) from z) (by simp)
  .exact z
 have e1:∃ fr,H1 x=some (exO x C od fr):=by
  rcases fl with z | z
  .exact ⟨_,z⟩
  .exact ⟨_,z.1⟩
 obtain ⟨fr,e1⟩:=e1
 exact ⟨x,C,od,_,vs,sl,T,oT,ts,rfl,e,qq3 I.hok e1 has,hx,h1,hT,hd,h3,fp.1,hTs,J.os,J.bare,J.base,J.hok,q⟩
section
variable {P:AN} {w:World} {K:Ae} {mg:Str->Option Value} {base:Heap}
theorem okX {x qual:Str} {st:Stmt} {f:Addr} {fd:AD} {N ps:List Str} {k:Nat} {sp:Sp} (F:Fun K x qual st f fd) (S:FnScope N ps (qab st)) (len:∀ vs H Q E,sp vs H Q E->vs.length=ps.length)
  (hbody:∀ (cdv:Value) (A:AX) (outer:List Env) (s:Ah) (H:Hp) (vs:List V) (Q:VK) (E:XK),Room k (A.deeper (envOfC qual (qab st) s.heap.objs.size f cdv))->sp vs H Q E ->
   ∃ t,PSs (qm3 (CX1 P w) P w K mg base N qual (qab st) f cdv A outer s H E) (qbq st) t/\t { nx:=λ_ H'=>Q .non H',rt:=Q } (qfz N vs) H):FnOk P w K mg base (CX1 P w) (k + 1) f fd ps sp:=by
 obtain ⟨oc,od,kV,doc,pm,an,cdv,ct,osl,rfl,lk,hcd⟩:=F.ex
 exact qts lk hcd S len λA outer s H vs Q E hr hsp=>hbody cdv A outer s H vs Q E hr hsp
end
theorem qye {X:Cx} {P:AN} {w:World}:qf3 (CX1 P w) X E0:=λ_ _ _ _ _ _ _ h=>by
 obtain ⟨_,_,_,_,_,_,_,_,_,_,_,_,_,_,_,_,_,_,_,_,_,_,_,q⟩:=h
 exact q.elim
noncomputable def TakesAt (X:Cx) (EX:L2.St->XK):Prop:=∀ (pins:List (Addr × Obj)) (σ:L2.St) (H:Hp) (s:Ah) (x C:Addr) (od:Option Addr),Inv X pins σ H s->Fly X pins H s.heap x C od->exHas H od->EX σ (.ref x) od (upd H x (exO x C od false))->X.xe (.ref x) s
theorem Takes.at {X:Cx} {E:XK} (t:Takes X E):TakesAt X λ_=>E:=t
theorem TakesAt.pass {X:Cx} {EX:L2.St->XK} {pins:List (Addr × Obj)} {σ:L2.St} {H:Hp} {s s':Ah} {e:Value} (t:TakesAt X EX) (I:Inv X pins σ H s) (c:CX1 X.prog X.w X.stack H s (EX σ) e s'):X.xe e s':=by
 obtain ⟨x,C,od,H',vs,sl,T,oT,ts,rfl,ex,has,hx,h1,hT,hd,h3,hn,hz,ho,hb,un,ok,q⟩:=c
 have J:=I.call' (ch:=[]) ho un ok hb λb hb=>absurd hb (by simp)
 refine t pins σ H' s' x C od J (.inr ⟨ex,vs,sl,T,oT,ts,hx,h1,hT,hd,h3,I.fpOk hz hn⟩) has ?_
 rw [qog ex]
 exact q
noncomputable def qy7 (sp:Sp) (dvs:List V) (EX:L2.St->XK) (t:TA):TE:=λσ H Q=>t σ H λvs H1=>sp (vs ++ dvs) H1 Q (EX σ)
noncomputable def qy8 (C:Addr) (sp:Sp) (dvs:List V) (EX:L2.St->XK) (t:TA):TE:=λσ H Q=>t σ H λvs H1=>∀ x dx,H1 x=none->H1 dx=none->dx ≠ x ->
 sp (.ref x :: (vs ++ dvs)) (upd (upd H1 dx (.own x)) x (.ins C dx [])) (λv H2=>v=.non/\Q (.ref x) H2) (EX σ)
section
variable {X:Cx} {k:Nat} {f C:Addr} {fd:AD} {ps:List Str} {sp:Sp} {dvs:List V} {ds:List Value} {EX:L2.St->XK} {x m:Str} {p pos apos:Pos} {e o:Expr} {es:List Expr} {ta:TE} {t:TA}
theorem qwq {pins:List (Addr × Obj)} {σ:L2.St} {H:Hp} {s:Ah} {Q:VK} {us:List Value} {vs:List V} (F:FnOk X.prog X.w X.K X.mg X.base (CX1 X.prog X.w) k f fd ps sp) (hr:Room k X.A) (hb:Binds X.K fd ps ds) (hd:Vals dvs ds) (hx:TakesAt X EX)
  (I:Inv X pins σ H s) (r:Vals vs us) (h:sp (vs ++ dvs) H Q (EX σ)):wpAny (model X.prog X.w) X.A (call (.ref f) us) (EP X pins σ Q) X.xe s:=by
 have r2:Vals (vs ++ dvs) (us ++ ds):=r.append hd
 have hl:(us ++ ds).length=ps.length:=by rw [<- r2.length]; exact F.len _ _ _ _ h
 refine CU (CV (F.run X.A X.stack s H ⟨us,[]⟩ (us ++ ds) (vs ++ dvs) Q (EX σ) hr I.env0 (hb s us I.kIn hl) r2 h) λr s' hq => ?_)
 cases r with
 | error e=>exact hx.pass I hq
 | ok fl =>
  cases fl with
  | ret u=>exact I.after hq
  | next=>exact B6 hq
  | brk=>exact B6 hq
  | cont=>exact B6 hq
theorem qd3 (F:FnOk X.prog X.w X.K X.mg X.base (CX1 X.prog X.w) k f fd ps sp) (hr:Room k X.A) (hg:Gl X x) (hm:X.mg x=some (.ref f)) (hk:Be X.K (.ref f)=true) (hb:Binds X.K fd ps ds) (hd:Vals dvs ds) (hx:TakesAt X EX)
  (ha:PA X (e :: es) t) (hdb:(x == ("__debug__" : Str))=false:=by decide) (he:starEach (e :: es) X.env=(false,eval e X.env) :: starEach es X.env:=by rfl) (hpl:(backTo pos (starEach es X.env)).any (·.1)=false:=by rfl) :
  PE X (.Call (.Name x p) (e :: es) [] pos) (qy7 sp dvs EX t):=by
 intro pins s σ H Q I h
 refine BJ (qey I hg hm ?_ hdb)
 refine CW (h₀:=X.base) I.ok.mod.kin hk (thn (ha pos pins s σ H _ I h) λus s1 ⟨vs,H1,I1,r,q⟩=>⟨I1.kIn,?_⟩) he hpl
 exact qwq F hr hb hd hx I1 r q
theorem qr8 {pins:List (Addr × Obj)} {σ:L2.St} {H:Hp} {s:Ah} {Q:VK} {us:List Value} {vs:List V} (M:Mk X.K C f) (F:FnOk X.prog X.w X.K X.mg X.base (CX1 X.prog X.w) k f fd ps sp) (hr:Room (k + 1) X.A) (hb:Binds X.K fd ps ds) (hd:Vals dvs ds)
  (hx:TakesAt X EX) (I:Inv X pins σ H s) (r:Vals vs us)
  (h:∀ x dx,H x=none->H dx=none->dx ≠ x->sp (.ref x :: (vs ++ dvs)) (upd (upd H dx (.own x)) x (.ins C dx [])) (λv H2=>v=.non/\Q (.ref x) H2) (EX σ)) :
  wpAny (model X.prog X.w) X.A (call (.ref C) us) (EP X pins σ Q) X.xe s:=by
 have hq:=h (s.heap.objs.size + 1) s.heap.objs.size (I.hok.fresh (Cv _)) (I.hok.fresh (A1 _)) (AJ (CO _))
 have I2:=Inv.made (C:=C) I
 have r2:Vals (V.ref (s.heap.objs.size + 1) :: (vs ++ dvs)) (Al (s.heap.objs.size + 1) :: (us ++ ds)):=.cons rfl (r.append hd)
 have hl:(Al (s.heap.objs.size + 1) :: us ++ ds).length=ps.length:=by
  have e:=r2.length
  rw [F.len _ _ _ _ hq] at e
  exact e.symm
 refine CU (qn0 (f:=f) I.kIn M.makes M.init (beq_iff_eq.mp M.fn) (CV (F.run _ X.stack _ _ ⟨Al (s.heap.objs.size + 1) :: us,[]⟩ (Al (s.heap.objs.size + 1) :: (us ++ ds)) _ _ (EX σ) (hr.make C us [])
  (I2.env0.make C us []) (hb _ (Al (s.heap.objs.size + 1) :: us) I2.kIn hl) r2 hq) λr s' hq' => ?_))
 cases r with
 | error e=>exact hx.pass I2 hq'
 | ok fl =>
  cases fl with
  | ret u =>
   obtain ⟨v,H',I3,rv,ev,q3⟩:=I2.after hq'
   subst ev
   exact ⟨rv,⟨V.ref (s.heap.objs.size + 1),H',I3,rfl,q3⟩⟩
  | next=>exact B6 hq'
  | brk=>exact B6 hq'
  | cont=>exact B6 hq'
theorem qui (M:Mk X.K C f) (F:FnOk X.prog X.w X.K X.mg X.base (CX1 X.prog X.w) k f fd ps sp) (hr:Room (k + 1) X.A) (hg:Gl X x) (hm:X.mg x=some (.ref C)) (hb:Binds X.K fd ps ds) (hd:Vals dvs ds) (hx:TakesAt X EX)
  (ha:PA X (e :: es) t) (hdb:(x == ("__debug__" : Str))=false:=by decide) (he:starEach (e :: es) X.env=(false,eval e X.env) :: starEach es X.env:=by rfl) (hpl:(backTo pos (starEach es X.env)).any (·.1)=false:=by rfl) :
  PE X (.Call (.Name x p) (e :: es) [] pos) (qy8 C sp dvs EX t):=by
 intro pins s σ H Q I h
 refine BJ (qey I hg hm ?_ hdb)
 refine CW (h₀:=X.base) I.ok.mod.kin M.kp (thn (ha pos pins s σ H _ I h) λus s1 ⟨vs,H1,I1,r,q⟩=>⟨I1.kIn,?_⟩) he hpl
 exact qr8 M F hr hb hd hx I1 r q
end
noncomputable abbrev _root_.L2.Cx.tr (X:Cx) (pins:List (Addr × Obj)) (W:Value->Ah->Prop):Cx:={ X with pn:=X.pn ++ pins,xe:=W }
noncomputable abbrev _root_.L2.Cx.sup (X:Cx) (e:Value) (W:Value->Ah->Prop):Cx:={ X with A:=X.A.mark (some e),calm:=false,xe:=W }
section
variable {X:Cx} {pins pins':List (Addr × Obj)} {σ:L2.St} {H:Hp} {s:Ah} {W:Value->Ah->Prop} {e:Value}
theorem ok_tr (ok:X.Ok):(X.tr pins W).Ok:=⟨ok.mod,ok.kind,ok.glob,ok.blt,ok.above,ok.inj,ok.has,ok.cab,ok.hd,ok.frames,ok.stk,ok.exf,ok.bs,ok.bsz,ok.noex,ok.exfs,ok.funs,ok.frf⟩
theorem qwr (ok:(X.tr pins W).Ok):X.Ok:=⟨ok.mod,ok.kind,ok.glob,ok.blt,ok.above,ok.inj,ok.has,ok.cab,ok.hd,ok.frames,ok.stk,ok.exf,ok.bs,ok.bsz,ok.noex,ok.exfs,ok.funs,ok.frf⟩
theorem qy9 (I:Inv X pins σ H s):Inv (X.tr pins W) [] σ H s:=⟨ok_tr I.ok,I.os,I.bare,I.base,I.loc,I.cell,I.free,I.freeC,λp hp=>I.pin p (by rw [Bw] at hp; exact hp),I.hok,I.len⟩
theorem qgg (I:Inv (X.tr pins W) pins' σ H s):Inv X pins σ H s:=⟨qwr I.ok,I.os,I.bare,I.base,I.loc,I.cell,I.free,I.freeC,λp hp=>I.pin p (Bi _ hp),I.hok,I.len⟩
theorem qws {b:Addr} (f:qek (X.tr pins W) pins' H b):qek X pins H b:=⟨f.1,f.2.1,f.2.2.1,f.2.2.2.1,f.2.2.2.2.1,λp hp=>f.2.2.2.2.2 p (Bi _ hp)⟩
theorem quj {h:Heap} {x C:Addr} {od:Option Addr} (f:Fly (X.tr pins W) pins' H h x C od):Fly X pins H h x C od:=by
 rcases f with z | ⟨e,vs,sl,T,oT,ts,h1,h2,h3,h4,h5,h6⟩
 .exact .inl z
 .exact .inr ⟨e,vs,sl,T,oT,ts,h1,h2,h3,h4,h5,qws h6⟩
theorem qwt {D:Ends} {f:Flow} {s':Ah} (h:SP (X.tr pins W) [] D f s'):SP X pins D f s':=by
 cases f with
 | next=>obtain ⟨σ',H',I,q⟩:=h; exact ⟨σ',H',qgg I,q⟩
 | brk=>obtain ⟨σ',H',I,q⟩:=h; exact ⟨σ',H',qgg I,q⟩
 | cont=>obtain ⟨σ',H',I,q⟩:=h; exact ⟨σ',H',qgg I,q⟩
 | ret u=>obtain ⟨v,σ',H',I,r,q⟩:=h; exact ⟨v,σ',H',qgg I,r,q⟩
theorem qza (ok:X.Ok):(X.sup e W).Ok:=⟨ok.mod,ok.kind,ok.glob,ok.blt,ok.above,ok.inj,ok.has,ok.cab,(λz=>nomatch z),ok.frames,ok.stk,ok.exf,ok.bs,ok.bsz,ok.noex,ok.exfs,ok.funs,ok.frf⟩
theorem qq4 (I:Inv X pins σ H s):Inv (X.sup e W) pins σ H s:=⟨qza I.ok,I.os,I.bare,I.base,I.loc,I.cell,I.free,I.freeC,I.pin,I.hok,I.len⟩
theorem qgw (ok:X.Ok) (I:Inv (X.sup e W) pins σ H s):Inv X pins σ H s:=⟨ok,I.os,I.bare,I.base,I.loc,I.cell,I.free,I.freeC,I.pin,I.hok,I.len⟩
theorem quk {D:Ends} {f:Flow} {s':Ah} (ok:X.Ok) (h:SP (X.sup e W) pins D f s'):SP X pins D f s':=by
 cases f with
 | next=>obtain ⟨σ',H',I,q⟩:=h; exact ⟨σ',H',qgw ok I,q⟩
 | brk=>obtain ⟨σ',H',I,q⟩:=h; exact ⟨σ',H',qgw ok I,q⟩
 | cont=>obtain ⟨σ',H',I,q⟩:=h; exact ⟨σ',H',qgw ok I,q⟩
 | ret u=>obtain ⟨v,σ',H',I,r,q⟩:=h; exact ⟨v,σ',H',qgw ok I,r,q⟩
end
noncomputable abbrev TH:=Ends->L2.St->Addr->Addr->Option Addr->Hp->Prop
noncomputable def PH (X:Cx) (hs:List ExceptHandler) (th:TH):Prop:=∀ (pins:List (Addr × Obj)) (s:Ah) (σ:L2.St) (H:Hp) (D:Ends) (x C:Addr) (od:Option Addr),Inv X pins σ H s->qps X pins H s.heap x C od->exHas H od->th D σ x C od H ->
 wpAny (model X.prog X.w) X.A (handleBy (.ref x) X.env hs) (SP X pins D) X.xe s
noncomputable def EXof (th:TH) (D:Ends):L2.St->XK:=λσ v od H=>∃ x C,v=.ref x/\H x=some (exO x C od false)/\th D σ x C od H
noncomputable def tTry (tb:(L2.St->XK)->TS) (th:TH):TS:=λD σ H=>tb (EXof th D) D σ H
theorem qzb {X:Cx} {body:List Stmt} {h₀:ExceptHandler} {hs:List ExceptHandler} {pos:Pos} {tb:(L2.St->XK)->TS} {th:TH} (hst:X.stack=X.env :: X.outer/\X.env.frame=some X.env.locals)
  (hb:∀ pins W EX,TakesAt (X.tr pins W) EX->BM (model X.prog X.w) X.A X.env W->PSs (X.tr pins W) body (tb EX)) (hh:PH X (h₀ :: hs) th):PS X (.Try body (h₀ :: hs) [] [] pos) (tTry tb th):=by
 intro pins s σ H D I h
 refine wpAny_Try_except ?_
 have ok:=I.ok
 let W:Value->Ah->Prop:=λe s₁=>wpAny (model X.prog X.w) X.A (noteFrame e X.env) (λ_ s₂=>wpAny (model X.prog X.w) X.A (setFlight e none) (λ_ s₃=>wpAny (model X.prog X.w) X.A (handleBy e X.env (h₀ :: hs)) (SP X pins D) X.xe s₃) X.xe s₂) X.xe s₁
 have T:TakesAt (X.tr pins W) (EXof th D):=by
  intro pins' σ' H' s' x C od I' fl has q
  obtain ⟨x',C',ex',eq',q⟩:=q
  cases ex'
  have J:=qgg I'
  have fl':=quj fl
  have e1:∃ fr,H' x=some (exO x C od fr):=by
   rcases fl' with z | z
   .exact ⟨_,z⟩
   .exact ⟨_,z.1⟩
  obtain ⟨fr,e1⟩:=e1
  refine qmb hst J fl' λs2 J2 ft => ?_
  obtain ⟨_,_,z,_⟩:=qeo J2.hok eq'
  have ft':=ft
  obtain ⟨_,_,_,_,_,_,z',_⟩:=ft'
  rw [z'] at z
  cases z
  exact hh pins s2 σ' _ D x C od J2 ft (qq3 J.hok e1 has) q
 refine BO (hb pins W _ T BM.looking [] s σ H D (qy9 I) h) (λf s₁ q => ?_) λe s₁ q=>q
 have q:=qwt q
 cases f with
 | next=>exact Dy q
 | _=>exact q
theorem ph_nil {X:Cx}:PH X [] λ_ _ _ _ _ _=>False:=λ_ _ _ _ _ _ _ _ _ _ _ h=>h.elim
section
variable {X:Cx} {pins:List (Addr × Obj)} {σ:L2.St} {H:Hp} {s:Ah} {E:Value->Ah->Prop}
theorem qpt {M:Model} {A:AX} {x C:Addr} {od:Option Addr} {Q:Unit->Ah->Prop} (I:Inv X pins σ H s) (f:qps X pins H s.heap x C od) (h:∀ s',Inv X pins σ H s'->qps X pins H s'.heap x C od->Q () s'):wpAny M A (setFlight (.ref x) none) Q E s:=by
 obtain ⟨e,vs,sl,T,oT,ts,hx,h1,hT,hd,h3,fp⟩:=f
 have hs3:=(C4.mp h3).1
 unfold setFlight
 refine Ad (BH hx rfl h1 ?_)
 rw [if_pos (show (Al T != BI)=true from by simp)]
 refine Di hT hd hs3 ?_
 have other:∀ b,b ≠ T->(s.heap.update T (CL (·.setIfInBounds 3 ((none:Option Addr).elim BI λf=>rawInt f)))).get? b=s.heap.get? b:=λb hb=>B3 _ _ (Bc hb)
 have hTT:=B8 (CL (·.setIfInBounds 3 ((none:Option Addr).elim BI λf=>rawInt f))) hT (C6 (Cc hd _))
 have nT:∀ b u,H b=some u->b ≠ T:=λb u q z=>by rw [z,fp.1] at q; cases q
 have one:∀ b,b ∉ [T]->b ≠ T:=λb hb z=>hb (by rw [z]; simp)
 refine h _ (I.step (g':=s.gens) (d':=s.drawn) (t':=s.toks) (ch:=[T]) (λb hb => ?_) (λb o _ _ hc q _=>(other b (one b hc)).trans q) (λb o _ _ hc q _=>⟨o.slots,(other b (one b hc)).trans q⟩) (λb o _ _ n=>n) (λb o hc q=>⟨o,(other b (one b hc)).trans q⟩)
  (λb xs q=>q) (λb o u q=>q) (λb ps q=>⟨#[],by rw [q]; simp⟩) (λm hm => ?_) (λb u q => ?_) I.bare) ⟨e,vs,sl,T,_,_,(other x (nT x _ e)).trans hx,h1,hTT,Cc hd _,by simp [hs3],fp⟩
 .have z:b=T:=by simpa using hb
  subst z
  exact ⟨fp.2.2.2.1,fp.2.1,fp.2.2.2.2.1,fp.2.2.2.2.2⟩
 .obtain ⟨o,es,ep,ho,r⟩:=hm
  exact ⟨o,es,ep,(other _ (Bc fp.2.1)).trans ho,r⟩
 .exact (I.hok b u q).stay (λc v hc r=>(other c (by
   rcases hc with rfl | hc
   .exact nT c u q
   .exact nT c _ hc)).trans r) (λ_ r=>r) λ_ _ r=>r
theorem qjw {M:Model} {A:AX} {i:Nat} {n:Str} {pos:Pos} {Q:Unit->Ah->Prop} (I:Inv X pins σ H s) (hN:X.N.Nodup) (hi:X.N[i]?=some n) (hk:X.env.scope.names.lookup n=some .local)
  (h:∀ s',Inv X pins (σ.set i none) H s'->Q () s'):wpAny M A (do bindName X.env n .none; unbindBehindTheSuite X.env n pos) Q E s:=by
 obtain ⟨m,hn,hl⟩:=id I.loc
 have hcls:(X.env.scope.kind == .class || (X.env.scope.kind == .module && X.env.locals != X.env.globals))=false:=by rw [I.ok.kind]; rfl
 have cne:=I.cne
 refine wpAny_nameGoes_keeps hk hn hcls λh' v hn' hs => ?_
 obtain ⟨oL,_,_,hoL,_⟩:=id hn
 have tracked:HOk X.prog X.w H h':=λb ob e=>by
  refine (I.hok b ob e).stay (λc w' hc q=>(hs.2 c ?_).trans q) (λ_ q=>q) λ_ _ q=>q
  rintro rfl
  rcases hc with rfl | hc
  .rw [I.free] at e; cases e
  .rw [I.free] at hc; cases hc
 refine h _ ⟨I.ok,I.os,I.bare,⟨λb o e n hb hx => ?_,λb o e n hb hx => ?_,I.base.free,λb o e hx => ?_,I.base.tups,I.base.frzs,I.base.tbls⟩,⟨_,hn',λj y v' e1 e2 e3 => ?_⟩,λy c e => ?_,I.free,I.freeC,λp hp => ?_,tracked,by simpa using I.len⟩
 .exact (hs.2 b (AJ (A8 (A3 e) I.ok.above))).trans (I.base.keep b o e n hb hx)
 .obtain ⟨sl,e1⟩:=I.base.slot b o e n hb hx
  exact ⟨sl,(hs.2 b (AJ (A8 (A3 e) I.ok.above))).trans e1⟩
 .obtain ⟨o',e1⟩:=I.base.there b o e hx
  exact ⟨o',(hs.2 b (AJ (A8 (A3 e) I.ok.above))).trans e1⟩
 .have hj:j ≠ i:=λz=>by
   subst z
   rw [Bq (by rw [I.len]; exact (Af.mp hi).1)] at e2
   cases e2
  rw [DU (Bc hj)] at e2
  obtain ⟨u',r',q⟩:=hl j y v' e1 e2 e3
  refine ⟨u',r',?_⟩
  rcases q with ⟨k,e⟩ | ⟨k,c,e,z⟩
  .refine .inl ⟨k,?_⟩
   have:y ≠ n:=λe=>hj (qj2 hN e1 (e ▸ hi))
   simp [this,e]
  .exact .inr ⟨k,c,e,z.sameBut hs (cne y c e)⟩
 .obtain ⟨w',z⟩:=I.cell y c e
  exact ⟨w',z.sameBut hs (cne y c e)⟩
 .obtain ⟨e,n,ne,nf,d⟩:=I.pin p hp
  exact ⟨(hs.2 p.1 ne).trans e,n,ne,nf,d⟩
end
noncomputable def PC (X:Cx) (t:Expr) (c:Value):Prop:=∀ (e:Value) (E:Value->Ah->Prop) (pins:List (Addr × Obj)) (s:Ah) (σ:L2.St) (H:Hp) (Q:Value->Ah->Prop),Inv X pins σ H s->Q c s->wpAny (model X.prog X.w) (X.A.mark (some e)) (eval t X.env) Q E s
theorem qc3 {X:Cx} {x:Str} {u:Value} {pos:Pos} (hg:Gl X x) (hm:X.mg x=some u) (hd:(x == ("__debug__" : Str))=false:=by decide):PC X (.Name x pos) u:=λe E pins s σ H Q I h =>
 qey (X:=X.sup e E) (qq4 I) hg hm h hd
noncomputable def hCl (K:Ae) (c:Value) (suite qbl:TH):TH:=λD σ x C od H=>match Ac K (.ref C) c with
 | some true=>suite D σ x C od H
 | some false=>qbl D σ x C od H
 | none=>False
noncomputable def hAs (i:Nat) (ts:Addr->TS):TH:=λD σ x _ _ H=>ts x { nx:=λσ' H'=>D.nx (σ'.set i none) H',rt:=D.rt,bk:=λσ' H'=>D.bk (σ'.set i none) H',ct:=λσ' H'=>D.ct (σ'.set i none) H' } (σ.set i (some (.ref x))) H
section
variable {X:Cx} {t:Expr} {b₀:Stmt} {body:List Stmt} {pos:Pos} {qbl:List ExceptHandler} {c:Value} {ts:Addr->TS} {tr:TH}
theorem qpu {pins:List (Addr × Obj)} {H:Hp} {h:Heap} {x C:Addr} {od:Option Addr} (fl:qps X pins H h x C od):BG (model X.prog X.w) h (typeOf (.ref x)) (.ref C):=by
 obtain ⟨e,vs,sl,T,oT,tsl,hx,_⟩:=fl
 exact (BG.ld hx).andThen .now
theorem qoi {i:Nat} {n:Str} (hN:X.N.Nodup) (hi:X.N[i]?=some n) (hk:X.env.scope.names.lookup n=some .local) (hc:PC X t c) (hb:∀ x,PSs (X.sup (.ref x) λ_ _=>False) (b₀ :: body) (ts x)) (hr:PH X qbl tr) :
  PH X (.ExceptHandler (some t) (some n) (b₀ :: body) pos :: qbl) (hCl X.K c (hAs i ts) tr):=by
 intro pins s σ H D x C od I fl has h
 refine wpAny_handleBy_cons (codeAny_handlers_test (hc (.ref x) _ pins s σ H _ I ?_)) (by intro q; cases q)
 unfold hCl at h
 split at h
 .rename_i he
  refine (PySem.W.exm_one I.kIn (qpu fl) he).here ?_
  refine codeAny_handlers_suite_as (qpt I fl λs2 I2 f2 => ?_)
  refine qhw I2 hN hi (.inl hk) (v:=.ref x) rfl (λs3 I3 => ?_) (.inr hk)
  refine BO (hb x pins s3 _ H _ (qq4 I3) h) (λf s4 q => ?_) λ_ _ z=>z.elim
  have q:=quk I.ok q
  cases f with
  | next=>obtain ⟨σ',H',J,q⟩:=q; exact qjw J hN hi hk λs5 J5=>⟨_,H',J5,q⟩
  | brk=>obtain ⟨σ',H',J,q⟩:=q; exact qjw J hN hi hk λs5 J5=>⟨_,H',J5,q⟩
  | cont=>obtain ⟨σ',H',J,q⟩:=q; exact qjw J hN hi hk λs5 J5=>⟨_,H',J5,q⟩
  | ret u=>obtain ⟨v,σ',H',J,r,q⟩:=q; exact qjw J hN hi hk λs5 J5=>⟨v,_,H',J5,r,q⟩
 .rename_i he
  refine (PySem.W.exm_one I.kIn (qpu fl) he).here ?_
  exact hr pins s σ H D x C od I fl has h
 .exact h.elim
end
structure XRaise (K:Ae) (C:Addr):Prop where
 sub:DS K C (.type "BaseException")=some true
 ty:Ci K (.ref C)=some (.type "type")
noncomputable def qhj (K:Ae) (C:Addr):Bool:=(DS K C (.type "BaseException") == some true) && (Ci K (.ref C) == some (.type "type"))
theorem qoj {K:Ae} {C:Addr} (h:qhj K C=true):XRaise K C:=by
 unfold qhj at h
 simp only [AC,beq_iff_eq] at h
 exact ⟨h.1,h.2⟩
theorem qwu {prog:AN} {w:World} {A:AX} {E:Value->Ah->Prop} {s:Ah} {env:Env} {K:Ae} {m:Sem Value} {Q:Flow->Ah->Prop} (hh:A.handled=none)
  (h:wpAny (model prog w) A m (λv s₁=>∃ x C od vs sl,v=.ref x/\K.In s₁.heap/\XRaise K C/\s₁.heap.get? x=some (qc8 C od vs sl)/\vs[1]?=some .none/\E (.ref x) s₁) E s) :
  wpAny (model prog w) A (raiseStmt env (some m) none) Q E s:=by
 unfold raiseStmt
 refine Ad (BO h (λv s₁ h₁ => ?_) λ_ _ x=>x)
 obtain ⟨x,C,od,vs,sl,rfl,KX,c,hx,h1,hE⟩:=h₁
 have LT:BG (model prog w) s₁.heap (typeOf (.ref x)) (.ref C):=(BG.ld hx).andThen .now
 have LB:BG (model prog w) s₁.heap (isInstance (.ref x) (.type "BaseException")) true:=LT.andThen (PySem.W.looks_mroIn KX c.sub)
 have LN:BG (model prog w) s₁.heap (isType (.ref x)) false:=(BG.ld hx).andThen .now
 have LC:BG (model prog w) s₁.heap (typeOf (.ref C)) (.type "type"):=PySem.W.looks_typeIn KX c.ty
 refine Ad (A2 ?_)
 refine Ad (Cg ?_)
 unfold excFromValue isExcClass
 refine Ad (Ad (LN.here ?_))
 rw [if_neg Ez]
 refine A2 ?_
 rw [if_neg Ez]
 refine Ad (LB.here ?_)
 rw [if_pos rfl]
 refine A2 ?_
 refine Ad (LN.here ?_)
 rw [if_neg Ez]
 refine Ad ?_
 unfold raisedInstance
 refine Ad (LT.here (Ad (LC.here ?_)))
 rw [if_pos (beq_self_eq_true _)]
 refine A2 ?_
 refine Ad ?_
 unfold setFlight
 refine Ad (BH hx rfl h1 ?_)
 rw [if_neg Ez]
 exact A2 (wpAny_raiseNew_none hh hE)
noncomputable def tRaise (K:Ae) (te:TE) (EX:L2.St->XK):TS:=λ_ σ H=>te σ H λv H1=>∃ x C od,v=.ref x/\H1 x=some (exO x C od true)/\exHas H1 od/\XRaise K C/\EX σ (.ref x) od (upd H1 x (exO x C od false))
theorem qdl {X:Cx} {e:Expr} {te:TE} {pos:Pos} {EX:L2.St->XK} (hc:X.calm=true) (hx:TakesAt X EX) (he:PE X e te):PS X (.Raise (some e) none pos) (tRaise X.K te EX):=by
 intro pins s σ H D I h
 rw [arm_exec_Raise]
 refine Ad (DR ?_)
 show wpAny _ _ (raiseStmt X.env (some (do let v <- eval e X.env; standAt pos; pure v)) none) _ _ _
 refine qwu (K:=X.K) (I.ok.hd hc) (Ad (thn (he pins s σ H _ I h) λv s1 ⟨u,H1,I1,r,x,C,od,eu,ex,has,c,q⟩=>Ad (DR (A2 ?_))))
 subst eu
 obtain rfl:v=Al x:=r
 obtain ⟨vs,sl,e1,z6,ff⟩:=qeo I1.hok ex
 obtain ⟨rfl,t,rfl⟩:=ff rfl
 exact ⟨x,C,od,_,_,rfl,I1.kIn,c,e1,rfl,hx pins σ H1 s1 x C od I1 (.inl ex) has q⟩
theorem qmc:∀ {Ds:List Addr} {its:List Value},Vals (Ds.map V.ref) its->its=Ds.map Al
 | [],_,.nil=>rfl
 | D :: Ds,_,.cons a r=>by
  have:=qmc r
  rw [A6,<- this]
  exact congrArg (· :: _) a
section
variable {X:Cx}
theorem qiy:qel X (.builtin "isinstance") (λxs H Q=>∃ (x C tp:Addr) (od:Option Addr) (fr:Bool) (Ds:List Addr) (b:Bool),xs=[.ref x,.ref tp]/\H x=some (exO x C od fr)/\exHas H od/\XIs X.K C/\H tp=some (.tup (Ds.map V.ref)) /\
  PySem.W.kitAny X.K (.ref C) (Ds.map Al)=some b/\Q (.bl b) H):=by
 intro pins s σ H xs us Q I r h
 obtain ⟨x,C,tp,od,fr,Ds,b,rfl,e,hs,ci,et,kk,q⟩:=h
 obtain ⟨u,u',rfl,r1,r2⟩:=Vals.two r
 cases r1
 cases r2
 obtain ⟨vs,sl,e1,_⟩:=qeo I.hok e
 obtain ⟨_,its,ri,p⟩:=(show ObjOk X.prog X.w H s.heap tp (.tup (Ds.map V.ref)) from I.hok tp _ et)
 cases qmc ri
 obtain ⟨⟨oc,od',dt,sl'⟩,ho,hc,n,hd⟩:=p
 cases hc
 cases hd
 exact PySem.W.kia_tup (qod ci) I.kIn (qq1 e1 (exHas.at I.hok hs)) ho kk (λz=>nomatch z) λtk=>⟨.bl b,H,I.tok tk,rfl,q⟩
theorem qed {K:Ae} {t:Value}:∀ {cs:List Value},(cs.map λc=>BC K t c)=cs.map (λ_=>some false)->PySem.W.kitAny K t cs=some false
 | [],_=>rfl
 | c :: cs,h=>by
  rw [A6,A6] at h
  obtain ⟨h1,h2⟩:=Df h
  unfold PySem.W.kitAny
  rw [h1]
  exact qed h2
end
noncomputable abbrev TJ:=Str->TE
section
variable {X:Cx} {e:Expr} {es:List Expr} {te:TE} {tj:TJ} {pos:Pos}
end
open Builtin Builtin.Str
section
variable {X:Cx}
theorem qmd:∀ (l:List (Str × Tok)),Vals (l.map λp=>V.str p.1) (strValues l)
 | []=>.nil
 | p :: l=>.cons ⟨p.2,rfl⟩ (qmd l)
theorem qhk {pins:List (Addr × Obj)} {s:Ah} {σ:L2.St} {H:Hp} {Q:VK} {ys:List Str} (I:Inv X pins σ H s) (k:Nat) (l:List (Str × Tok)) (e:l.map (·.1)=ys) (z:ys.length <= A0) (q:∀ p,H p=none->Q (.ref p) (upd H p (.lst (ys.map V.str)))) :
  EP X pins σ Q (.ref s.heap.objs.size) { s with heap:=s.heap.push { cls:=.type "list",data:=.seq (strValues l).toArray },toks:=k }:=by
 have hf:H s.heap.objs.size=none:=I.hok.fresh (A1 _)
 refine ⟨.ref s.heap.objs.size,upd H s.heap.objs.size (.lst (ys.map V.str)),I.laid (t':=k) (λb u e=>Am _ e) (A1 _) ?_,rfl,q _ hf⟩
 refine ⟨by rw [Ab]; exact z,strValues l,0,?_,A5 _ rfl⟩
 rw [<- e,AR]
 exact qmd l
theorem qep:MtR X "str.split" (λx vs H Q=>∃ a y:Str,x=.str a/\vs=[.str y]/\(y.length == 0)=false/\a.length <= A0/\(BE a y).length <= A0/\(partsBetween a (occurrences a y 0 a.length (a.length + 1)) y.length).length <= A0 /\
  ∀ p,H p=none->Q (.ref p) (upd H p (.lst ((BE a y).map V.str)))):=by
 intro pins s σ H x vs v us Q I rx rv h
 obtain ⟨a,y,rfl,rfl,hy,hx,hz,hn,q⟩:=h
 obtain ⟨t,rfl⟩:=rx
 obtain ⟨u',rfl,u,rfl⟩:=rv.one
 cases h1:(decide (a.length < y.length) || decide (strKind a < strKind y))
 .cases hf:(occurrences a y 0 a.length (a.length + 1)).isEmpty
  .refine DJ F.slot_str_split (typeIs_str _ _ _) F.entry_str_split (F.args_str_split_2 _ _) (meets_str_split_sep a y t u h1 hy hf hx hn) ?_
   show wants _ _ _ { s with toks:=_,heap:=s.heap.push { cls:=.type "list",data:=.seq (strsFrom s.toks (partsBetween a (occurrences a y 0 a.length (a.length + 1)) y.length)).toArray } }
   rw [strsFrom_eq]
   exact qhk I _ _ ((numbered_texts _ _).trans ((if_neg (ne_true_of_eq_false h1)).trans (if_neg (ne_true_of_eq_false hf))).symm) hz q
  .exact DJ F.slot_str_split (typeIs_str _ _ _) F.entry_str_split (F.args_str_split_2 _ _) (meets_str_split_not_found a y t u h1 hy hf) (qhk I s.toks [(a,t)] ((if_neg (ne_true_of_eq_false h1)).trans (if_pos hf)).symm hz q)
 .exact DJ F.slot_str_split (typeIs_str _ _ _) F.entry_str_split (F.args_str_split_2 _ _) (meets_str_split_cannot_occur a y t u h1) (qhk I s.toks [(a,t)] (if_pos h1).symm hz q)
end
end Add
namespace Add
open PySem PySem.Spec PyProof.Rows L2
theorem qr9 {X:Cx}:qel X (.type "int") (λxs H Q=>∃ (x:Str) (n:Int),xs=[.str x]/\PySem.intText? x=some n/\x.length <= 640/\Q (.int n) H):=by
 intro pins s σ H xs us Q I r h
 obtain ⟨x,n,rfl,hn,hl,q⟩:=h
 obtain ⟨u,rfl,t,rfl⟩:=qfy r
 exact PySem.W.KIN.call_text hn hl ⟨.int n,H,I.tok _,⟨_,rfl⟩,q⟩
section
variable {K:Ae} {C f:Addr} {m:Str}
noncomputable def qwv (K:Ae) (C:Addr):Bool:=Dl K C Str.empty && CB K C && PySem.W.plainOver K C && (AK K (.ref C) "__setattr__" == some (some (.builtin "object.__setattr__")))
theorem qul (h:qwv K C=true):Cls K C:=by
 unfold qwv at h
 simp only [AC,beq_iff_eq] at h
 obtain ⟨⟨⟨h1,h2⟩,h3⟩,h4⟩:=h
 exact ⟨h1,h2,h3,h4⟩
noncomputable def mkB (K:Ae) (C f:Addr):Bool:=PySem.W.makesIn K C && (AK K (.ref C) "__init__" == some (some (.ref f))) && Eh K (.ref f) && Be K (.ref C)
theorem qyf (h:mkB K C f=true):Mk K C f:=by
 unfold mkB at h
 simp only [AC,beq_iff_eq] at h
 obtain ⟨⟨⟨h1,h2⟩,h3⟩,h4⟩:=h
 exact ⟨h1,h2,h3,h4⟩
noncomputable def qq5 (K:Ae) (C:Addr) (m:Str) (f:Addr):Bool:=(AK K (.ref C) m == some (some (.ref f))) && Eh K (.ref f) && Be K (.ref f)
theorem qq6 (h:qq5 K C m f=true):Meth K C m f:=by
 unfold qq5 at h
 simp only [AC,beq_iff_eq] at h
 obtain ⟨⟨h1,h2⟩,h3⟩:=h
 exact ⟨h1,h2,h3⟩
end
open Builtin Builtin.Str
section
variable {X:Cx}
theorem qln:MtR X "str.startswith" (λx vs H Q=>∃ a y:Str,x=.str a/\vs=[.str y]/\Q (.bl (Txt.startswith a y)) H):=by
 intro pins s σ H x vs v us Q I rx rv h
 obtain ⟨a,y,rfl,rfl,q⟩:=h
 obtain ⟨t,rfl⟩:=rx
 obtain ⟨u',rfl,u,rfl⟩:=rv.one
 exact SC.startswith ⟨.bl _,H,I,rfl,q⟩
theorem qme:∀ {ys:List Str} {us:List Value},Vals (ys.map V.str) us->∃ l:List (Str × Tok),strValues l=us/\l.map (·.1)=ys
 | [],us,r=>by cases r; exact ⟨[],rfl,rfl⟩
 | y :: ys,us,r=>by
  cases r with
  | cons h r =>
   obtain ⟨t,rfl⟩:=h
   obtain ⟨l,h1,h2⟩:=qme r
   exact ⟨(y,t) :: l,by rw [<- h1]; rfl,by rw [<- h2]; rfl⟩
theorem qh5:MtR X "str.join" (λx vs H Q=>∃ (a:Str) (p:Addr) (ys:List Str),x=.str a/\vs=[.ref p]/\SqL X.K H p (ys.map V.str)/\JoinOk a ys=true/\Q (.str (Txt.join a ys)) H):=by
 intro pins s σ H x vs v us Q I rx rv h
 obtain ⟨a,p,ys,rfl,rfl,hq,hj,q⟩:=h
 obtain ⟨t,rfl⟩:=rx
 obtain ⟨u',rfl,hu⟩:=rv.one
 cases hu
 obtain ⟨its,r,pl,hz⟩:=I.list hq
 obtain ⟨l,rfl,h2⟩:=qme r
 exact SC.join pl.isList h2 hj λt' k=>⟨.str _,H,I.tok _,⟨_,rfl⟩,q⟩
end
end Add
namespace Add
open PySem PySem.Spec PyProof.Rows L2
open Builtin Builtin.Str
end Add
namespace Add
open PySem PySem.Spec PyProof.Rows L2
theorem qam {H H':Hp} {p:Addr} {o:HO} (s:Same H H') (n:H p=none):Same H (upd H' p o):=λb u e=>by rw [zd (qag e n)]; exact s _ _ e
theorem qsa {K:Ae} {H H':Hp} {a:Addr} {xs:List V} (e:Same H H') (h:SqT K H a xs):SqT K H' a xs:=by
 rcases h with (h | h) | h
 .exact .inl (.inl (e _ _ h))
 .obtain ⟨o,h⟩:=h; exact .inl (.inr ⟨o,e _ _ h⟩)
 .exact .inr h
theorem qsb {js:List (Option Nat)} {g:TG} {tc:TT} {te:TE} {J:It} {σ:L2.St} {H:Hp} {Q:VK} {xs:List V} (b:V->Bool) (f:V->V) (Sv:L2.St->Prop) (F:qke J H xs) (hz:xs.length <= A0) (h0:Sv (qe7 js σ))
  (step:∀ (x:V) (σ':L2.St) (H':Hp) (N:L2.St->Hp->Prop) (R:L2.St->VK),x ∈ xs->Same H H'->Sv σ'->(∀ σ3,Sv σ3->b x=false->N σ3 H')->(∀ σ3,Sv σ3->b x=true->R σ3 (f x) H') ->
   g x σ' H' λσ3 H3=>tc σ3 H3 λk H4=>if k=true then te σ3 H4 (R σ3) else N σ3 H4)
  (gk:∀ (x:V) (σ':L2.St) (H':Hp) (R R':L2.St->Hp->Prop),(∀ σ3 H3,R σ3 H3->R' σ3 H3)->g x σ' H' R->g x σ' H' R')
  (fin:∀ p,H p=none->Q (.ref p) (upd H p (.lst ((xs.filter b).map f)))) :
  qhh js g tc te σ Q J H:=by
 intro p hp
 have sm:∀ o,Same H (upd H p o):=λo=>qam (Same.refl H) hp
 have fl:∀ i,((xs.take i).filter b).length <= i:=λi=>Au (List.length_filter_le b (xs.take i)) (by rw [Ap]; lia)
 refine ⟨λi m σ' H'=>m=xs.length - i/\i <= xs.length/\Sv σ'/\H'=upd H p (.lst (((xs.take i).filter b).map f)),⟨xs.length,by simp,Bt _,h0,by simp⟩,?_⟩
 rintro i m σ' H' ⟨rfl,hi,hv,rfl⟩
 obtain ⟨F1,F2⟩:=F _ (sm (.lst (((xs.take i).filter b).map f)))
 by_cases hlt:i < xs.length
 .have ex:xs[i]?=some xs[i]:=by simp [hlt]
  obtain ⟨go,yl⟩:=F1 i _ ex
  have et:(xs.take (i + 1)).filter b=(xs.take i).filter b ++ (if b xs[i]=true then [xs[i]] else []):=by
   rw [CD,ex,List.filter_append]
   congr 1
   show List.filter b [xs[i]]=_
   rw [DL]
   rfl
  refine .inr ⟨go,λσ2 H2=>Sv σ2/\H2=upd H p (.lst (((xs.take (i + 1)).filter b).map f)),λσ2 H2 ⟨a,b⟩=>⟨xs.length - (i + 1),by lia,rfl,hlt,a,b⟩,λx H2 hy => ?_⟩
  obtain ⟨rfl,rfl⟩:=yl x H2 hy
  refine gk _ _ _ _ _ (λσ3 H3 z => ?_) (step xs[i] σ' _ (λσ2 H2=>Sv σ2/\H2=upd H p (.lst (((xs.take (i + 1)).filter b).map f))) (λσ3 v H5=>∃ ys,H5 p=some (.lst ys)/\ys.length < A0/\(Sv σ3/\upd H5 p (.lst (ys ++ [v]))=upd H p (.lst (((xs.take (i + 1)).filter b).map f)))) (Bv hlt) (sm _) hv (λσ3 hs3 hb => ?_) λσ3 hs3 hb => ?_)
  .exact z
  .refine ⟨hs3,?_⟩
   rw [et,hb]
   simp
  .refine ⟨_,qu,?_,hs3,?_⟩
   .rw [Ab]; have:=fl i; lia
   .rw [qqp,et,hb,if_pos rfl,Ay]; rfl
 .have e:i=xs.length:=by lia
  subst e
  refine .inl ⟨F2,?_⟩
  rw [B0]
  exact fin p hp
end Add
namespace Wri
open PySem PySem.Spec PyProof.Rows PySem.W PySem.W.KIN PySem.NumText
theorem cut_eq (c:Nat):∀ {a b r t:List Nat},c ∉ a->c ∉ b->a ++ c :: r=b ++ c :: t->a=b/\r=t
 | [],[],_,_,_,_,e=>⟨rfl,(Df e).2⟩
 | [],y :: b,_,_,_,hb,e=>absurd (Df e).1 λz=>hb (by rw [z]; exact Ak)
 | x :: a,[],_,_,ha,_,e=>absurd (Df e).1 λz=>ha (by rw [<- z]; exact Ak)
 | x :: a,y :: b,_,_,ha,hb,e=>by
  obtain ⟨h1,h2⟩:=Df e
  obtain ⟨h3,h4⟩:=cut_eq c (λz=>ha (At _ z)) (λz=>hb (At _ z)) h2
  exact ⟨by rw [h1,h3],h4⟩
noncomputable def jl (c:Nat):List (List Nat)->List Nat
 | []=>[]
 | [x]=>x
 | x :: y :: r=>x ++ c :: jl c (y :: r)
theorem qum (c:Nat):∀ {ps qs:List (List Nat)},ps ≠ []->qs ≠ []->(∀ p ∈ ps,c ∉ p)->(∀ q ∈ qs,c ∉ q)->jl c ps=jl c qs->ps=qs
 | [],_,h,_,_,_,_=>absurd rfl h
 | _,[],_,h,_,_,_=>absurd rfl h
 | [x],[y],_,_,_,_,e=>by rw [show x=y from e]
 | [x],y :: z :: r,_,_,hp,_,e=>absurd (show c ∈ x by rw [show x=y ++ c :: jl c (z :: r) from e]; simp) (hp x Ak)
 | x :: z :: r,[y],_,_,_,hq,e=>absurd (show c ∈ y by rw [show y=x ++ c :: jl c (z :: r) from e.symm]; simp) (hq y Ak)
 | x :: u :: r,y :: v :: t,_,_,hp,hq,e=>by
  obtain ⟨h1,h2⟩:=cut_eq c (hp x Ak) (hq y Ak) (show x ++ c :: jl c (u :: r)=y ++ c :: jl c (v :: t) from e)
  rw [h1,qum c (C3 _ _) (C3 _ _) (λp h=>hp p (At _ h)) (λp h=>hq p (At _ h)) h2]
theorem qc4 (c:Nat):∀ ps:List Str,(Dw ⟨#[c]⟩ ps).cps.toList=jl c (ps.map λp=>p.cps.toList)
 | []=>rfl
 | [x]=>rfl
 | x :: y :: r=>by
  show (x ++ ⟨#[c]⟩ ++ Dw ⟨#[c]⟩ (y :: r)).cps.toList=_
  rw [CS,CS,Dq,Dq,qc4 c (y :: r),AG]
  rfl
theorem str_ext {x y:Str} (h:x.cps.toList=y.cps.toList):x=y:=by
 cases x; cases y; congr; exact Array.toList_inj.mp h
theorem qh6 (x:Str) (c:Nat):BE x ⟨#[c]⟩ ≠ []:=by
 unfold BE
 split
 .exact C3 _ _
 .split
  .exact C3 _ _
  .intro h
   have:=length_partsBetween x (AM.Str.occurrences x ⟨#[c]⟩ 0 x.length (x.length + 1)) (⟨#[c]⟩:Str).length
   rw [h] at this
   cases this
theorem qki (c:Nat) {ps:List Str} (h0:ps ≠ []) (h:∀ p ∈ ps,c ∉ p.cps.toList):BE (Dw ⟨#[c]⟩ ps) ⟨#[c]⟩=ps:=by
 have e:(BE (Dw ⟨#[c]⟩ ps) ⟨#[c]⟩).map (λp=>p.cps.toList)=ps.map λp=>p.cps.toList:=by
  refine qum c (λz=>qh6 _ c (List.map_eq_nil_iff.mp z)) (λz=>h0 (List.map_eq_nil_iff.mp z)) (λp hp => ?_) (λp hp => ?_) ?_
  .obtain ⟨q,hq,rfl⟩:=AI.mp hp
   exact StrLaws.split_free _ c q hq
  .obtain ⟨q,hq,rfl⟩:=AI.mp hp
   exact h q hq
  .rw [<- qc4,<- qc4,StrLaws.join_split]
 exact List.map_inj_right (λ_ _ z=>str_ext z) |>.mp e
theorem qww {l:List Nat} {n:Nat} (h:n ∈ l):n <= l.sum:=by
 induction l with
 | nil=>cases h
 | cons a l ih =>
  rw [List.sum_cons]
  rcases Ao.mp h with rfl | h
  .lia
  .have:=ih h; lia
theorem qok (c:Nat):∀ ps:List Str,ps ≠ []->(ps.map (·.length)).sum + ps.length <= (Dw ⟨#[c]⟩ ps).length + 1
 | [],h=>absurd rfl h
 | [x],_=>by simp [Dw]
 | x :: y :: r,_=>by
  have ih:=qok c (y :: r) (C3 _ _)
  show _ <= (x ++ ⟨#[c]⟩ ++ Dw ⟨#[c]⟩ (y :: r)).length + 1
  rw [Str.length_append,Str.length_append]
  have:(⟨#[c]⟩:Str).length=1:=rfl
  simp only [A6,List.sum_cons,Aq] at ih |-
  lia
theorem qgx (x:Str) (c:Nat):(BE x ⟨#[c]⟩).length <= x.length + 1/\∀ p ∈ BE x ⟨#[c]⟩,p.length <= x.length:=by
 have h:=qok c (BE x ⟨#[c]⟩) (qh6 x c)
 rw [StrLaws.join_split] at h
 refine ⟨by lia,λp hp => ?_⟩
 have h2:=qww (AI.mpr ⟨p,hp,rfl⟩:p.length ∈ (BE x ⟨#[c]⟩).map (·.length))
 have h3:1 <= (BE x ⟨#[c]⟩).length:=Ed.mpr (qh6 x c)
 lia
theorem qe2 (x:Str) (c:Nat):(AM.Str.partsBetween x (AM.Str.occurrences x ⟨#[c]⟩ 0 x.length (x.length + 1)) (⟨#[c]⟩:Str).length).length <= x.length + 2:=by
 rw [length_partsBetween]
 have:=StrLaws.occ_length_le x ⟨#[c]⟩ 0 x.length (x.length + 1)
 lia
noncomputable def fig (c:Nat):Bool:=decide (48 <= c) && decide (c <= 57)
noncomputable def nv (x:Str):Int:=((digitsVal x.cps.toList:Nat):Int)
noncomputable def plain (x:Str):Bool:=decide (x=Aa "0") || !decide (x.cps.toList.head?=some 48)
theorem qwx {x:Str} (h:x.cps.toList.all fig=true):AllDigits x.cps.toList:=λc hc=>by
 have:=AQ.mp h c hc
 unfold fig at this
 simp only [AC,decide_eq_true_eq] at this
 exact this
theorem int_of {x:Str} (h:x.cps.toList.all fig=true) (h1:1 <= x.cps.size) (h2:x.cps.size <= 4300):PySem.intText? x=some (nv x):=by
 refine intText_digits (qwx h) (λz => ?_) h2
 have:x.cps.toList.length=0:=by rw [z]; rfl
 rw [AH] at this
 lia
end Wri
namespace Add
open PySem PySem.Spec PyProof.Rows L2
inductive Tups (H:Hp):List V->List (List V)->Prop where
 | nil:Tups H [] []
 | cons {a:Addr} {r vs:List V} {rs:List (List V)} (h:H a=some (.tup r)) (t:Tups H vs rs):Tups H (.ref a :: vs) (r :: rs)
theorem Tups.same {H H':Hp} {vs:List V} {rs:List (List V)} (t:Tups H vs rs) (s:Same H H'):Tups H' vs rs:=by
 induction t with
 | nil=>exact .nil
 | cons h _ ih=>exact .cons (s _ _ h) ih
theorem Tups.length {H:Hp} {vs:List V} {rs:List (List V)} (t:Tups H vs rs):vs.length=rs.length:=by
 induction t with
 | nil=>rfl
 | cons _ _ ih=>rw [Aq,Aq,ih]
theorem Tups.get {H:Hp} {vs:List V} {rs:List (List V)} (t:Tups H vs rs):∀ {i:Nat} {r:List V},rs[i]?=some r->∃ a,vs[i]?=some (.ref a)/\H a=some (.tup r):=by
 induction t with
 | nil=>intro i r h; cases i <;> cases h
 | cons h _ ih =>
  intro i r' h'
  cases i with
  | zero=>cases h'; exact ⟨_,rfl,h⟩
  | succ i=>exact ih (i:=i) h'
theorem Tups.get' {H:Hp} {vs:List V} {rs:List (List V)} (t:Tups H vs rs) {i:Nat} {v:V} (h:vs[i]?=some v):∃ a r,v=.ref a/\rs[i]?=some r/\H a=some (.tup r):=by
 have hi:i < rs.length:=by rw [<- t.length]; exact (Af.mp h).1
 obtain ⟨a,e,q⟩:=t.get (i:=i) (r:=rs[i]) (by simp [hi])
 rw [h] at e
 cases e
 exact ⟨a,_,rfl,by simp [hi],q⟩
theorem Tups.app {H:Hp} {vs us:List V} {rs ts:List (List V)} (t:Tups H vs rs) (u:Tups H us ts):Tups H (vs ++ us) (rs ++ ts):=by
 induction t with
 | nil=>exact u
 | cons h _ ih=>exact .cons h ih
theorem Tups.snoc {H:Hp} {vs:List V} {rs:List (List V)} {a:Addr} {r:List V} (t:Tups H vs rs) (h:H a=some (.tup r)):Tups H (vs ++ [.ref a]) (rs ++ [r]):=t.app (.cons h .nil)
theorem Tups.upd {H:Hp} {vs:List V} {rs:List (List V)} {p:Addr} {xs:List V} {o:HO} (t:Tups H vs rs) (hp:H p=some (.lst xs)):Tups (L2.upd H p o) vs rs:=by
 induction t with
 | nil=>exact .nil
 | cons h _ ih=>exact .cons (by rw [zd (λz=>by rw [z,hp] at h; cases h)]; exact h) ih
section
variable {X:Cx}
theorem qnb {a:Addr} {u:Value} (r:RelV (.ref a) u):u=.ref a:=by cases r; rfl
theorem qwy {K:Ae} (h:X.K=K):IxR X (rIxT K):=by subst h; exact ja
theorem qol {K:Ae} (h:X.K=K):IxR X (rIxL K):=by subst h; exact jb
end
end Add
namespace Lay
section
variable {W:Type} [DecidableEq W]
noncomputable abbrev Row (W:Type):=Int × Int × W
noncomputable abbrev ends (rs:List (Row W)):List Int:=rs.map λr=>r.2.1
noncomputable def left (rs:List (Row W)) (f:Int):List (Row W):=rs.filterMap λr=>if r.1 < f then some (r.1,min r.2.1 (f - 1),r.2.2) else none
noncomputable def right (rs:List (Row W)) (l:Int):List (Row W):=rs.filterMap λr=>if l < r.2.1 then some (max r.1 (l + 1),r.2.1,r.2.2) else none
noncomputable def over (rs:List (Row W)) (f l:Int) (w:W):List (Row W):=left rs f ++ (f,l,w) :: right rs l
noncomputable def jn1 (told:List (Row W)) (r:Row W):List (Row W):=match told.getLast? with
 | some t=>if t.2.2=r.2.2/\t.2.1 + 1=r.1 then told.dropLast ++ [(t.1,r.2.1,r.2.2)] else told ++ [r]
 | none=>told ++ [r]
noncomputable def Nx (r s:Row W):Prop:=r.2.1 < s.1/\(s.1=r.2.1 + 1->r.2.2 ≠ s.2.2)
noncomputable def jn (rs:List (Row W)):List (Row W):=rs.foldl jn1 []
noncomputable def lay (rs:List (Row W)):List (Row W):=rs.foldl (λlaid r=>over laid r.1 r.2.1 r.2.2) []
noncomputable def ov (rs:List (Row W)):List (Row W):=jn (lay rs)
end
end Lay
namespace Srt
open PySem PySem.W PyProof.Rows
section
variable {n:Nat} {r:Nat->Nat->Bool}
noncomputable abbrev at' (p:Array Nat) (i:Nat):Nat:=p.getD i 0
end
end Srt
namespace Srt
open PySem PySem.W PySem.Calls PyProof.Rows
section
variable {prog:AN} {w:World} {A:AX} {E:Value->Ah->Prop} {s:Ah}
end
end Srt
namespace Add
open PySem PySem.Spec PyProof.Rows L2 Srt PySem.W
section
variable {X:Cx} {pins:List (Addr × Obj)} {σ:L2.St} {H:Hp} {s:Ah}
end
end Add
namespace Mrg
noncomputable abbrev S2:=Int × Int
noncomputable def inB (rs:List S2) (d:Int):Bool:=rs.any λr=>decide (r.1 <= d) && decide (d <= r.2)
noncomputable def mg1 (told:List S2) (r:S2):List S2:=match told.getLast? with
 | some t=>if r.1 <= t.2 + 1 then told.dropLast ++ [(t.1,if r.2 > t.2 then r.2 else t.2)] else told ++ [r]
 | none=>told ++ [r]
noncomputable def mg (rs:List S2):List S2:=rs.foldl mg1 []
end Mrg
namespace Add
open PySem PySem.Spec PyProof.Rows L2
theorem qq7 {X:Cx} {pins:List (Addr × Obj)} {σ:L2.St} {H:Hp} {s:Ah} {h':Heap} {t':Nat} {e it:Addr} (I:Inv X pins σ H s) (k:∀ b o,b ≠ e->b ≠ it->s.heap.get? b=some o->h'.get? b=some o) (f1:qek X pins H e) (f2:qek X pins H it) :
  Inv X pins σ H { s with heap:=h',toks:=t' }:=by
 have n1:∀ b u,H b=some u->b ≠ e:=λb u q z=>by rw [z,f1.1] at q; cases q
 have n2:∀ b u,H b=some u->b ≠ it:=λb u q z=>by rw [z,f2.1] at q; cases q
 have out:∀ b,b ∉ [e,it]->b ≠ e/\b ≠ it:=λb hb=>⟨λz=>hb (by simp [z]),λz=>hb (by simp [z])⟩
 refine I.step (g':=s.gens) (d':=s.drawn) (ch:=[e,it]) (λb hb => ?_) (λb o _ _ hc q _=>k b o (out b hc).1 (out b hc).2 q) (λb o _ _ hc q _=>⟨o.slots,k b o (out b hc).1 (out b hc).2 q⟩) (λ_ _ _ _ n=>n)
  (λb o hc q=>⟨o,k b o (out b hc).1 (out b hc).2 q⟩) (λ_ _ q=>q) (λ_ _ _ q=>q) (λb ps q=>⟨#[],by rw [q]; simp⟩) (λm hm => ?_) (λb u q => ?_) I.bare
 .rcases Ao.mp hb with rfl | hb
  .exact ⟨f1.2.2.2.1,f1.2.1,f1.2.2.2.2.1,f1.2.2.2.2.2⟩
  .cases Ai.mp hb
   exact ⟨f2.2.2.2.1,f2.2.1,f2.2.2.2.2.1,f2.2.2.2.2.2⟩
 .obtain ⟨o,es,ep,ho,r⟩:=hm
  exact ⟨o,es,ep,k _ o (Bc f1.2.1) (Bc f2.2.1) ho,r⟩
 .refine (I.hok b u q).stay (λc v hc z=>k c v ?_ ?_ z) (λ_ z=>z) λ_ _ z=>z
  .rcases hc with rfl | hc
   .exact n1 _ u q
   .exact n1 c _ hc
  .rcases hc with rfl | hc
   .exact n2 _ u q
   .exact n2 c _ hc
noncomputable def Ite (K:Ae) (a:Addr):It :=
 ⟨λi H=>∃ xs x,SqL K H a xs/\xs[i]?=some x,λi H x H'=>∀ xs,SqL K H a xs->∃ y t,xs[i]?=some y/\H t=none/\x=.ref t/\H'=upd H t (.tup [.int i,y]),λi H=>∃ xs,SqL K H a xs/\xs.length <= i⟩
theorem qun {X:Cx} {pins:List (Addr × Obj)} {H:Hp} {b t:Addr} {o:HO} (f:qek X pins H b) (ne:b ≠ t):qek X pins (L2.upd H t o) b:=⟨by rw [zd ne]; exact f.1,f.2⟩
theorem qsc {P:AN} {w:World} {K:Ae} {es:List Expr} {kk pos} (a e it:Addr) (hne:e ≠ it):Turn P w K (.Tuple es kk pos) (Ite K a) [e,it] e (λi h=>∃ old,IsEnum h e it i old/\h.IsListIter it a i) where
 mem:=by simp
 obj:=λi h st b hb=>by
  obtain ⟨old,h1,o,h2,c,d⟩:=st
  rcases Ao.mp hb with rfl | hb
  .exact ⟨_,h1,λv z=>by cases z⟩
  .cases Ai.mp hb
   exact ⟨o,h2,λv z=>by rw [d] at z; cases z⟩
 keep:=λi h h' st k=>by
  obtain ⟨old,h1,h2⟩:=st
  exact ⟨old,k e (by simp) _ h1,h2.at λo q=>k it (by simp) o q⟩
 item:=by
  intro X hP hw hK hc i pins s σ H E I hf st hg
  subst hP hw hK
  obtain ⟨old,he,hit⟩:=st
  obtain ⟨xs,x,hq,hx⟩:=hg
  obtain ⟨its,rv,p,hz⟩:=I.list hq
  obtain ⟨u,hu,ru⟩:=rv.get hx
  have f1:=hf e (by simp)
  have f2:=hf it (by simp)
  refine wpAny_pyNext_enum_item he hit p.isList (x:=u) (by simpa using hu) hne λh1 ho hit1 ht hsz keep=>⟨_,rfl,?_⟩
  refine wpAny_letOwnedTupleGo_enum ho λh2 he2 sb => ?_
  replace sb:Cq e h1 h2:=sb
  have hel:e < s.heap.objs.size:=A3 he
  obtain ⟨oi,hoi,_⟩:=id hit
  have hil:it < s.heap.objs.size:=A3 hoi
  have ht2:h2.get? s.heap.objs.size=some { cls:=.type "tuple",data:=.seq #[.int i s.toks,u] }:=(sb.2 _ (C0 hel)).trans ht
  have hfr:H s.heap.objs.size=none:=I.hok.fresh (A1 _)
  have I1:=I.laid (a:=s.heap.objs.size) (o:=.tup [.int i,x]) (h':=s.heap.push { cls:=.type "tuple",data:=.seq #[.int i s.toks,u] }) (t':=s.toks) (λb o q=>Am _ q) (A1 _) ⟨show 2 <= A0 by rw [Bf]; decide,[.int i s.toks,u],.cons ⟨_,rfl⟩ (.cons ru .nil),⟨_,A5 _ rfl,rfl,_,rfl⟩⟩
  have I2:=qq7 (h':=h2) (t':=s.toks + 1) I1 (λb o n1 n2 q=>by
   by_cases z:b=s.heap.objs.size
   .subst z
    rw [A5 _ rfl] at q
    cases q
    exact ht2
   .rw [Heap.get?_push_ne _ _ _ z] at q
    exact (sb.2 b n1).trans (keep b o n1 n2 q)) (qun f1 (AJ hel)) (qun f2 (AJ hil))
  refine ⟨.ref s.heap.objs.size,_,I2,rfl,λys hy => ?_,⟨u,he2,hit1.at λo q=>(sb.2 it (Bc hne)).trans q⟩,λb hb => ?_⟩
  .rw [I.list_inj hy hq]
   exact ⟨x,_,hx,hfr,rfl,rfl⟩
  .rcases Ao.mp hb with rfl | hb
   .rw [zd (AJ hel)]; exact f1.1
   .cases Ai.mp hb
    rw [zd (AJ hil)]; exact f2.1
 done:=by
  intro X hP hw hK hc i pins s σ H E I hf st hg
  subst hP hw hK
  obtain ⟨old,he,hit⟩:=st
  obtain ⟨xs,hq,hx⟩:=hg
  obtain ⟨its,rv,p,hz⟩:=I.list hq
  have hl:=rv.length
  have f1:=hf e (by simp)
  have f2:=hf it (by simp)
  exact wpAny_pyNext_enum_end (I.ok.hd hc) he hit p.isList (by simp; lia) λh' eb=>⟨rfl,qq7 (t':=s.toks) I (λb o n1 n2 q=>eb b o n2 q) f1 f2⟩
 self:=λA i s Q E st h=>by
  obtain ⟨old,he,hit⟩:=st
  exact wpAny_pyIter_enum he h
noncomputable def iEnum (K:Ae) (ta:TA):TI:=λσ H R=>ta σ H λvs H1=>∃ a xs,vs=[.ref a]/\H1 a=some (.lst xs)/\R (Ite K a) H1
theorem qsd:bootBuiltins "enumerate" = some (.type "enumerate"):=En
theorem qq8 {X:Cx} {es:List Expr} {kk:_} {pos':Pos} {a:Expr} {ta:TA} {p pos:Pos} (hg:Gl X "enumerate") (hm:X.mg "enumerate" = none) (ha:PA X [a] ta) (hs:starEach [a] X.env=[(false,eval a X.env)]:=by rfl):PI X (.Tuple es kk pos') (.Call (.Name "enumerate" p) [a] [] pos) (iEnum X.K ta):=by
 intro pins s σ H R I h
 refine Call_ (qe5 I hg hm qsd (Br (thn (ha pos pins s σ H _ I h) λus s1 ⟨vs,H1,I1,r1,q1⟩ => ?_) hs rfl))
 obtain ⟨l,xs,e,hl,q⟩:=q1
 subst e
 obtain ⟨u,rfl,hu⟩:=qfy r1
 cases qnb hu
 obtain ⟨z,its,n,rv,hz,e⟩:=I1.lstM hl
 refine call_enumerate_1 e λh' he hit hsz keep=>wpAny_pyIter_enum he ?_
 have I2:Inv X pins σ H1 { s1 with heap:=h' }:=I1.kept (t':=s1.toks) keep
 refine ⟨s1.heap.objs.size + 1,[s1.heap.objs.size + 1,s1.heap.objs.size],_,_,H1,rfl,I2,qsc l _ _ (C0 (CO _)),⟨.none,he,hit⟩,λb hb => ?_,q⟩
 rcases Ao.mp hb with rfl | hb
 .exact I1.fpOk (Cv _) (I1.hok.fresh (Cv _))
 .cases Ai.mp hb
  exact I1.fpOk (A1 _) (I1.hok.fresh (A1 _))
theorem qom {K:Ae} {a:Addr} {xs:List V} {g:TG} {tb:TS} {D:Ends} {σ:L2.St} {H:Hp} (Pv:Nat->L2.St->Hp->Prop) (h0:Pv 0 σ H) (hl:∀ i σ H,i <= xs.length->Pv i σ H->SqL K H a xs)
  (hs:∀ i x t σ H,xs[i]?=some x->Pv i σ H->H t=none->g (.ref t) σ (upd H t (.tup [.int i,x])) λσ2 H2=>tb { D with nx:=Pv (i + 1),ct:=Pv (i + 1),bk:=D.nx } σ2 H2) (hd:∀ σ H,Pv xs.length σ H->D.nx σ H) :
  ∃ W:Nat->Nat->L2.St->Hp->Prop,(∃ m,W 0 m σ H)/\∀ i m σ H,W i m σ H ->
   ((Ite K a).stop i H/\D.nx σ H) \/ ((Ite K a).go i H/\∃ N:L2.St->Hp->Prop,(∀ σ' H',N σ' H'->∃ m',m' < m/\W (i + 1) m' σ' H')/\∀ x H',(Ite K a).yld i H x H'->g x σ H' λσ2 H2=>tb { D with nx:=N,ct:=N,bk:=D.nx } σ2 H2):=by
 refine ⟨λi m σ H=>m=xs.length - i/\i <= xs.length/\Pv i σ H,⟨xs.length,by simp,Bt _,h0⟩,?_⟩
 rintro i m σ H ⟨rfl,hi,p⟩
 have hq:=hl i σ H hi p
 by_cases hlt:i < xs.length
 .have ex:xs[i]?=some xs[i]:=by simp [hlt]
  refine .inr ⟨⟨xs,xs[i],hq,ex⟩,Pv (i + 1),λσ' H' n=>⟨xs.length - (i + 1),by lia,rfl,hlt,n⟩,λx H' hy => ?_⟩
  obtain ⟨y,t,e1,ht,rfl,rfl⟩:=hy xs hq
  exact hs i y t σ H e1 p ht
 .have e:i=xs.length:=by lia
  subst e
  exact .inl ⟨⟨xs,hq,A1 _⟩,hd σ H p⟩
end Add
namespace Add
open PySem PySem.Spec PyProof.Rows L2
section
variable {X:Cx}
theorem quo (bs:List Bool):((Bh bs.length).any λj=>(bs[j]?).getD true)=bs.any λb=>b:=by
 rw [Cz,DK,DK]
 constructor
 .rintro ⟨j,hj,e⟩
  have hj':j < bs.length:=by simpa using hj
  rw [Aj hj'] at e
  exact ⟨bs[j],Bv hj',e⟩
 .rintro ⟨b,hb,e⟩
  obtain ⟨j,hj,rfl⟩:=List.getElem_of_mem hb
  exact ⟨j,by simpa using hj,by rw [Aj hj]; exact e⟩
theorem qse (hc:X.calm=true):qel X (.builtin "any") (λxs H Q=>∃ (p:Addr) (bs:List Bool),xs=[V.ref p]/\SqL X.K H p (bs.map V.bl)/\Q (.bl (bs.any λb=>b)) H):=by
 intro pins s σ H xs us Q I r h
 obtain ⟨p,bs,rfl,hS,q⟩:=h
 obtain ⟨u,rfl,ru⟩:=Vals.one r
 cases ru
 obtain ⟨its,rv,pl,hz⟩:=I.list hS
 have hl:=rv.length
 rw [Ab] at hl
 have hne:p ≠ s.heap.objs.size:=by
  obtain ⟨o,ho,_⟩:=pl.isList
  exact AJ (A3 ho)
 refine call_any_walk (D6 pl.isList ⟨s.heap.objs.size,_,_,its.toArray.size,_,_,λj=>(bs[j]?).getD true,rfl,Walks.list (show X.A.in1.handled=none from I.ok.hd hc) _ p hne its.toArray,
  ⟨⟨_,A5 _ rfl,rfl,rfl⟩,pl.isList.at λo e=>Am _ e⟩,?_,λh' tk hk => ?_⟩)
 .intro i v s' Q' E' hv hq
  have hv':its[i]?=some v:=by simpa using hv
  cases e:bs[i]? with
  | none =>
   exfalso
   have h1:its.length <= i:=by rw [<- hl]; exact Co.mp e
   rw [Co.mpr h1] at hv'
   cases hv'
  | some b =>
   obtain ⟨u,hu,ru⟩:=rv.get (i:=i) (x:=.bl b) (by rw [An,e]; rfl)
   rw [hv'] at hu
   cases hu
   cases (show v=Ei b from ru)
   dsimp only at hq
   rw [e] at hq
   exact BF hq
 .refine ⟨.bl _,H,I.kept (t':=tk) λb o e=>hk b o (λz => ?_) (Am _ e),rfl,?_⟩
  .have z':b=s.heap.objs.size:=by simpa using z
   exact absurd (A3 e) (by rw [z']; exact Cf _)
  .have e:its.toArray.size=bs.length:=by rw [Av,hl]
   rw [e,quo]
   exact q
theorem gk_tup {K:Ae} {n:Nat} {t:TGs} (ht:∀ xs σ' H' R R',(∀ σ3 H3,R σ3 H3->R' σ3 H3)->t xs σ' H' R->t xs σ' H' R') (x:V) (σ':L2.St) (H':Hp) (R R':L2.St->Hp->Prop) (h:∀ σ3 H3,R σ3 H3->R' σ3 H3) (z:qwa K n t x σ' H' R):qwa K n t x σ' H' R':=by
 obtain ⟨a,xs,e,hq,hl,z⟩:=z
 exact ⟨a,xs,e,hq,hl,ht _ _ _ _ _ h z⟩
end
structure FunD (K:Ae) (x qual:Str) (st:Stmt) (f:Addr) (fd:AD):Prop where
 ex:∃ (oc dV kV doc pm cdv ct:Value) (od an:Option Addr) (osl:Array (Option Value)),
  fd=Bx x qual (qb5 st) (qbq st) (qab st) dV kV doc pm an cdv ct/\K.lookup f=some ⟨oc,od,.func fd,osl⟩/\Ca K cdv qual=true
 kp:Be K (.ref f)=true
section
variable {P:AN} {w:World} {K:Ae} {mg:Str->Option Value} {base:Heap}
theorem FunD.ok {x qual:Str} {st:Stmt} {f:Addr} {fd:AD} {N ps:List Str} {k:Nat} {sp:Sp} (F:FunD K x qual st f fd) (S:FnScope N ps (qab st)) (len:∀ vs H Q E,sp vs H Q E->vs.length=ps.length)
  (hbody:∀ (cdv:Value) (A:AX) (outer:List Env) (s:Ah) (H:Hp) (vs:List V) (Q:VK) (E:XK),Room k (A.deeper (envOfC qual (qab st) s.heap.objs.size f cdv))->sp vs H Q E ->
   ∃ t,PSs (qm3 CX0 P w K mg base N qual (qab st) f cdv A outer s H E).nox (qbq st) t/\t { nx:=λ_ H'=>Q .non H',rt:=Q } (qfz N vs) H):FnOk P w K mg base CX0 (k + 1) f fd ps sp:=by
 obtain ⟨oc,dV,kV,doc,pm,cdv,ct,od,an,osl,rfl,lk,hcd⟩:=F.ex
 refine qts lk hcd S len λA outer s H vs Q E hr hsp => ?_
 obtain ⟨t,h,q⟩:=hbody cdv A outer s H vs Q E hr hsp
 exact ⟨t,h.nox,q⟩
theorem qwz {x qual:Str} {st:Stmt} {f:Addr} {oc:Value} {od an:Option Addr} {osl:Array (Option Value)} {dV kV doc pm cdv ct:Value} (l:K.lookup f=some ⟨oc,od,.func (Bx x qual (qb5 st) (qbq st) (qab st) dV kV doc pm an cdv ct),osl⟩)
  (c:Ca K cdv qual=true) (k:Be K (.ref f)=true):FunD K x qual st f (Bx x qual (qb5 st) (qbq st) (qab st) dV kV doc pm an cdv ct):=⟨⟨oc,dV,kV,doc,pm,cdv,ct,od,an,osl,rfl,l,c⟩,k⟩
theorem qup {fd:AD} {ps:List Str} {ds:List Value} (h:∀ us:List Value,(us ++ ds).length=ps.length->∀ S,PySem.W.peek K S (bindArgs fd ⟨us,[]⟩)=some (ps.zip (us ++ ds))):Binds K fd ps ds:=λs us X hl=>PySem.W.kp_binds X (h us hl)
end
structure MethD (K:Ae) (x qual:Str) (st:Stmt) (ps:List Str) (f:Addr) (fd:AD):Prop where
 fn:FunD K x qual st f fd
 bd:Binds K fd ps []
 ty:Ci K (.ref f)=some (.type "function")
section
variable {X:Cx} {a b c d:Expr} {ta tb tc td:TE} {pos:Pos}
end
theorem qw0 {X:Cx} {K:Ae} (hK:X.K=K) {es:List Expr} {kk:_} {pos:Pos} {t:TGs} {n:Nat} (hc:X.calm=true) (h:PGs X es t)
  (hn:(assignEach es X.env).length=n:=by rfl) (hst:(assignEach es X.env).findIdx? (·.1)=none:=by rfl):PG X (.Tuple es kk pos) (qwa K n t):=by
 subst hK; exact qm1 hc h hn hst
end Add
namespace Tab
open Mrg Lay
noncomputable def fy (wk:List Int) (yr:List S2) (i:Int):Bool:=wk.contains (i % 7 + 1) || inB yr i
noncomputable def opn (bs:List Bool) (k:Nat):Int:=(((bs.take k).filter λb => !b).length:Nat)
structure OkW (wk:List Int):Prop where
 len:wk.length <= 6
 nd:wk.Nodup
 rng:∀ x ∈ wk,1 <= x/\x <= 7
end Tab
namespace Add
open PySem PySem.Spec PyProof.Rows L2
section
variable {X:Cx} {tg:Expr}
end
end Add
namespace Rev
open PySem PyProof.Rows
set_option maxRecDepth 100000
theorem no_len:typeLookup (.type "list_reverseiterator") "__len__" = pure none:=by rw [typeLookup_type,builtinLookup_eq_fast]; kernel_rfl
theorem quq:typeLookup (.type "list_reverseiterator") "__length_hint__" = pure (some (.builtin "list_reverseiterator.__length_hint__")):=by rw [typeLookup_type,builtinLookup_eq_fast]; kernel_rfl
section
variable {prog:AN} {w:World} {A:AX} {s:Ah} {R:Result->Ah->Prop} {E:Value->Ah->Prop}
variable {I:Addr} {fp wr:List Addr} {G:Array GenState->Array GenState->Prop} {n:Nat} {P:Nat->Value->Prop} {St:Nat->Ah->Prop}
theorem qw1 {x:Value} {Q:Bool->Ah->Prop} (hT:s.TypeIs x "list_reverseiterator") (h:Q false s):wpAny (model prog w) A (AM.List.listLengthHint x) Q E s:=by
 unfold AM.List.listLengthHint
 refine Ad (wpAny_specialOf hT no_len ?_)
 show wpAny _ A (specialOf x (Aa "__length_hint__") >>= _) _ _ _
 refine Ad (wpAny_specialOf hT quq ?_)
 generalize hid:("list_reverseiterator.__length_hint__" : String)=id0
 wp_delta
 rw [show splitId id0=some ("list_reverseiterator", "__length_hint__") from by subst hid; decide +kernel]
 subst hid
 refine Ad (wpAny_isInstance (b:=true) hT (by rw [isSubtype_type]; kernel_rfl) ?_)
 exact A2 h
theorem qsf (W:WalksS prog w A.in1 I fp wr G n P St) (hT:∀ i s,St i s->s.TypeIs (.ref I) "list_reverseiterator") (S:Addr) (res:Value) (c₀:Nat) (hst:St 0 s) (hSf:S ∉ fp) (hI:I ∈ fp)
  (hS:s.heap.get? S=some { cls:=.type "list",data:=.seq #[] c₀ })
  (hR:∀ s' acc' c',Moved (S :: wr) G s s'->s'.heap.get? S=some { cls:=.type "list",dict:=none,data:=.seq acc' c',slots:=#[] }->ItemsOf P acc' n->R (.ok (.ret res)) s') (hn:n <= A0) :
  wpAny (model prog w) A.in1 (AM.List.listExtendWith (.ref S) (.ref I) res)
   (λfin s'=>match fin with | .done f=>R (.ok f) s' | .again c'=>c'.quiet=true/\codeAny (model prog w) A c' R s') (λe s'=>R (.error e) s') s:=by
 have hSI:S ≠ I:=λe=>hSf (e ▸ hI)
 unfold AM.List.listExtendWith
 refine Ad (wpAny_typeOf (hT 0 _ hst) ?_)
 have h1:AM.List.listSameRef (.ref S) (.ref I)=false:=by simp [AM.List.listSameRef,hSI]
 have h2:(BW "list_reverseiterator" == BW "list")=false:=by decide
 have h3:(BW "list_reverseiterator" == BW "tuple")=false:=by decide
 simp only [h1,h2,h3,Bool.or_false,CZ,if_false]
 refine Ad (W.self 0 _ _ _ hst ?_)
 refine Ad (Cg (qw1 (hT 0 _ hst) ?_))
 rw [if_neg Ez]
 exact A2 ⟨plainId_quiet F.plain_extend_loop _,codeAny_extend_loopS W hn _ hSf _ n 0 _ _ _ rfl (Bt _) hst hS (ItemsOf.nil P) λs' acc' c' hm hS' hacc=>hR s' acc' c' hm hS' hacc⟩
theorem qw2 (W:WalksS prog w A.in1 I fp wr G n P St) (hT:∀ i s,St i s->s.TypeIs (.ref I) "list_reverseiterator") (S:Addr) (hst:St 0 s) (hSf:S ∉ fp) (hI:I ∈ fp)
  (hS:s.heap.get? S=some { cls:=.type "list",data:=.seq #[] })
  (hR:∀ s' acc' c',Moved (S :: wr) G s s'->s'.heap.get? S=some { cls:=.type "list",dict:=none,data:=.seq acc' c',slots:=#[] }->ItemsOf P acc' n->R (.ok (.ret .none)) s') (hn:n <= A0) :
  wpAny (model prog w) A.in1 (AM.«list.__init__» ⟨[.ref S,.ref I],[]⟩)
   (λfin s'=>match fin with | .done f=>R (.ok f) s' | .again c'=>c'.quiet=true/\codeAny (model prog w) A c' R s') (λe s'=>R (.error e) s') s:=by
 show wpAny _ A.in1 (AM.List.listItems (.ref S) >>= λold=>AM.List.listUpdate (.ref S) (λ_=>#[]) >>= λ_=>letGo old.toList.reverse >>= λ_=>AM.List.listExtendWith (.ref S) (.ref I) .none) _ _ s
 refine Ad ?_
 unfold AM.List.listItems
 refine Ad (Cj hS rfl (A2 ?_))
 refine Ad (wpAny_updateSeq hS rfl ?_)
 have hS2:=B8 (D3 (λ_=>(#[]:Array Value))) hS rfl
 have oth:∀ b o,b ≠ S->s.heap.get? b=some o->(s.heap.update S (D3 (λ_=>(#[]:Array Value)))).get? b=some o:=λb o hb e=>(B3 _ _ (Bc hb)).trans e
 refine Ad (wpAny_letGo ?_)
 refine qsf W hT S .none _ (W.frame 0 s _ s.toks hst (A1 _) λb hb o e=>oth b o (λh=>hSf (h ▸ hb)) e) hSf hI hS2 (λs' acc' c' hm hS' hacc => ?_) hn
 exact hR s' acc' c' (Moved.trans W.gtrans ((Moved.refl W.grefl).then_heap (A1 _) λb o hb e=>oth b o (λh=>hb (h ▸ Ak)) e) hm) hS' hacc
theorem list_ok {Q:Value->Ah->Prop} (W:WalksS prog w A.in1.in1 I fp wr G n P St) (hT:∀ i s,St i s->s.TypeIs (.ref I) "list_reverseiterator") (hst:St 0 s) (hfp:∀ b ∈ fp,b < s.heap.objs.size) (hI:I ∈ fp)
  (hQ:∀ s' acc' c',Moved (s.heap.objs.size :: wr) G { s with heap:=s.heap.push { cls:=.type "list",data:=.seq #[] } } s' ->
   s'.heap.get? s.heap.objs.size=some { cls:=.type "list",dict:=none,data:=.seq acc' c',slots:=#[] }->ItemsOf P acc' n->Q (.ref s.heap.objs.size) s') (hn:n <= A0) :
  wpAny (model prog w) A (call (.type "list") [.ref I]) Q E s:=by
 have hSf:s.heap.objs.size ∉ fp:=λhm=>Cf _ (hfp _ hm)
 refine callType_codes (Q₁:=λobj s₁=>obj=.ref s.heap.objs.size/\s₁={ s with heap:=s.heap.push { cls:=.type "list",data:=.seq #[] } }) F.called_list (F.typeCall_list_1 _) F.entry_list_init (code_list_new _ ⟨rfl,rfl⟩) λobj s₁ h₁ => ?_
 obtain ⟨rfl,rfl⟩:=h₁
 have hS:(s.heap.push { cls:=.type "list",data:=.seq #[] }).get? s.heap.objs.size=some { cls:=.type "list",data:=.seq #[] }:=A5 _ rfl
 exact ⟨⟨_,hS,rfl⟩,F.args_list_init_2 _ _,qw2 W hT _ (W.frame 0 s _ s.toks hst (A1 _) λb _ o e=>Am _ e) hSf hI hS (λs' acc' c' hm hS' hacc=>⟨rfl,hQ s' acc' c' hm hS' hacc⟩) hn⟩
end
end Rev
namespace Add
open PySem PySem.Spec PyProof.Rows L2
theorem qlo:bootBuiltins "reversed" = some (.type "reversed"):=En
theorem qsg {xs:List V} {us:List Value} {x:V} {u:Value} (h:Vals xs us) (r:RelV x u):Vals (xs ++ [x]) (us ++ [u]):=by
 induction h with
 | nil=>exact .cons r .nil
 | cons r' _ ih=>exact .cons r' ih
theorem qur {xs:List V} {us:List Value} (h:Vals xs us):Vals xs.reverse us.reverse:=by
 induction h with
 | nil=>exact .nil
 | cons r _ ih=>rw [List.reverse_cons,List.reverse_cons]; exact qsg ih r
theorem qsh {its:List Value} {acc:Array Value} (h:ItemsOf (λi v=>its.toArray[its.toArray.size - 1 - i]?=some v) acc its.toArray.size):acc=its.reverse.toArray:=by
 obtain ⟨h1,h2⟩:=h
 have e:acc.toList=its.reverse:=by
  refine BY λi => ?_
  have hs:acc.size=its.length:=by rw [h1]; simp
  by_cases c:i < its.length
  .have hi:i < acc.size:=by lia
   have hg:acc[i]?=some acc[i]:=Array.getElem?_eq_getElem hi
   have:=h2 i _ hg
   rw [DG,hg,<- this,DH c]
   simp
  .rw [By (by rw [AH]; lia),By (by rw [Dr]; lia)]
 rw [<- e]
section
variable {X:Cx}
noncomputable def tLR (K:Ae) (t:TA):TE:=λσ H Q=>t σ H λvs H1=>∃ l ys,vs=[.ref l]/\SqL K H1 l ys/\∀ q,H1 q=none->Q (.ref q) (upd H1 q (.lst ys.reverse))
theorem qkj {e:Expr} {t:TA} {p p2 pos pos2:Pos} (hca:X.calm=true) (hgl:Gl X "list") (hml:X.mg "list" = none) (hgr:Gl X "reversed") (hmr:X.mg "reversed" = none) (hbl:bootBuiltins "list" = some (.type "list")) (ha:PA X [e] t)
  (he:starEach [e] X.env=(false,eval e X.env) :: starEach [] X.env:=by rfl):PE X (.Call (.Name "list" p) [.Call (.Name "reversed" p2) [e] [] pos2] [] pos) (tLR X.K t):=by
 intro pins s σ H Q I h
 refine BJ (qe5 I hgl hml hbl ?_)
 refine Br ?_ rfl rfl
 show wpAny _ _ (spliced ((false,eval (.Call (.Name "reversed" p2) [e] [] pos2) X.env) :: [])) _ _ s
 refine D0 ?_
 refine BJ (qe5 I hgr hmr qlo ?_)
 refine Br (thn (ha pos2 pins s σ H _ I h) λus s1 ⟨vs,H1,I1,r1,q1⟩ => ?_) he rfl
 obtain ⟨l,ys,rfl,hq,q⟩:=q1
 obtain ⟨u,rfl,rx⟩:=qfy r1
 cases rx
 obtain ⟨its,r',pl,hz⟩:=I1.list hq
 refine call_reversed_list pl.isList (D9 ?_)
 have hl1:=pl.isList
 have hll:l < s1.heap.objs.size:=by obtain ⟨o,ho,_⟩:=hl1; exact A3 ho
 have hh:X.A.handled=none:=I.ok.hd hca
 have W:=(Walks.listRev (prog:=X.prog) (w:=X.w) (A:=X.A.in1.in1) hh s1.heap.objs.size l (AJ hll) its.toArray).toS
 refine Rev.list_ok W (λi s st=>st.2.1.typeIs) ⟨Bt _,?_,hl1.at λo e=>Am _ e⟩ (λb hb => ?_) (by simp) (λs' acc' c' hm hS' hacc => ?_) ?_
 .refine ⟨_,A5 _ rfl,rfl,?_⟩
  rw [show ((its.toArray.size:Nat):Int) - 1 - ((0:Nat):Int)=(its.toArray.size:Int) - 1 by lia]
  rfl
 .show b < (s1.heap.push _).objs.size
  rw [Cu]
  rcases Ao.mp hb with z | z
  .rw [z]; exact CO _
  .rw [Ai.mp z]; exact Nat.lt_succ_of_lt hll
 .have sz:(s1.heap.push (revObj l ((its.toArray.size:Int) - 1))).objs.size=s1.heap.objs.size + 1:=Cu _ _
  have kp:∀ b o,s1.heap.get? b=some o->s'.heap.get? b=some o:=λb o e=>by
   have hb:=A3 e
   refine hm.heap b o (λz => ?_) (Am _ (Am _ e))
   rcases Ao.mp z with z | z
   .rw [z] at hb
    exact absurd hb (by show ¬ ((s1.heap.push (revObj l ((its.toArray.size:Int) - 1))).objs.size < s1.heap.objs.size); rw [sz]; exact Nat.not_lt_of_le (Cv _))
   .rw [Ai.mp z] at hb
    exact Cf _ hb
  have es:s'={ s1 with heap:=s'.heap,toks:=s'.toks }:=by
   have g1:=hm.gens
   have g2:=hm.drawn
   have g3:=hm.os
   cases s'
   cases s1
   simp_all
  have le:s1.heap.objs.size <= (s1.heap.push (revObj l ((its.toArray.size:Int) - 1))).objs.size:=by rw [sz]; exact Cv _
  rw [qsh hacc] at hS'
  have new:ObjOk X.prog X.w (upd H1 (s1.heap.push (revObj l ((its.toArray.size:Int) - 1))).objs.size (.lst ys.reverse)) s'.heap (s1.heap.push (revObj l ((its.toArray.size:Int) - 1))).objs.size (.lst ys.reverse) :=
   ⟨by rw [Dr]; exact hz,its.reverse,c',qur r',hS'⟩
  have I3:=I1.laid (t':=s'.toks) kp le new
  rw [<- es] at I3
  exact ⟨.ref _,_,I3,rfl,q _ (I1.hok.fresh le)⟩
 .have:=r'.length
  simp only [Av]
  lia
end
end Add
namespace Lay
end Lay
namespace Add
open PySem PySem.Spec PyProof.Rows L2
end Add
namespace Add
open PySem PySem.Spec PyProof.Rows L2
section
variable {X:Cx} {CX:CXT} {k:Nat} {f C:Addr} {fd:AD} {ps ks:List Str} {sp:Sp} {E:XK} {x:Str} {p pos:Pos} {e:Expr} {es:List Expr} {kws:List Keyword} {t tk:TA} {g:List Value->List Value->List Value} {gV:List V->List V->List V}
end
noncomputable def g21 {α:Type} (n:α):List α->List α->List α
 | [a,b],[c]=>[a,b,n,c]
 | _,_=>[]
section
variable {X:Cx}
theorem qus (n:Nat):(Bh n).all (λ_=>true)=true:=by simp
end
section
variable {X:Cx}
noncomputable def ipL:TIp:=λx y H Q=>∃ l b xs zs,x=.ref l/\y=.ref b/\H l=some (.lst xs)/\H b=some (.lst zs)/\xs.length + zs.length <= A0/\Q (.ref l) (upd H l (.lst (xs ++ zs)))
theorem qjp:fillsInplaceSlot (.type "list") "add" (Operator.Add == .Add)=pure false:=by
 unfold fillsInplaceSlot
 show (typeLookup (.type "list") (dunderI "add") >>= λfi=>pure (fi.isSome && !isSeqSlot fi))=pure false
 rw [F.slot_list_iadd.lookup]
 rfl
theorem qlp:seqSlot? (.type "list") (dunderI "add")=pure (some (.builtin "list.__iadd__")):=PySem.seqSlot_of F.slot_list_iadd.lookup En
theorem ip_ext:PIp X .Add ipL:=by
 intro pins s σ H x y v u Q I rx ry h
 obtain ⟨l,b,xs,zs,rfl,rfl,hH,hB,hz,q⟩:=h
 cases rx
 cases ry
 obtain ⟨z,its,n,r,hl,e⟩:=I.lstM hH
 obtain ⟨z2,its2,n2,r2,hl2,e2⟩:=I.lstM hB
 have hsz:its.toArray.size + its2.toArray.size <= A0:=by rw [Av,Av]; lia
 have hlong:¬ (!its.toArray.isEmpty && AM.List.listTooLong (its.toArray.size + its2.toArray.size))=true:=by
  rw [qn4 hsz,CQ]
  exact A9
 unfold inplaceOp
 refine Cg ?_
 have ta:s.TypeIs (.ref l) "list" := ⟨_,e,rfl⟩
 have tb:s.TypeIs (.ref b) "list" := ⟨_,e2,rfl⟩
 refine Ad (wpAny_typeOf ta (Ad (wpAny_of_eq qjp ?_)))
 show wpAny _ _ (if false=true then _ else _) _ _ s
 rw [if_neg A9]
 refine Ad (wpAny_binaryOp1_none (nm := "add") ta tb noFill_list_add ?_)
 refine Ad (wpAny_of_eq qlp ?_)
 refine Ad (wpAny_rule ?_)
 refine DJ F.slot_list_iadd ta F.entry_list_iadd (F.args_list_iadd_2 _ _)
  (AutoSeq1.list___iadd___list_list_0 l its.toArray n b its2.toArray n2 hlong (by rw [Av]; lia) (by lia)) ⟨e,e2,?_⟩
 refine ⟨.ref l,_,I.lset (its':=its ++ its2) hH e (by simp) (r.append r2) ?_,rfl,q⟩
 rw [Ag]
 lia
theorem qmf {α β:Type} {F:α->β->Prop}:∀ {l:List α} {m:List β},l.length=m.length->(∀ (j:Nat) (x:α) (u:β),l[j]?=some x->m[j]?=some u->F x u)->Dz F l m
 | [],[],_,_=>.nil
 | x :: l,u :: m,h,f=>.cons (f 0 x u rfl rfl) (qmf (CF h) λj y v hy hv=>f (j + 1) y v hy hv)
theorem is_kV {P:AN} {w:World} {k:Key} {u:Value} (h:(qb4 P w).is k u=true):RelV (kV k) u:=by
 cases k with
 | inl i=>exact Value.isInt_shape h
 | inr x=>exact Value.isStrOf_shape h
theorem qpv (hc:X.calm=true):qel X (.type "list") (λxs H Q=>∃ (d:Addr) (kvs:List (Key × V)),xs=[.ref d]/\H d=some (.dK kvs)/\∀ l,H l=none->Q (.ref l) (upd H l (.lst (kvs.map λkv=>kV kv.1)))):=by
 intro pins s σ H xs us Q I r h
 obtain ⟨d,kvs,rfl,hd,q⟩:=h
 obtain ⟨u,rfl,rx⟩:=qfy r
 cases rx
 obtain ⟨z,lo,vs,kv,hD⟩:=qqx I.hok hd
 obtain ⟨ep,hat⟩:=hD.dictAt
 refine PySem.W.kdl_call (PySem.W.kdl_dict (knd:=qb4 X.prog X.w) (kvs:=vs) (ep:=ep) lo) (I.ok.hd hc) hat (by rw [<- kv.length]; exact z) λh' tk acc c kp e ia => ?_
 have rv:Vals (kvs.map λkv=>kV kv.1) acc.toList:=by
  have hl:(kvs.map λkv=>kV kv.1).length=acc.toList.length:=(Ab _).trans (kv.length.trans (ia.1.symm.trans AH.symm))
  refine qmf hl λj x u hx hu => ?_
  obtain ⟨k,y,hk,hi⟩:=ia.2 j u (by rw [<- DG]; exact hu)
  rw [An] at hx
  have ek:=congrArg (·[j]?) kv.keys
  simp only [An,hk,Dd] at ek
  cases ej:kvs[j]? with
  | none=>rw [ej] at hx; cases hx
  | some p =>
   rw [ej] at hx ek
   cases hx
   cases AF ek
   exact is_kV hi
 exact ⟨.ref s.heap.objs.size,_,I.laid (t':=tk) kp (A1 _) (show ObjOk X.prog X.w _ h' _ (.lst (kvs.map λkv=>kV kv.1)) from ⟨by rw [Ab]; exact z,acc.toList,c,rv,by simpa using e⟩),rfl,q _ (I.hok.fresh (A1 _))⟩
end
noncomputable def KeepN (H H':Hp):Prop:=∀ b o,(∀ l,o ≠ .lst l)->H b=some o->H' b=some o
theorem KeepN.of {H H':Hp} (s:Same H H'):KeepN H H':=λb o _ e=>s b o e
section
variable {X:Cx} {CX:CXT} {ι:Type} {k:ι->Nat} {f C:ι->Addr} {fd:ι->AD} {ps:ι->List Str} {sp:ι->Sp} {dvs:List V} {ds:List Value} {E:XK} {m:Str} {pos apos:Pos} {e o:Expr} {es:List Expr} {ta:TE} {t:TA}
end
section
variable {X:Cx}
end
section
variable {K:Ae} {C:Addr}
end
section
variable {X:Cx} {tg:Expr}
end
section
variable {X:Cx}
theorem qon:∀ {ss:List Str} {its:List Value},Vals (ss.map V.str) its->StrsAre its ss
 | [],_,.nil=>.nil
 | y :: ss,_,.cons a r=>by
  obtain ⟨t,rfl⟩:=a
  exact .cons y t (qon r)
theorem qw3:OpR X (compareOp .IsNot) (λx y H Q=>∃ b c:Bool,x=.bl b/\y=.bl c/\Q (.bl (b != c)) H):=by
 intro pins s σ H x y v u Q I rx ry h
 obtain ⟨b,c,rfl,rfl,q⟩:=h
 cases rx
 cases ry
 exact PyProof.Rows.isnot_bool ⟨.bl (b != c),H,I,rfl,q⟩
end
section
variable {X:Cx}
noncomputable def qw4:V->List V->Hp->VK->Prop:=λx vs H Q=>∃ (l:Addr) (ss:List Str) (k:Str) (j:Nat),x=.ref l/\vs=[.str k]/\H l=some (.lst (ss.map V.str))/\ss[j]?=some k/\(∀ m,m < j->ss[m]? ≠ some k)/\Q (.int (j:Int)) H
theorem are_at {its:List Value} {ss:List Str} (r:StrsAre its ss):∀ {m:Nat} {z:Str},ss[m]?=some z->∃ t,its[m]?=some (.str z t):=by
 induction r with
 | nil=>intro m z h; cases h
 | cons y t _ ih =>
  intro m z h
  cases m with
  | zero=>cases h; exact ⟨_,rfl⟩
  | succ m=>exact ih h
theorem qw5 {its:List Value} {ss:List Str} (r:StrsAre its ss):its.length=ss.length:=by
 induction r with
 | nil=>rfl
 | cons _ _ _ ih=>rw [Aq,Aq,ih]
theorem qsi:MtR X "list.index" qw4:=by
 intro pins s σ H x vs v us Q I rx rv h
 obtain ⟨l,ss,k,j,rfl,rfl,hH,hj,hno,q⟩:=h
 cases rx
 obtain ⟨u,rfl,ru⟩:=rv.one
 obtain ⟨t,rfl⟩:=ru
 obtain ⟨z,its,n,r,hl,e⟩:=I.lstM hH
 have sa:=qon r
 have la:=qw5 sa
 obtain ⟨hjl,_⟩:=Af.mp hj
 rw [Ab,Bf] at z
 have at':∀ {m:Nat} (hm:m < its.toArray.size) {y:Str},ss[m]?=some y->isStrOf k its.toArray[m]=(y == k):=λ{m} hm {y} h=>by
  obtain ⟨t',e'⟩:=are_at sa h
  have:its.toArray[m]=.str y t':=by
   have h2:its[m]?=some its[m]:=by simp
   rw [h2] at e'
   simpa using AF e'
  rw [this]; rfl
 refine DJ F.slot_list_index ⟨_,e,rfl⟩ F.entry_list_index (F.args_list_index_2 _ _)
  (SeqAt.list_indexAt l its.toArray n _ _ (.str k t) (isStrOf k) j (by rw [Av]; lia) (by lia) ?_ ?_) ⟨e,λy hy=>(eq_isStrOf k t sa y (by simpa using hy)).at _ _,?_⟩
 .rw [at' _ hj]; exact beq_self_eq_true k
 .intro m hm hlt
  obtain ⟨y,hy⟩:∃ y,ss[m]?=some y:=⟨_,Aj (by lia)⟩
  rw [at' hm hy]
  cases eb:y == k with
  | false=>rfl
  | true=>rw [eq_of_beq eb] at hy; exact absurd hy (hno m hlt)
 .exact ⟨.int (j:Int),H,I.tok _,⟨_,rfl⟩,q⟩
end
section
end
section
variable {prog:AN} {w:World} {A:AX} {E:Value->Ah->Prop} {s:Ah}
theorem qpw {it t:Addr} {i:Nat} {items:Array Value} {x:Value} {Q:Value->Ah->Prop} (hi:s.heap.IsTupleIter it t i) (ht:s.heap.IsTuple t items) (hx:items[i]?=some x)
  (hQ:∀ h',h'.IsTupleIter it t (i + 1)->Cq it s.heap h'->Q x { s with heap:=h' }):wpAny (model prog w) A (AM.SmallTypes.nextOf (.ref it)) Q E s:=by
 obtain ⟨o,ho,hc,hd⟩:=id hi
 obtain ⟨_,hol,_,_,hdl⟩:=ht
 unfold AM.SmallTypes.nextOf
 refine Ad (CT (name:=Aa "__next__") hi.typeIs C5 (DM C5 hi.typeIs F.entry_tuple_iterator_next ?_ (F.args_tuple_iterator_next_1 _)))
 show wpAny _ _ (field (.ref it) 0 >>= _) _ _ s
 refine Ad (BH ho hd (x:=.ref t) rfl ?_)
 show wpAny _ _ (if (Al t == BI)=true then _ else _) _ _ s
 rw [if_neg (show ¬ ((Al t == BI)=true) from A9)]
 show wpAny _ _ (field (.ref it) 1 >>= _) _ _ s
 refine Ad (BH ho hd (x:=.int i 0) rfl ?_)
 show wpAny _ _ (seqItems? (.ref t) >>= _) _ _ s
 refine Ad (Cj hol hdl ?_)
 simp only [CG,hx]
 exact Ad (Di ho hd (by simp) (A2 ⟨x,rfl,A2 (hQ _ ⟨_,B8 _ ho (C6 (Cc hd _)),(Obj.cls_mapFields ..).trans hc,by rw [Cc hd]; simp [rawInt]⟩ (Cq.update ..))⟩))
theorem qlq {it t:Addr} {i:Nat} {items:Array Value} {Q:Value->Ah->Prop} (hh:A.handled=none) (hi:s.heap.IsTupleIter it t i) (ht:s.heap.IsTuple t items) (hx:items[i]?=none)
  (hE:∀ h' e,Heap.ExtBut it s.heap h'->(∃ o,h'.get? e=some o/\o.cls=.type "StopIteration")->E (.ref e) { s with heap:=h' }):wpAny (model prog w) A (AM.SmallTypes.nextOf (.ref it)) Q E s:=by
 obtain ⟨o,ho,hc,hd⟩:=id hi
 obtain ⟨_,hol,_,_,hdl⟩:=ht
 unfold AM.SmallTypes.nextOf
 refine Ad (CT (name:=Aa "__next__") hi.typeIs C5 (DM C5 hi.typeIs F.entry_tuple_iterator_next ?_ (F.args_tuple_iterator_next_1 _)))
 show wpAny _ _ (field (.ref it) 0 >>= _) _ _ s
 refine Ad (BH ho hd (x:=.ref t) rfl ?_)
 show wpAny _ _ (if (Al t == BI)=true then _ else _) _ _ s
 rw [if_neg (show ¬ ((Al t == BI)=true) from A9)]
 show wpAny _ _ (field (.ref it) 1 >>= _) _ _ s
 refine Ad (BH ho hd (x:=.int i 0) rfl ?_)
 show wpAny _ _ (seqItems? (.ref t) >>= _) _ _ s
 refine Ad (Cj hol hdl ?_)
 simp only [CG,hx]
 refine Ad (wpAny_rule (Ad (Di ho hd (by simp) ?_)))
 show wpAny _ _ (newExc (.type "StopIteration") [] >>= _) _ _ _
 refine Ad ?_
 simp only [newExc,newTuple]
 refine Ad (DA (Ad (m:=firstArgMember _ _) (wpAny_of_eq (a:=BI) (by first | rfl | (simp only [firstArgMember]; rfl)) (DA ?_ (by size_fits)))) (by size_fits))
 exact wpAny_raiseNew_none hh (hE _ _ (((Cq.update ..).extBut.push _).push _) ⟨_,A5 _ rfl,rfl⟩)
theorem qsj (hh:A.handled=none) (it t:Addr) (ne:t ≠ it) (items:Array Value):Draws prog w A it [it,t] items.size (λi v=>items[i]?=some v) (λi h=>h.IsTupleIter it t i/\h.IsTuple t items) where
 live:=λ_ _ st=>let ⟨o,ho,_⟩:=st.1; ⟨o,ho⟩
 frame:=λ_ _ _ ⟨⟨o,ho,r⟩,⟨q,hq,r2⟩⟩ hk=>⟨⟨o,hk it (by simp) o ho,r⟩,⟨q,hk t (by simp) q hq,r2⟩⟩
 item:=λi s Q E hi st hQ=>qpw st.1 st.2 (x:=items[i]) (by simp [hi]) λh' h1 h2=>hQ _ h' s.toks (by simp [hi]) ⟨h1,st.2.extBut h2.extBut ne⟩ h2
 done:=λs Q E st hE=>qlq hh st.1 st.2 (by simp) hE
end
structure Zap (z TI TO i1 i2:Addr) (f1 f2:List Addr):Prop where
 tz:TI ≠ z
 oz:TO ≠ z
 to:TI ≠ TO
 m1:i1 ∈ f1
 m2:i2 ∈ f2
 z1:z ∉ f1
 z2:z ∉ f2
 o1:TO ∉ f1
 o2:TO ∉ f2
 t1:TI ∉ f1
 t2:TI ∉ f2
 x1:i1 ∉ f2
 x2:i2 ∉ f1
noncomputable def qmg (z TI TO i1 i2:Addr) (S1 S2:Nat->Heap->Prop) (f0:Value) (k:Nat) (h:Heap):Prop:=IsZip h z TI TO f0/\DN h TI (.ref i1) (.ref i2)/\(∃ a b,DN h TO a b)/\S1 k h/\S2 k h
section
variable {prog:AN} {w:World} {A:AX} {E:Value->Ah->Prop} {s:Ah} {z TI TO i1 i2:Addr} {f1 f2:List Addr} {n n2 k:Nat} {P1 P2:Nat->Value->Prop} {S1 S2:Nat->Heap->Prop}
theorem qut {Q:Value->Ah->Prop} (D1:Draws prog w A i1 f1 n P1 S1) (D2:Draws prog w A i2 f2 n2 P2 S2) (ap:Zap z TI TO i1 i2 f1 f2) (st:qmg z TI TO i1 i2 S1 S2 .none k s.heap) (hk:k < n) (hk2:k < n2)
  (hQ:∀ h' tk x y,P1 k x->P2 k y->qmg z TI TO i1 i2 S1 S2 (rawInt s.heap.objs.size) (k + 1) h'->DN h' s.heap.objs.size x y->(∀ c o,c ≠ z->c ≠ TO->c ≠ i1->c ≠ i2->s.heap.get? c=some o->h'.get? c=some o)->Q (.ref s.heap.objs.size) { s with heap:=h',toks:=tk }) :
  wpAny (model prog w) A (AM.«zip.__next__» ⟨[.ref z],[]⟩) (λfin s'=>∃ v,fin=.done (.ret v)/\Q v s') E s:=by
 obtain ⟨hz,hTI,⟨a,b,hTO⟩,h1,h2⟩:=st
 have n1:∀ b ∈ f1,b ≠ z/\b ≠ TO/\b ≠ i2:=λb hb=>⟨λe=>ap.z1 (e ▸ hb),λe=>ap.o1 (e ▸ hb),λe=>ap.x2 (e ▸ hb)⟩
 have m2:∀ b ∈ f2,b ≠ z/\b ≠ TO/\b ≠ i1:=λb hb=>⟨λe=>ap.z2 (e ▸ hb),λe=>ap.o2 (e ▸ hb),λe=>ap.x1 (e ▸ hb)⟩
 have zi1:z ≠ i1:=λe=>(n1 i1 ap.m1).1 e.symm
 have zi2:z ≠ i2:=λe=>(m2 i2 ap.m2).1 e.symm
 have oi1:TO ≠ i1:=λe=>(n1 i1 ap.m1).2.1 e.symm
 have oi2:TO ≠ i2:=λe=>(m2 i2 ap.m2).2.1 e.symm
 have ti1:TI ≠ i1:=λe=>ap.t1 (e ▸ ap.m1)
 have ti2:TI ≠ i2:=λe=>ap.t2 (e ▸ ap.m2)
 show wpAny _ _ (field (.ref z) 2 >>= _) _ _ _
 refine Ad (BH hz rfl (x:=.bool false) rfl ?_)
 show wpAny _ _ (field (.ref z) 3 >>= _) _ _ _
 refine Ad (BH hz rfl (x:=.ref TI) rfl (Ad (Cj hTI rfl ?_)))
 show wpAny _ _ (AM.SmallTypes.ownedTupleIsFree (.ref z) >>= _) _ _ _
 refine Ad ?_
 unfold AM.SmallTypes.ownedTupleIsFree
 refine Ad (BH hz rfl (x:=.none) rfl (A2 ?_))
 simp only [if_true]
 refine Ad (wpAny_rule (Ad (BH hz rfl (x:=.ref TO) rfl (Ad (Da hz (by simp) λh3 hz3 b3=>Ad ?_)))))
 have z3:IsZip h3 z TI TO .ellipsis:=hz3
 simp only [List.zipIdx_cons,List.zipIdx_nil,DW,List.forIn_nil]
 refine Ad (Ad (wpAny_onRaise (Ad (D1.item k _ _ _ hk (D1.frame _ _ _ h1 λb hb o e=>b3.extBut b o (n1 b hb).1 e) λx h4 tk px s4 b4=>A2 ?_))))
 have o4:DN h4 TO a b:=b4.extBut _ _ oi1 (b3.extBut _ _ ap.oz hTO)
 refine Ad (Cj o4 rfl (Ad (wpAny_updateSeq_pair o4 λh5 ho5 b5=>Ad (wpAny_letGo (A2 ?_)))))
 have o5:DN h5 TO x b:=ho5
 refine Ad (Ad (wpAny_onRaise (Ad (D2.item k _ _ _ hk2 (D2.frame _ _ _ h2 λb hb o e=>b5.extBut b o (m2 b hb).2.1 (b4.extBut b o (m2 b hb).2.2 (b3.extBut b o (m2 b hb).1 e))) λy h6 tk2 py s6 b6=>A2 ?_))))
 have o6:DN h6 TO x b:=b6.extBut _ _ oi2 o5
 refine Ad (Cj o6 rfl (Ad (wpAny_updateSeq_pair o6 λh7 ho7 b7=>Ad (wpAny_letGo (A2 (A2 ?_))))))
 have o7:DN h7 TO x y:=ho7
 have sz:h7.objs.size=s.heap.objs.size:=by rw [b7.1,b6.1,b5.1,b4.1,b3.1]
 have kp:∀ c o,c ≠ z->c ≠ TO->c ≠ i1->c ≠ i2->s.heap.get? c=some o->h7.get? c=some o:=λc o c1 c2 c3 c4 e=>b7.extBut _ _ c2 (b6.extBut _ _ c4 (b5.extBut _ _ c2 (b4.extBut _ _ c3 (b3.extBut _ _ c1 e))))
 have z7:IsZip h7 z TI TO .ellipsis:=b7.extBut _ _ ap.oz.symm (b6.extBut _ _ zi2 (b5.extBut _ _ ap.oz.symm (b4.extBut _ _ zi1 z3)))
 refine Ad (Cj o7 rfl (Ad (wpAny_newTuple (Ad ?_))))
 unfold AM.SmallTypes.ownedTupleHandOut
 refine Ad (Da (Am _ z7) (by simp) λh8 hz8 b8 => ?_)
 have z8:IsZip h8 z TI TO (rawInt h7.objs.size):=hz8
 refine Da z8 (by simp) λh9 hz9 b9=>A2 ⟨_,rfl,?_⟩
 have z9:IsZip h9 z TI TO (rawInt h7.objs.size):=hz9
 have up:∀ c o,c ≠ z->h7.get? c=some o->h9.get? c=some o:=λc o c1 e=>b9.extBut _ _ c1 (b8.extBut _ _ c1 (Am _ e))
 have zl:z < h7.objs.size:=A3 z7
 have p9:DN h9 h7.objs.size x y:=b9.extBut _ _ (C0 zl) (b8.extBut _ _ (C0 zl) (A5 _ rfl))
 show Q (.ref h7.objs.size) _
 rw [sz] at z9 p9 |-
 refine hQ h9 _ x y px py ⟨z9,up _ _ ap.tz (kp _ _ ap.tz ap.to ti1 ti2 hTI),⟨x,y,up _ _ ap.oz o7⟩,?_,?_⟩ p9 λc o c1 c2 c3 c4 e=>up c o c1 (kp c o c1 c2 c3 c4 e)
 .exact D1.frame _ _ _ s4 λb hb o e=>up b o (n1 b hb).1 (b7.extBut _ _ (n1 b hb).2.1 (b6.extBut _ _ (n1 b hb).2.2 (b5.extBut _ _ (n1 b hb).2.1 e)))
 .exact D2.frame _ _ _ s6 λb hb o e=>up b o (m2 b hb).1 (b7.extBut _ _ (m2 b hb).2.1 e)
theorem qw6 {Q:Fin->Ah->Prop} (D1:Draws prog w A i1 f1 n P1 S1) (m1:i1 ∈ f1) (z1:z ∉ f1) (st:qmg z TI TO i1 i2 S1 S2 .none n s.heap)
  (hE:∀ h' e,(∀ c o,c ≠ z->c ≠ TO->c ≠ i1->c ≠ i2->s.heap.get? c=some o->h'.get? c=some o)->(∃ o,h'.get? e=some o/\o.cls=.type "StopIteration")->E (.ref e) { s with heap:=h' }) :
  wpAny (model prog w) A (AM.«zip.__next__» ⟨[.ref z],[]⟩) Q E s:=by
 obtain ⟨hz,hTI,⟨a,b,hTO⟩,h1,h2⟩:=st
 have n1:∀ b ∈ f1,b ≠ z:=λb hb e=>z1 (e ▸ hb)
 show wpAny _ _ (field (.ref z) 2 >>= _) _ _ _
 refine Ad (BH hz rfl (x:=.bool false) rfl ?_)
 show wpAny _ _ (field (.ref z) 3 >>= _) _ _ _
 refine Ad (BH hz rfl (x:=.ref TI) rfl (Ad (Cj hTI rfl ?_)))
 show wpAny _ _ (AM.SmallTypes.ownedTupleIsFree (.ref z) >>= _) _ _ _
 refine Ad ?_
 unfold AM.SmallTypes.ownedTupleIsFree
 refine Ad (BH hz rfl (x:=.none) rfl (A2 ?_))
 simp only [if_true]
 refine Ad (wpAny_rule (Ad (BH hz rfl (x:=.ref TO) rfl (Ad (Da hz (by simp) λh3 hz3 b3=>Ad ?_)))))
 have z3:IsZip h3 z TI TO .ellipsis:=hz3
 simp only [List.zipIdx_cons,List.zipIdx_nil,DW,List.forIn_nil]
 refine Ad (Ad (wpAny_onRaise (Ad (D1.done _ _ _ (D1.frame _ _ _ h1 λb hb o e=>b3.extBut b o (n1 b hb) e) λh4 e b4 he => ?_))))
 obtain ⟨oe,hoe,hce⟩:=he
 have z4:IsZip h4 z TI TO .ellipsis:=b4 _ _ (λe=>n1 i1 m1 e.symm) z3
 have ez:e ≠ z:=λq=>by subst q; rw [z4] at hoe; cases hoe; simp at hce
 exact Da z4 (by simp) λh5 _ b5=>hE h5 e (λc o c1 _ c3 _ q=>b5.extBut _ _ c1 (b4 _ _ c3 (b3.extBut _ _ c1 q))) ⟨oe,b5.extBut _ _ ez hoe,hce⟩
theorem quu {Q:Option Value->Ah->Prop} (D1:Draws prog w A.in1 i1 f1 n P1 S1) (D2:Draws prog w A.in1 i2 f2 n2 P2 S2) (ap:Zap z TI TO i1 i2 f1 f2) (st:qmg z TI TO i1 i2 S1 S2 .none k s.heap) (hk:k < n) (hk2:k < n2)
  (hQ:∀ h' tk x y,P1 k x->P2 k y->qmg z TI TO i1 i2 S1 S2 (rawInt s.heap.objs.size) (k + 1) h'->DN h' s.heap.objs.size x y->(∀ c o,c ≠ z->c ≠ TO->c ≠ i1->c ≠ i2->s.heap.get? c=some o->h'.get? c=some o)->Q (some (.ref s.heap.objs.size)) { s with heap:=h',toks:=tk }) :
  wpAny (model prog w) A (pyNext (.ref z)) Q E s:=by
 have hT:s.TypeIs (.ref z) "zip" := ⟨_,st.1,rfl⟩
 unfold pyNext
 exact Ad (wpAny_attempt (CT (name:=Aa "__next__") hT DY (DM DY hT F.entry_zip_next (qut D1 D2 ap st hk hk2 λh' tk x y a1 a2 a3 a4 a5=>A2 (hQ h' tk x y a1 a2 a3 a4 a5)) (F.args_zip_next_1 _))))
theorem qoo {Q:Option Value->Ah->Prop} (D1:Draws prog w A.in1 i1 f1 n P1 S1) (m1:i1 ∈ f1) (z1:z ∉ f1) (st:qmg z TI TO i1 i2 S1 S2 .none n s.heap)
  (hQ:∀ h',(∀ c o,c ≠ z->c ≠ TO->c ≠ i1->c ≠ i2->s.heap.get? c=some o->h'.get? c=some o)->Q none { s with heap:=h' }):wpAny (model prog w) A (pyNext (.ref z)) Q E s:=by
 have hT:s.TypeIs (.ref z) "zip" := ⟨_,st.1,rfl⟩
 unfold pyNext
 refine Ad (wpAny_attempt (CT (name:=Aa "__next__") hT DY (DM DY hT F.entry_zip_next (qw6 D1 m1 z1 st λh' e kp he => ?_) (F.args_zip_next_1 _))))
 obtain ⟨o,ho,hc⟩:=he
 exact Ad (wpAny_isInstance (T := "StopIteration") (b:=true) ⟨o,ho,hc⟩ isSubtype_stop (A2 (hQ _ kp)))
end
theorem qq9 {X:Cx} {pins:List (Addr × Obj)} {σ:L2.St} {H:Hp} {s:Ah} {h':Heap} {t':Nat} {ch:List Addr} (I:Inv X pins σ H s) (k:∀ b o,b ∉ ch->s.heap.get? b=some o->h'.get? b=some o) (f:∀ b ∈ ch,qek X pins H b):Inv X pins σ H { s with heap:=h',toks:=t' }:=by
 refine I.step (g':=s.gens) (d':=s.drawn) (ch:=ch) (λb hb=>⟨(f b hb).2.2.2.1,(f b hb).2.1,(f b hb).2.2.2.2.1,(f b hb).2.2.2.2.2⟩) (λb o _ _ hc q _=>k b o hc q) (λb o _ _ hc q _=>⟨o.slots,k b o hc q⟩) (λ_ _ _ _ n=>n)
  (λb o hc q=>⟨o,k b o hc q⟩) (λ_ _ q=>q) (λ_ _ _ q=>q) (λb ps q=>⟨#[],by rw [q]; simp⟩) (λm hm => ?_) (λb u q => ?_) I.bare
 .obtain ⟨o,es,ep,ho,r⟩:=hm
  exact ⟨o,es,ep,k _ o (λz=>(f _ z).2.1 rfl) ho,r⟩
 .refine (I.hok b u q).stay (λc v hc z=>k c v (λm => ?_) z) (λ_ z=>z) λ_ _ z=>z
  rcases hc with rfl | hc
  .rw [(f _ m).1] at q; cases q
  .rw [(f c m).1] at hc; cases hc
theorem fp_neT {X:Cx} {pins:List (Addr × Obj)} {σ:L2.St} {H:Hp} {s:Ah} {a b:Addr} {xs:List V} (I:Inv X pins σ H s) (f:qek X pins H b) (h:SqT X.K H a xs):a ≠ b:=λe=>by
 subst e
 rcases h with h | ⟨o,its,n,hk,_⟩
 .have:=f.1
  rcases h with h | ⟨u,h⟩ <;> (rw [this] at h; cases h)
 .have hb:=I.ok.mod.kin a o hk
  rcases f.2.2.2.1 with z | z
  .exact I.ok.noex a o hb z
  .exact absurd (A8 (A3 hb) (Au I.ok.bsz z)) (Cf _)
noncomputable def Itz (K:Ae) (a b:Addr):It :=
 ⟨λi H=>∃ xs ys,SqL K H a xs/\SqT K H b ys/\xs.length=ys.length/\i < xs.length,
  λi H x H'=>∀ xs ys,SqL K H a xs->SqT K H b ys->∃ y1 y2 t,xs[i]?=some y1/\ys[i]?=some y2/\H t=none/\x=.ref t/\H'=upd H t (.tup [y1,y2]),
  λi H=>∃ xs,SqL K H a xs/\xs.length=i⟩
theorem fp_upd' {X:Cx} {pins:List (Addr × Obj)} {H:Hp} {b t:Addr} {o:HO} (f:qek X pins H b) (ne:b ≠ t):qek X pins (L2.upd H t o) b:=⟨by rw [zd ne]; exact f.1,f.2⟩
theorem quv {P:AN} {w:World} {K:Ae} {es:List Expr} {kk pos} (l t z TI TO i1 i2:Addr) (nd:[z,TI,TO,i1,i2].Nodup) :
  Turn P w K (.Tuple es kk pos) (Itz K l t) [z,TI,TO,i1,i2] z (λi h=>IsZip h z TI TO .none/\DN h TI (.ref i1) (.ref i2)/\(∃ a b,DN h TO a b)/\h.IsListIter i1 l i/\h.IsTupleIter i2 t i) where
 mem:=by simp
 obj:=λi h st b hb=>by
  obtain ⟨h1,h2,⟨_,_,h3⟩,⟨o4,h4,_,d4⟩,⟨o5,h5,_,d5⟩⟩:=st
  simp only [Ao,Ar,or_false] at hb
  rcases hb with rfl | rfl | rfl | rfl | rfl
  .exact ⟨_,h1,λv z=>by cases z⟩
  .exact ⟨_,h2,λv z=>by cases z⟩
  .exact ⟨_,h3,λv z=>by cases z⟩
  .exact ⟨o4,h4,λv z=>by rw [d4] at z; cases z⟩
  .exact ⟨o5,h5,λv z=>by rw [d5] at z; cases z⟩
 keep:=λi h h' st k=>by
  obtain ⟨h1,h2,⟨a,b,h3⟩,⟨o4,h4,r4⟩,⟨o5,h5,r5⟩⟩:=st
  exact ⟨k z (by simp) _ h1,k TI (by simp) _ h2,⟨a,b,k TO (by simp) _ h3⟩,⟨o4,k i1 (by simp) _ h4,r4⟩,⟨o5,k i2 (by simp) _ h5,r5⟩⟩
 item:=by
  intro X hP hw hK hc i pins s σ H E I hf st hg
  subst hP hw hK
  obtain ⟨hz,hTI,hTO,h1,h2⟩:=st
  obtain ⟨xs,ys,hq,ht,hl,hi⟩:=hg
  obtain ⟨its,rv,p,_⟩:=I.list hq
  obtain ⟨jts,rw',p2,_⟩:=I.tuple ht
  have l1:=rv.length
  have l2:=rw'.length
  have hh:X.A.in1.handled=none:=I.ok.hd hc
  have nl:l ≠ i1:=λe=>by
   obtain ⟨o,g,c,_⟩:=h1
   obtain ⟨o',g',c',_⟩:=p.isList
   rw [e,g] at g'; cases g'; rw [c] at c'; simp at c'
  have nlz:l ∉ [z,TI,TO,i1,i2]:=λe=>by
   obtain ⟨o',g',c',_⟩:=p.isList
   simp only [Ao,Ar,or_false] at e
   rcases e with e | e | e | e | e
   .rw [e,hz] at g'; cases g'; simp at c'
   .rw [e,hTI] at g'; cases g'; simp at c'
   .obtain ⟨_,_,h3⟩:=hTO
    rw [e,h3] at g'; cases g'; simp at c'
   .exact nl e
   .obtain ⟨o,g,c,_⟩:=h2
    rw [e,g] at g'; cases g'; rw [c] at c'; simp at c'
  have ntz:t ∉ [z,TI,TO,i1,i2]:=λe=>fp_neT I (hf t e) ht rfl
  simp only [AW,Ao,Ar,or_false,not_or] at nd nlz ntz
  obtain ⟨⟨a1,a2,a3,a4⟩,⟨a5,a6,a7⟩,⟨a8,a9⟩,a10,_⟩:=nd
  obtain ⟨c1,c2,c3,c4,c5⟩:=nlz
  obtain ⟨d1,d2,d3,d4,d5⟩:=ntz
  have ap:Zap z TI TO i1 i2 [i1,l] [i2,t]:=by
   constructor <;> simp only [Ao,Ar,or_false,not_or,ne_eq] <;> first | exact .inl rfl | exact .inl trivial | (refine ⟨?_,?_⟩ <;> (intro e; first | exact a1 e | exact a2 e | exact a3 e | exact a4 e | exact a5 e | exact a6 e | exact a7 e | exact a8 e | exact a9 e | exact a10 e | exact a10 e.symm | exact c1 e.symm | exact c2 e.symm | exact c3 e.symm | exact c5 e.symm | exact d1 e.symm | exact d2 e.symm | exact d3 e.symm | exact d4 e.symm)) | (intro e; first | exact a1 e.symm | exact a2 e.symm | exact a5 e)
  refine quu (Draws.list hh i1 l nl its.toArray) (qsj hh i2 t d5 jts.toArray) ap ⟨hz,hTI,hTO,⟨h1,p.isList⟩,⟨h2,p2⟩⟩ (k:=i) (by simp; lia) (by simp; lia) λh' tk u v px py st' hp kp=>⟨_,rfl,?_⟩
  refine wpAny_letOwnedTupleGo_zip st'.1 λh3 hz3 sb => ?_
  replace sb:Cq z h' h3:=sb
  obtain ⟨x,hx⟩:∃ x,xs[i]?=some x:=⟨_,Aj hi⟩
  obtain ⟨y,hy⟩:∃ y,ys[i]?=some y:=⟨_,Aj (by lia)⟩
  obtain ⟨u',hu,ru⟩:=rv.get hx
  obtain ⟨v',hv,rv'⟩:=rw'.get hy
  obtain rfl:u=u':=by
   have px:its.toArray[i]?=some u:=px
   simp only [List.getElem?_toArray] at px
   rw [hu] at px; exact (AF px).symm
  obtain rfl:v=v':=by
   have py:jts.toArray[i]?=some v:=py
   simp only [List.getElem?_toArray] at py
   rw [hv] at py; exact (AF py).symm
  have lt:∀ b ∈ [z,TI,TO,i1,i2],b < s.heap.objs.size:=λb hb=>by
   obtain ⟨_,_,h3⟩:=hTO
   obtain ⟨_,g1,_⟩:=h1
   obtain ⟨_,g2,_⟩:=h2
   simp only [Ao,Ar,or_false] at hb
   rcases hb with rfl | rfl | rfl | rfl | rfl
   .exact A3 hz
   .exact A3 hTI
   .exact A3 h3
   .exact A3 g1
   .exact A3 g2
  have zl:z < s.heap.objs.size:=A3 hz
  have hp3:DN h3 s.heap.objs.size u v:=(sb.2 _ (C0 zl)).trans hp
  have hfr:H s.heap.objs.size=none:=I.hok.fresh (A1 _)
  have I1:=I.laid (a:=s.heap.objs.size) (o:=.tup [x,y]) (h':=s.heap.push { cls:=.type "tuple",data:=.seq #[u,v] }) (t':=s.toks) (λb o q=>Am _ q) (A1 _) ⟨show 2 <= A0 by rw [Bf]; decide,[u,v],.cons ru (.cons rv' .nil),⟨_,A5 _ rfl,rfl,_,rfl⟩⟩
  have I2:=qq9 (ch:=[z,TI,TO,i1,i2]) (h':=h3) (t':=tk) I1 (λb o n q=>by
   simp only [Ao,Ar,or_false,not_or] at n
   by_cases e:b=s.heap.objs.size
   .subst e
    rw [A5 _ rfl] at q
    cases q
    exact hp3
   .rw [Heap.get?_push_ne _ _ _ e] at q
    exact (sb.2 b n.1).trans (kp b o n.1 n.2.2.1 n.2.2.2.1 n.2.2.2.2 q)) (λb hb=>fp_upd' (hf b hb) (AJ (lt b hb)))
  obtain ⟨_,s2,⟨a',b',s3⟩,⟨s4,_⟩,⟨s5,_⟩⟩:=st'
  refine ⟨.ref s.heap.objs.size,_,I2,rfl,λxs' ys' hx' hy' => ?_,⟨hz3,(sb.2 _ (Bc a1)).trans s2,⟨a',b',(sb.2 _ (Bc a2)).trans s3⟩,s4.at λo q=>(sb.2 _ (Bc a3)).trans q,?_⟩,λb hb => ?_⟩
  .rw [I.list_inj hx' hq,I.tuple_inj hy' ht]
   exact ⟨x,y,_,hx,hy,hfr,rfl,rfl⟩
  .obtain ⟨o5,g5,r5⟩:=s5
   exact ⟨o5,(sb.2 _ (Bc a4)).trans g5,r5⟩
  .rw [zd (AJ (lt b hb))]; exact (hf b hb).1
 done:=by
  intro X hP hw hK hc i pins s σ H E I hf st hg
  subst hP hw hK
  obtain ⟨hz,hTI,hTO,h1,h2⟩:=st
  obtain ⟨xs,hq,hi⟩:=hg
  obtain ⟨its,rv,p,_⟩:=I.list hq
  have l1:=rv.length
  have hh:X.A.in1.handled=none:=I.ok.hd hc
  have nl:l ≠ i1:=λe=>by
   obtain ⟨o,g,c,_⟩:=h1
   obtain ⟨o',g',c',_⟩:=p.isList
   rw [e,g] at g'; cases g'; rw [c] at c'; simp at c'
  have ei:i=its.toArray.size:=by simp; lia
  subst ei
  have nz:z ∉ [i1,l]:=λe=>by
   rcases Ao.mp e with e | e
   .obtain ⟨o,g,c,_⟩:=h1
    rw [<- e,hz] at g; cases g; simp at c
   .obtain ⟨o',g',c',_⟩:=p.isList
    rw [<- Ai.mp e,hz] at g'; cases g'; simp at c'
  refine qoo (S2:=λk h=>h.IsTupleIter i2 t k) (Draws.list hh i1 l nl its.toArray) (by simp) nz ⟨hz,hTI,hTO,⟨h1,p.isList⟩,h2⟩ λh' kp=>⟨rfl,qq9 (ch:=[z,TI,TO,i1,i2]) (t':=s.toks) I (λb o n q => ?_) hf⟩
  simp only [Ao,Ar,or_false,not_or] at n
  exact kp b o n.1 n.2.2.1 n.2.2.2.1 n.2.2.2.2 q
 self:=λA i s Q E st h=>wpAny_pyIter_zip st.1 h
section
noncomputable abbrev zl1 (h:Heap) (l:Addr):Heap:=h.push { cls:=.type "list_iterator",data:=.fields #[.ref l,.int 0 0] }
noncomputable abbrev zl2 (h:Heap) (l t:Addr):Heap:=(zl1 h l).push { cls:=.type "tuple_iterator",data:=.fields #[.ref t,.int 0 0] }
noncomputable abbrev zl3 (h:Heap) (l t:Addr):Heap:=(zl2 h l t).push { cls:=.type "tuple",data:=.seq #[.ref h.objs.size,.ref (zl1 h l).objs.size] }
noncomputable abbrev zl4 (h:Heap) (l t:Addr):Heap:=(zl3 h l t).push { cls:=.type "tuple",data:=.seq #[.none,.none] }
noncomputable abbrev zl5 (h:Heap) (l t:Addr):Heap:=(zl4 h l t).push { cls:=.type "zip",data:=.fields #[.none,.bool false,.bool false,.ref (zl2 h l t).objs.size,.ref (zl3 h l t).objs.size] }
theorem quw (l t:Addr) (xs ys:Array Value):Meets (AM.«zip.__new__» ⟨[.type "zip",.ref l,.ref t],[]⟩) (λ_ R s=>s.heap.IsList l xs/\s.heap.IsTuple t ys/\R (.ok (.ret (.ref (zl4 s.heap l t).objs.size))) { s with heap:=zl5 s.heap l t }) :=
 .of_wp λprog w A R s h=>by
  obtain ⟨hp,g,d,tk,os⟩:=s
  obtain ⟨h1,h2,h⟩:=h
  have hsub:=sub_zip
  have hL1:Heap.IsList (Ah.heap ⟨hp,g,d,tk,os⟩) l xs:=h1
  have hL2:Heap.IsTuple (Ah.heap ⟨zl1 hp l,g,d,tk,os⟩) t ys:=Heap.IsTuple.push h2 _
  wp_walk using D6 hL1,wpAny_pyIter_tuple hL2
  exact ⟨_,rfl,h⟩
theorem qsk {prog:AN} {w:World} {A:AX} {E:Value->Ah->Prop} {s:Ah} {l t:Addr} {xs ys:Array Value} {Q:Value->Ah->Prop} (h1:s.heap.IsList l xs) (h2:s.heap.IsTuple t ys)
  (h:∀ h',IsZip h' (s.heap.objs.size + 4) (s.heap.objs.size + 2) (s.heap.objs.size + 3) .none->DN h' (s.heap.objs.size + 2) (.ref s.heap.objs.size) (.ref (s.heap.objs.size + 1))->DN h' (s.heap.objs.size + 3) .none .none ->
   h'.IsListIter s.heap.objs.size l 0->h'.IsTupleIter (s.heap.objs.size + 1) t 0->(∀ c o,s.heap.get? c=some o->h'.get? c=some o)->Q (.ref (s.heap.objs.size + 4)) { s with heap:=h' }):wpAny (model prog w) A (call (.type "zip") [.ref l,.ref t]) Q E s:=by
 refine callType_new F.called_zip Ez (F.typeCall_zip_2 _ _) (F.newCall_zip_2 _ _) (λobj=>F.args_object_init_3 obj _ _) F.entry_zip_new (quw l t xs ys) ⟨h1,h2,?_⟩
 have y1:(zl1 s.heap l).objs.size=s.heap.objs.size + 1:=Cu ..
 have y2:(zl2 s.heap l t).objs.size=s.heap.objs.size + 2:=by rw [Cu,y1]
 have y3:(zl3 s.heap l t).objs.size=s.heap.objs.size + 3:=by rw [Cu,y2]
 have y4:(zl4 s.heap l t).objs.size=s.heap.objs.size + 4:=by rw [Cu,y3]
 have up:∀ {h:Heap} {c:Addr} {o o':Obj},h.get? c=some o->(h.push o').get? c=some o:=λe=>Am _ e
 have g5:(zl5 s.heap l t).get? (zl4 s.heap l t).objs.size=some _:=A5 _ rfl
 have g4:(zl5 s.heap l t).get? (zl3 s.heap l t).objs.size=some _:=up (A5 _ rfl)
 have g3:(zl5 s.heap l t).get? (zl2 s.heap l t).objs.size=some _:=up (up (A5 _ rfl))
 have g2:(zl5 s.heap l t).get? (zl1 s.heap l).objs.size=some _:=up (up (up (A5 _ rfl)))
 have g1:(zl5 s.heap l t).get? s.heap.objs.size=some _:=up (up (up (up (A5 _ rfl))))
 rw [y2,y3,y4] at g5
 rw [y1,y2] at g3
 rw [y3] at g4
 rw [y1] at g2
 show _/\_
 rw [y4]
 exact ⟨⟨_,g5,rfl⟩,h _ g5 g3 g4 ⟨_,g1,rfl,rfl⟩ ⟨_,g2,rfl,rfl⟩ λc o e=>up (up (up (up (up e))))⟩
end
noncomputable def iZip (K:Ae) (ta:TA):TI:=λσ H R=>ta σ H λvs H1=>∃ a b xs ys,vs=[.ref a,.ref b]/\H1 a=some (.lst xs)/\SqT K H1 b ys/\R (Itz K a b) H1
theorem boot_zip':bootBuiltins "zip" = some (.type "zip"):=En
theorem pi_zip {X:Cx} {es:List Expr} {kk:_} {pos':Pos} {a b:Expr} {ta:TA} {p pos:Pos} (hg:Gl X "zip") (hm:X.mg "zip" = none) (ha:PA X [a,b] ta) (hs:starEach [a,b] X.env=(false,eval a X.env) :: starEach [b] X.env:=by rfl) (hb:(backTo pos (starEach [b] X.env)).any (·.1)=false:=by rfl):PI X (.Tuple es kk pos') (.Call (.Name "zip" p) [a,b] [] pos) (iZip X.K ta):=by
 intro pins s σ H R I h
 refine Call_ (qe5 I hg hm boot_zip' (Br (thn (ha pos pins s σ H _ I h) λus s1 ⟨vs,H1,I1,r1,q1⟩ => ?_) hs hb))
 obtain ⟨l,t,xs,ys,e,hl,ht,q⟩:=q1
 subst e
 obtain ⟨u,v,rfl,hu,hv⟩:=Vals.two r1
 cases qnb hu
 cases qnb hv
 obtain ⟨z,its,n,rv,hz,e⟩:=I1.lstM hl
 obtain ⟨jts,_,p2,_⟩:=I1.tuple ht
 refine qsk ⟨_,e,rfl,n,rfl⟩ p2 λh' a1 a2 a3 a4 a5 keep=>wpAny_pyIter_zip a1 ?_
 have I2:Inv X pins σ H1 { s1 with heap:=h' }:=I1.kept (t':=s1.toks) keep
 refine ⟨s1.heap.objs.size + 4,[s1.heap.objs.size + 4,s1.heap.objs.size + 2,s1.heap.objs.size + 3,s1.heap.objs.size,s1.heap.objs.size + 1],_,_,H1,rfl,I2,quv l t _ _ _ _ _ (by simp),⟨a1,a2,⟨_,_,a3⟩,a4,a5⟩,λb hb => ?_,q⟩
 have lb:s1.heap.objs.size <= b:=by
  simp only [Ao,Ar,or_false] at hb
  rcases hb with rfl | rfl | rfl | rfl | rfl <;> first | exact DO _ _ | exact A1 _
 exact I1.fpOk lb (I1.hok.fresh lb)
section
variable {X:Cx}
theorem qw7 {kvs:List (Key × V)} {vs:List (Key × Value)} (h:KV kvs vs):Vals (kvs.map (·.2)) (vs.map (·.2)):=by
 induction h with
 | nil=>exact .nil
 | cons r _ ih=>exact .cons r.2 ih
noncomputable def tLV (te:TE):TE:=λσ H Q=>te σ H λx H1=>∃ (d:Addr) (kvs:List (Key × V)),x=.ref d/\H1 d=some (.dK kvs)/\∀ q,H1 q=none->Q (.ref q) (upd H1 q (.lst (kvs.map (·.2))))
theorem qop {e:Expr} {te:TE} {p apos cpos pos:Pos} (hca:X.calm=true) (hgl:Gl X "list") (hml:X.mg "list" = none) (hbl:bootBuiltins "list" = some (.type "list")) (he:PE X e te)
  (hbase:attributeBase e "values" X.env (eval e X.env)=eval e X.env:=by rfl) (hline:(apos.endLine == cpos.line)=true:=by rfl):PE X (.Call (.Name "list" p) [.Call (.Attribute e "values" apos) [] [] cpos] [] pos) (tLV te):=by
 intro pins s σ H Q I h
 refine BJ (qe5 I hgl hml hbl ?_)
 refine Br ?_ rfl rfl
 show wpAny _ _ (spliced ((false,eval (.Call (.Attribute e "values" apos) [] [] cpos) X.env) :: [])) _ _ s
 refine D0 ?_
 refine wpAny_Call_method0_late hbase hline (thn (he pins s σ H _ I h) λv s1 ⟨x,H1,I1,r1,q1⟩ => ?_)
 obtain ⟨d,kvs,rfl,hd,q⟩:=q1
 cases r1
 obtain ⟨z,lo,vs,kv,hD⟩:=qqx I1.hok hd
 refine ⟨"dict", "dict.values",PySem.F.plainAttrs_dict,PySem.F.slot_dict_values,PySem.F.type_dict_values,hD.typeIs,?_,Calls.callWith_builtin rfl (PySem.evalArgs_none ?_)⟩
 .exact hD.mapOf.noDict
 refine call_meetsIn PySem.F.slot_dict_values hD.typeIs PySem.F.entry_dict_values (PySem.F.args_dict_values_1 _) (meets_dict_values (qb4 X.prog X.w) d lo) ⟨⟨vs,hD⟩,?_⟩
 refine D9 ?_
 obtain ⟨ep,hat⟩:=hD.dictAt
 have I2:Inv X pins σ H1 { s1 with heap:=s1.heap.push { cls:=.type "dict_values",data:=.fields #[.ref d] } }:=I1.kept (t':=s1.toks) λb o q=>Am _ q
 refine PySem.W.kdl_call (PySem.W.kdl_values (knd:=qb4 X.prog X.w) (kvs:=vs) (ep:=ep)) (I.ok.hd hca) ⟨⟨_,A5 _ rfl,rfl,rfl⟩,hat.push _⟩ (by rw [<- kv.length]; exact z) λh' tk acc c kp e ia => ?_
 have ea:acc.toList=vs.map (·.2):=BY λj=>by
  rw [An]
  by_cases hj:j < vs.length
  .have hja:j < acc.size:=by rw [ia.1]; exact hj
   have g:acc[j]?=some acc[j]:=Array.getElem?_eq_getElem hja
   obtain ⟨k,hk⟩:=ia.2 j _ g
   rw [DG,g,hk]; rfl
  .rw [By (by rw [AH,ia.1]; lia),By (by lia)]; rfl
 have rv:Vals (kvs.map (·.2)) acc.toList:=by rw [ea]; exact qw7 kv
 exact ⟨.ref (s1.heap.push { cls:=.type "dict_values",data:=.fields #[.ref d] }).objs.size,_,I2.laid (t':=tk) kp (A1 _) (show ObjOk X.prog X.w _ h' _ (.lst (kvs.map (·.2))) from ⟨by rw [Ab]; exact z,acc.toList,c,rv,by simpa using e⟩),rfl,q _ (I2.hok.fresh (A1 _))⟩
end
theorem qkk {M:Model} {A:AX} {E:Value->Ah->Prop} {s:Ah} {β:Type} {f:Value->β->Sem (ForInStep β)} {b:β}:∀ {cs:List Value},(∀ c ∈ cs,∀ Q:ForInStep β->Ah->Prop,Q (.yield b) s->wpAny M A (f c b) Q E s)->∀ {Q:β->Ah->Prop},Q b s->wpAny M A (forIn cs b f) Q E s
 | [],_,_,h=>by rw [List.forIn_nil]; exact A2 h
 | c :: cs,hf,Q,h=>by
  rw [DW]
  exact Ad (hf c Ak _ (qkk (λd hd=>hf d (At _ hd)) h))
theorem exm_no {M:Model} {K:Ae} {cls:Value} {tp e:Addr} {h:Heap} {cs:List Value} (X:K.In h) (LT:BG M h (typeOf (.ref e)) cls) (hp:h.get? tp=some { cls:=.type "tuple",data:=.seq cs.toArray }) (hx:∀ c ∈ cs,Ac K cls c=some false) :
  BG M h (excMatches (.ref e) (.ref tp)) false:=by
 intro A Q E s k₀ q
 obtain ⟨hh,g,d,tk,os⟩:=s
 have k:∀ b o,h.get? b=some o->hh.get? b=some o:=k₀
 have LT0:BG M h (isInstance (.ref tp) (.type "tuple")) true:=((BG.ld hp).andThen .now).andThen (BG.of_pure isSubtype_tuple_tuple)
 have LT:=LT.keeps k
 have LT0:=LT0.keeps k
 have hp':=k _ _ hp
 unfold excMatches
 refine Ad (LT0.at ?_)
 dsimp only
 rw [if_pos rfl]
 first
  | refine Ad (Cj hp' rfl ?_)
  | refine Ad (Ad (Cj hp' rfl (A2 ?_)))
 dsimp only [Option.getD_some,Option.getD]
 refine Ad (A2 (Ad (qkk (λc hc Q hq => ?_) ?_)))
 .obtain ⟨e1,_⟩:=PySem.W.exm_cls (M:=M) X (hx c (by simpa using hc))
  refine Ad ((e1.keeps k).at ?_)
  simp only [Bool.not_true,CZ,if_false]
  exact A2 hq
 .refine Ad (LT.at (Ad (qkk (λc hc Q hq => ?_) ?_)))
  .obtain ⟨_,S1⟩:=PySem.W.exm_cls (M:=M) X (hx c (by simpa using hc))
   refine Ad ((S1.keeps k).at ?_)
   simp only [CZ,if_false]
   exact A2 hq
  .exact A2 q
noncomputable def PCs (X:Cx) (es:List Expr) (us:List Value):Prop:=∀ (e:Value) (E:Value->Ah->Prop) (pos:Pos) (pins:List (Addr × Obj)) (s:Ah) (σ:L2.St) (H:Hp) (Q:List Value->Ah->Prop),Inv X pins σ H s->Q us s ->
 wpAny (model X.prog X.w) (X.A.mark (some e)) (spliced (backTo pos (starEach es X.env))) Q E s
section
variable {X:Cx} {t:Expr} {es:List Expr} {c:Value} {us:List Value} {qbl:List ExceptHandler} {tr:TH} {body:List Stmt} {pos pos':Pos}
theorem qw8:PCs X [] []:=λ_ _ _ _ _ _ _ _ _ h=>D9 h
theorem qd4 (hc:PC X t c) (hr:PCs X es us) (hs:starEach (t :: es) X.env=(false,eval t X.env) :: starEach es X.env:=by rfl):PCs X (t :: es) (c :: us):=by
 intro e E pos pins s σ H Q I h
 rw [hs]
 show wpAny _ _ (spliced ((false,eval t X.env) :: backTo pos (starEach es X.env))) _ _ s
 exact D0 (hc e E pins s σ H _ I (hr e E pos pins s σ H _ I h))
noncomputable def hNo (K:Ae) (cs:List Value) (qbl:TH):TH:=λD σ x C od H=>(cs.length <= A0/\∀ c ∈ cs,Ac K (.ref C) c=some false)/\qbl D σ x C od H
theorem ph_no {x1} (hc:PCs X es us) (hr:PH X qbl tr):PH X (.ExceptHandler (some (.Tuple es x1 pos')) none body pos :: qbl) (hNo X.K us tr):=by
 intro pins s σ H D x C od I fl has h
 obtain ⟨⟨hz,hx⟩,h⟩:=h
 refine wpAny_handleBy_cons (codeAny_handlers_test (wpAny_Tuple_spliced (hc (.ref x) _ pos' pins s σ H _ I ⟨hz,?_⟩))) (by intro q; cases q)
 have I2:Inv X pins σ H { s with heap:=s.heap.push { cls:=.type "tuple",data:=.seq us.toArray } }:=I.kept (t':=s.toks) λb o q=>Am _ q
 have fl2:qps X pins H (s.heap.push { cls:=.type "tuple",data:=.seq us.toArray }) x C od:=by
  obtain ⟨e,vs,sl,T,oT,ts,h1,h2,h3,h4,h5,h6⟩:=fl
  exact ⟨e,vs,sl,T,oT,ts,Am _ h1,h2,Am _ h3,h4,h5,h6⟩
 refine (exm_no I2.kIn (qpu fl2) (A5 _ rfl) hx).here ?_
 exact hr pins _ σ H D x C od I2 fl2 has h
end
theorem qux {K:Ae} {js:List (Option Nat)} {g:TG} {te:TE} {σ:L2.St} {H:Hp} {Q:VK} {a b:Addr} {xs ys:List V} (zs:List V) (Sv:L2.St->Prop) (hx:SqL K H a xs) (hy:SqT K H b ys) (le:xs.length=ys.length) (lz:zs.length=xs.length) (hz:xs.length <= A0) (h0:Sv (qe7 js σ))
  (step:∀ (i:Nat) (x y z:V) (t:Addr) (σ':L2.St) (H':Hp) (R:L2.St->VK),xs[i]?=some x->ys[i]?=some y->zs[i]?=some z->Same H H'->H' t=some (.tup [x,y])->Sv σ'->(∀ σ3 H5,Sv σ3->Same H' H5->R σ3 z H5)->g (.ref t) σ' H' λσ3 H3=>te σ3 H3 (R σ3))
  (gk:∀ (x:V) (σ':L2.St) (H':Hp) (R R':L2.St->Hp->Prop),(∀ σ3 H3,R σ3 H3->R' σ3 H3)->g x σ' H' R->g x σ' H' R')
  (fin:∀ p H',H p=none->Same H H'->H' p=some (.lst zs)->Q (.ref p) H'):qhh js g qqz te σ Q (Itz K a b) H:=by
 intro p hp
 refine ⟨λi m σ' H'=>m=xs.length - i/\i <= xs.length/\Sv σ'/\Same H H'/\H' p=some (.lst (zs.take i)),⟨xs.length,by simp,Bt _,h0,qam (Same.refl H) hp,by rw [qu]; rfl⟩,?_⟩
 rintro i m σ' H' ⟨rfl,hi,hv,sm,hh⟩
 have qx:=sm.seq hx
 have qy:=qsa sm hy
 by_cases hlt:i < xs.length
 .obtain ⟨z,ez⟩:∃ z,zs[i]?=some z:=⟨_,Aj (by lia)⟩
  refine .inr ⟨⟨xs,ys,qx,qy,le,hlt⟩,λσ2 H2=>Sv σ2/\Same H H2/\H2 p=some (.lst (zs.take (i + 1))),λσ2 H2 ⟨a,b,c⟩=>⟨xs.length - (i + 1),by lia,rfl,hlt,a,b,c⟩,λx H2 hy => ?_⟩
  obtain ⟨y1,y2,t,e1,e2,ht,rfl,rfl⟩:=hy xs ys qx qy
  have st:Same H' (upd H' t (.tup [y1,y2])):=qam (Same.refl H') ht
  refine gk _ _ _ _ _ (λσ3 H3 z => ?_) (step i y1 y2 z t σ' _ (λσ3 v H5=>∃ ys,H5 p=some (.lst ys)/\ys.length < A0/\(Sv σ3/\Same H (upd H5 p (.lst (ys ++ [v])))/\upd H5 p (.lst (ys ++ [v])) p=some (.lst (zs.take (i + 1))))) e1 e2 ez (sm.trans st) qu hv λσ3 H5 hs3 s5 => ?_)
  .exact z
  .refine ⟨_,s5 _ _ (st _ _ hh),?_,hs3,qam (sm.trans (st.trans s5)) hp,?_⟩
   .rw [Ap]; lia
   .rw [qu,CD,ez]; rfl
 .have e:i=xs.length:=by lia
  subst e
  refine .inl ⟨⟨xs,qx,rfl⟩,?_⟩
  rw [Bs (by lia)] at hh
  exact fin p _ hp sm hh
section
variable {X:Cx}
noncomputable def tBS (t:TE):TT:=λσ H Q=>t σ H λx H1=>∃ y:Str,x=.str y/\y.length <= A0/\Q (decide (y.length ≠ 0)) H1
theorem qw9 {e:Expr} {t:TE} (h:PE X e t) (he:∀ whole,isTrue e X.env whole=(do let v <- whole; standAt e.pos; holding [v] (truthy v)):=by intro _; rfl):PT X e (tBS t):=by
 intro pins s σ H Q I hw
 refine isTrue_plain (thn (h pins s σ H _ I hw) λv s1 ⟨x,H1,I1,r1,q1⟩ => ?_) (he _)
 obtain ⟨y,rfl,hy,q⟩:=q1
 obtain ⟨t',rfl⟩:=r1
 have hs:A0=16777216:=Bf
 refine PySem.P.truthy_str (by lia) ?_
 have e:((y.length:Int) != 0)=decide (y.length ≠ 0):=by
  rw [Cz,bne_iff_ne,decide_eq_true_eq]; lia
 rw [e]
 exact ⟨H1,I1.tok _,q⟩
theorem qsl {X:Cx}:qel X (.builtin "len") (λxs H Q=>∃ (d:Addr) (kvs:List (Key × V)),xs=[.ref d]/\H d=some (.dK kvs)/\Q (.int kvs.length) H):=by
 intro pins s σ H xs us Q I r h
 obtain ⟨d,kvs,rfl,hd,q⟩:=h
 obtain ⟨u,rfl,rx⟩:=qfy r
 cases rx
 obtain ⟨z,lo,vs,kv,hD⟩:=qqx I.hok hd
 have hs:A0=16777216:=Bf
 refine PySem.call_len_dict lo hD (by rw [<- kv.length]; lia) ?_
 exact ⟨.int kvs.length,H,I.tok _,⟨_,by rw [kv.length]⟩,q⟩
end
section
variable {X:Cx}
end
section
variable {prog:AN} {w:World} {A:AX} {E:Value->Ah->Prop} {s:Ah}
end
noncomputable abbrev Hd (x:Addr) (H:Hp):Prop:=∃ C od,H x=some (exO x C od false)
section
variable {P:AN} {w:World} {K:Ae} {mg:Str->Option Value} {base:Heap}
end
section
variable {X:Cx}
end
section
variable {X:Cx}
theorem qxa (l b:Addr) (as bs:Array Value) (n m:Nat) (dd:Option Addr) (ss:Array (Option Value)) (h0:¬(!as.isEmpty && AM.List.listTooLong (as.size + bs.size))=true) (h1:as.size <= A0) (h2:as.size + bs.size <= A0 + 1) :
  Meets (AM.«list.extend» ⟨[.ref l,.ref b],[]⟩) (λ_ R s=>s.heap.get? l=some ⟨.type "list",none,.seq as n,#[]⟩/\s.heap.get? b=some ⟨.type "tuple",dd,.seq bs m,ss⟩/\R (.ok (.ret .none)) { s with heap:=s.heap.update l (D3 λx=>x ++ bs),toks:=s.toks }):=by
 refine .of_wp λprog w A R s h => ?_
 obtain ⟨hp,g,d,tk,os⟩:=s
 obtain ⟨hl,hb,h⟩:=h
 have k1:=AutoSeq1.idx_int
 have k2:=AutoSeq1.sub_tuple_tuple
 have k3:=AutoSeq1.sub_list_list
 have k4:=AutoSeq1.sub_tuple_list
 have k5:=AutoSeq1.sub_list_tuple
 have hz':(as ++ bs).size <= A0 + 1:=Au (BQ Array.size_append) h2
 wp_walk using (wpAny_updateSeq hl rfl (hz:=h1) (_hz':=hz')),wpAny_loadPart' hl,wpAny_loadPart' hb
 exact ⟨_,rfl,h⟩
noncomputable def quy (K:Ae):V->List V->Hp->VK->Prop:=λx vs H Q=>∃ l b xs zs,x=.ref l/\vs=[.ref b]/\H l=some (.lst xs)/\SqT K H b zs/\xs.length + zs.length <= A0/\Q .non (upd H l (.lst (xs ++ zs)))
theorem qpx:MtM X "list.extend" (quy X.K):=by
 intro pins s σ H x vs v us Q I rx rv h
 obtain ⟨l,b,xs,zs,rfl,rfl,hH,hB,hz,q⟩:=h
 cases rx
 obtain ⟨u,rfl,ru⟩:=rv.one
 cases ru
 obtain ⟨z,its,n,r,hl,e⟩:=I.lstM hH
 obtain ⟨its2,r2,t2,hz2⟩:=I.tuple hB
 have hl2:=r2.length
 obtain ⟨⟨cl,dd,da,ss⟩,e2,rfl,n2,rfl⟩:=t2
 have hsz:its.toArray.size + its2.toArray.size <= A0:=by rw [Av,Av]; lia
 have hlong:¬ (!its.toArray.isEmpty && AM.List.listTooLong (its.toArray.size + its2.toArray.size))=true:=by
  rw [qn4 hsz,CQ]
  exact A9
 refine DJ F.slot_list_extend ⟨_,e,rfl⟩ F.entry_list_extend (F.args_list_extend_2 _ _)
  (qxa l b its.toArray its2.toArray n n2 dd ss hlong (by rw [Av]; lia) (by lia)) ⟨e,e2,?_⟩
 refine ⟨.non,_,I.lset (its':=its ++ its2) hH e (by simp) (r.append r2) ?_,rfl,q⟩
 rw [Ag]
 lia
noncomputable def strN:Option Str->V
 | none=>.non
 | some y=>.str y
theorem qsm:qel X (.type "str") (λxs H Q=>∃ o:Option Str,xs=[strN o]/\Q (.str (o.getD "None")) H):=by
 intro pins s σ H xs us Q I r h
 obtain ⟨o,rfl,q⟩:=h
 cases o with
 | none =>
  obtain ⟨u,rfl,e⟩:=qfy r
  cases e
  exact PySem.P.str_of_none ⟨.str _,H,I.tok _,⟨_,rfl⟩,q⟩
 | some y =>
  obtain ⟨u,rfl,t,rfl⟩:=qfy r
  exact PySem.P.str_of_str ⟨.str _,H,I,⟨_,rfl⟩,q⟩
end
theorem quz {js:List (Option Nat)} {g:TG} {te:TE} {J:It} {σ:L2.St} {H:Hp} {Q:VK} {xs:List V} (G:Addr->V->Addr->Hp->Prop) (Gk:∀ p x q H H',(∀ b o,b ≠ p->H b=some o->H' b=some o)->G p x q H->G p x q H') (Gn:∀ p x q H,G p x q H->H q ≠ none)
  (Sv:L2.St->Prop) (F:qke J H xs) (hz:xs.length <= A0) (h0:Sv (qe7 js σ))
  (step:∀ (p:Addr) (x:V) (σ':L2.St) (H':Hp) (RR:L2.St->VK),x ∈ xs->H p=none->Same H H'->(∃ zs,H' p=some (.lst zs))->Sv σ'->(∀ σ3 q H5,Sv σ3->Same H' H5->H' q=none->G p x q H5->RR σ3 (.ref q) H5)->g x σ' H' λσ3 H3=>te σ3 H3 (RR σ3))
  (gk:∀ (x:V) (σ':L2.St) (H':Hp) (R R':L2.St->Hp->Prop),(∀ σ3 H3,R σ3 H3->R' σ3 H3)->g x σ' H' R->g x σ' H' R')
  (fin:∀ (p:Addr) (H':Hp) (qs:List Addr),H p=none->Same H H'->H' p=some (.lst (qs.map V.ref))->qs.length=xs.length->qs.Nodup->(∀ (j:Nat) (x:V) (q:Addr),xs[j]?=some x->qs[j]?=some q->G p x q H'/\q ≠ p/\H q=none)->Q (.ref p) H') :
  qhh js g qqz te σ Q J H:=by
 intro p hp
 refine ⟨λi m σ' H'=>m=xs.length - i/\i <= xs.length/\Sv σ'/\Same H H'/\∃ ys:List Addr,H' p=some (.lst (ys.map V.ref))/\ys.length=i/\ys.Nodup/\∀ (j:Nat) (x:V) (q:Addr),xs[j]?=some x->ys[j]?=some q->G p x q H'/\q ≠ p/\H q=none,⟨xs.length,by simp,Bt _,h0,qam (Same.refl H) hp,[],qu,rfl,.nil,λj x y _ hy=>by cases hy⟩,?_⟩
 rintro i m σ' H' ⟨rfl,hi,hv,sm,us,hh,hl,nd,tt⟩
 obtain ⟨F1,F2⟩:=F _ sm
 by_cases hlt:i < xs.length
 .have ex:xs[i]?=some xs[i]:=by simp [hlt]
  obtain ⟨go,yl⟩:=F1 i _ ex
  refine .inr ⟨go,λσ2 H2=>Sv σ2/\Same H H2/\∃ ys:List Addr,H2 p=some (.lst (ys.map V.ref))/\ys.length=i + 1/\ys.Nodup/\∀ (j:Nat) (x:V) (q:Addr),xs[j]?=some x->ys[j]?=some q->G p x q H2/\q ≠ p/\H q=none,λσ2 H2 ⟨a,b,c⟩=>⟨xs.length - (i + 1),by lia,rfl,hlt,a,b,c⟩,λx H2 hy => ?_⟩
  obtain ⟨rfl,rfl⟩:=yl x H2 hy
  refine gk _ _ _ _ _ (λσ3 H3 z => ?_) (step p xs[i] σ' _ (λσ3 v H5=>∃ zs,H5 p=some (.lst zs)/\zs.length < A0/\(Sv σ3/\Same H (upd H5 p (.lst (zs ++ [v])))/\∃ ys:List Addr,upd H5 p (.lst (zs ++ [v])) p=some (.lst (ys.map V.ref))/\ys.length=i + 1/\ys.Nodup/\∀ (j:Nat) (x:V) (q:Addr),xs[j]?=some x->ys[j]?=some q->G p x q (upd H5 p (.lst (zs ++ [v])))/\q ≠ p/\H q=none)) (Bv hlt) hp sm ⟨_,hh⟩ hv λσ3 q H5 hs3 s5 nq hq => ?_)
  .exact z
  .have h5:=s5 _ _ hh
   have nqp:q ≠ p:=λz=>by rw [z,hh] at nq; cases nq
   have keep:∀ b o,b ≠ p->H5 b=some o->upd H5 p (.lst (us.map V.ref ++ [V.ref q])) b=some o:=λb o n e=>by rw [zd n]; exact e
   refine ⟨_,h5,?_,hs3,qam (sm.trans s5) hp,us ++ [q],?_,?_,?_,λj x y hx hyy => ?_⟩
   .rw [Ab]; lia
   .rw [qu,Ay]; rfl
   .rw [Ag,hl]; rfl
   .refine AO.mpr ⟨nd,List.pairwise_singleton _ _,λa ha b hb e => ?_⟩
    obtain ⟨j,hj⟩:=Bj ha
    have lj:=(Af.mp hj).1
    obtain ⟨g1,_⟩:=tt j _ a (Aj (by lia)) hj
    have:=Gn _ _ _ _ g1
    rw [e,Ai.mp hb] at this
    exact this nq
   .by_cases hj:j < us.length
    .rw [AS hj] at hyy
     obtain ⟨g1,g2,g3⟩:=tt j x y hx hyy
     exact ⟨Gk _ _ _ _ _ (λb o n e=>keep b o n (s5 _ _ e)) g1,g2,g3⟩
    .rw [AL (Nat.not_lt.mp hj)] at hyy
     have ej:j=i:=by
      have:=(Af.mp hyy).1
      simp at this
      lia
     subst ej
     rw [hl,Dn] at hyy
     rw [ex] at hx
     cases hx
     cases hyy
     exact ⟨Gk _ _ _ _ _ keep hq,nqp,sm.free nq⟩
 .have e:i=xs.length:=by lia
  subst e
  exact .inl ⟨F2,fin p _ us hp sm hh hl nd tt⟩
section
variable {X:Cx}
noncomputable def rEqNil (K:Ae):R2:=λx y H Q=>∃ a b xs,x=.ref a/\y=.ref b/\SqL K H a xs/\SqL K H b []/\Q (.bl xs.isEmpty) H
theorem qoq (hu:X.A.units < cLine):OpR X (compareOp .Eq) (rEqNil X.K):=by
 intro pins s σ H x y v u Q I rx ry h
 obtain ⟨a,b,xs,rfl,rfl,ha,hb,q⟩:=h
 cases rx
 cases ry
 obtain ⟨its,r1,p1,_⟩:=I.list ha
 obtain ⟨its2,r2,p2,_⟩:=I.list hb
 have l1:=r1.length
 have l2:=r2.length
 have l2:0=its2.length:=l2
 cases xs with
 | nil =>
  have l1:0=its.length:=l1
  refine SeqAt.eq_listAt (e:=λ_=>true) p1.isList p2.isList (by rw [Av,Av]; lia) hu (λj h1 _=>absurd h1 (by rw [Av]; lia)) ?_
  rw [qus]
  exact ⟨.bl true,H,I,rfl,q⟩
 | cons z zs =>
  rw [Aq] at l1
  refine SeqAt.eq_list_lengthsAt p1.isList p2.isList (bne_iff_ne.mpr (by rw [Av,Av]; lia)) hu ?_
  exact ⟨.bl false,H,I,rfl,q⟩
end
theorem qpy {js:List (Option Nat)} {g:TG} {tc:TT} {te:TE} {J:It} {σ:L2.St} {H:Hp} {Q:VK} {xs:List V} (b:V->Bool) (f:V->V) (Sv:L2.St->Prop) (F:qke J H xs) (hz:xs.length <= A0) (h0:Sv (qe7 js σ))
  (step:∀ (x:V) (σ':L2.St) (H':Hp) (N:L2.St->Hp->Prop) (R:L2.St->VK),x ∈ xs->Same H H'->Sv σ'->(∀ σ3 H5,Sv σ3->Same H' H5->b x=false->N σ3 H5)->(∀ σ3 H5,Sv σ3->Same H' H5->b x=true->R σ3 (f x) H5) ->
   g x σ' H' λσ3 H3=>tc σ3 H3 λk H4=>if k=true then te σ3 H4 (R σ3) else N σ3 H4)
  (gk:∀ (x:V) (σ':L2.St) (H':Hp) (R R':L2.St->Hp->Prop),(∀ σ3 H3,R σ3 H3->R' σ3 H3)->g x σ' H' R->g x σ' H' R')
  (fin:∀ p H',H p=none->Same H H'->H' p=some (.lst ((xs.filter b).map f))->Q (.ref p) H') :
  qhh js g tc te σ Q J H:=by
 intro p hp
 have fl:∀ i,((xs.take i).filter b).length <= i:=λi=>Au (List.length_filter_le b (xs.take i)) (by rw [Ap]; lia)
 refine ⟨λi m σ' H'=>m=xs.length - i/\i <= xs.length/\Sv σ'/\Same H H'/\H' p=some (.lst (((xs.take i).filter b).map f)),⟨xs.length,by simp,Bt _,h0,qam (Same.refl H) hp,by rw [qu]; rfl⟩,?_⟩
 rintro i m σ' H' ⟨rfl,hi,hv,sm,hh⟩
 obtain ⟨F1,F2⟩:=F _ sm
 by_cases hlt:i < xs.length
 .have ex:xs[i]?=some xs[i]:=by simp [hlt]
  obtain ⟨go,yl⟩:=F1 i _ ex
  have et:(xs.take (i + 1)).filter b=(xs.take i).filter b ++ (if b xs[i]=true then [xs[i]] else []):=by
   rw [CD,ex,List.filter_append]
   congr 1
   show List.filter b [xs[i]]=_
   rw [DL]
   rfl
  refine .inr ⟨go,λσ2 H2=>Sv σ2/\Same H H2/\H2 p=some (.lst (((xs.take (i + 1)).filter b).map f)),λσ2 H2 ⟨a,b,c⟩=>⟨xs.length - (i + 1),by lia,rfl,hlt,a,b,c⟩,λx H2 hy => ?_⟩
  obtain ⟨rfl,rfl⟩:=yl x H2 hy
  refine gk _ _ _ _ _ (λσ3 H3 z => ?_) (step xs[i] σ' _ (λσ2 H2=>Sv σ2/\Same H H2/\H2 p=some (.lst (((xs.take (i + 1)).filter b).map f))) (λσ3 v H5=>∃ ys,H5 p=some (.lst ys)/\ys.length < A0/\(Sv σ3/\Same H (upd H5 p (.lst (ys ++ [v])))/\upd H5 p (.lst (ys ++ [v])) p=some (.lst (((xs.take (i + 1)).filter b).map f)))) (Bv hlt) sm hv (λσ3 H5 hs3 s5 hb => ?_) λσ3 H5 hs3 s5 hb => ?_)
  .exact z
  .refine ⟨hs3,sm.trans s5,?_⟩
   rw [s5 _ _ hh,et,hb]
   simp
  .refine ⟨_,s5 _ _ hh,?_,hs3,qam (sm.trans s5) hp,?_⟩
   .rw [Ab]; have:=fl i; lia
   .rw [qu,et,hb,if_pos rfl,Ay]; rfl
 .have e:i=xs.length:=by lia
  subst e
  refine .inl ⟨F2,?_⟩
  rw [B0] at hh
  exact fin p _ hp sm hh
end Add
namespace K44
open PySem L2 Add
noncomputable def top (i:Nat):Stmt:=PySem.Challenge.pw_termcourt_k44_rows_refused.main.body.getD i (.Pass ⟨0,0,0,0⟩)
noncomputable abbrev qiz:Stmt:=top 19
noncomputable abbrev qc5:Stmt:=top 18
noncomputable abbrev qnc:Stmt:=top 17
noncomputable abbrev qi0:Stmt:=qeb (top 10) 0
noncomputable abbrev qkl:Stmt:=top 22
noncomputable abbrev qe8:Stmt:=top 21
noncomputable abbrev qeq:Stmt:=top 28
noncomputable abbrev qjx:Stmt:=top 27
noncomputable abbrev qi1:Stmt:=qeb (top 35) 0
noncomputable abbrev qkm:Stmt:=top 37
noncomputable abbrev qkn:Stmt:=top 39
noncomputable abbrev qnd:Stmt:=top 38
noncomputable abbrev qb0:Stmt:=qeb (top 24) 0
noncomputable abbrev qhl:Stmt:=qeb (top 11) 0
noncomputable abbrev qhm:Stmt:=qeb (top 9) 0
noncomputable abbrev qi2:Stmt:=top 41
noncomputable abbrev qgh:Stmt:=qeb (top 8) 0
noncomputable abbrev qdz:Stmt:=qeb (top 24) 3
noncomputable abbrev qko:Stmt:=top 44
noncomputable abbrev qh7:Stmt:=top 43
noncomputable abbrev qi3:Stmt:=top 42
noncomputable abbrev qkp:Stmt:=top 40
noncomputable abbrev qe9:Stmt:=top 46
noncomputable abbrev qfn:Stmt:=top 45
noncomputable abbrev qgi:Stmt:=qeb (top 7) 0
noncomputable abbrev qi4:Stmt:=top 36
noncomputable abbrev qhn:Stmt:=top 48
noncomputable abbrev qi5:Stmt:=top 49
noncomputable abbrev qho:Stmt:=top 50
noncomputable abbrev qh8:Stmt:=top 51
noncomputable abbrev qh9:Stmt:=top 52
noncomputable abbrev qgy:Stmt:=top 53
noncomputable abbrev qeg:Stmt:=top 54
noncomputable abbrev qkq:Stmt:=top 55
noncomputable abbrev qkr:Stmt:=top 56
noncomputable abbrev qi6:Stmt:=top 57
noncomputable abbrev qks:Stmt:=top 58
noncomputable abbrev qe3:Stmt:=top 59
noncomputable abbrev qia:Stmt:=top 60
noncomputable abbrev qhp:Stmt:=top 61
noncomputable abbrev qfc:Stmt:=top 62
noncomputable abbrev qi7:Stmt:=top 63
noncomputable abbrev qer:Stmt:=qeb (top 35) 1
noncomputable abbrev qsn:Stmt:=top 64
structure DefAt (K:Ae) (mg:Str->Option Value) (x:Str) (st:Stmt) (ps:List Str) (f:Addr) (fd:AD):Prop where
 fn:Fun K x x st f fd
 mgx:mg x=some (.ref f)
 bd:Binds K fd ps []
noncomputable abbrev Pd (K:Ae) (x:Str) (st:Stmt) (f:Addr):Prop:=∃ (oc:Value) (od:Option Addr) (kV doc pm:Value) (an:Option Addr) (cdv ct:Value) (osl:Array (Option Value)),AA K A7 x=some (some (.ref f))/\K.lookup f=some ⟨oc,od,.func (Bx x x (qb5 st) (qbq st) (qab st) .none kV doc pm an cdv ct),osl⟩/\Ca K cdv x=true/\Be K (.ref f)=true
noncomputable abbrev Pm (K:Ae) (C:Addr) (x q:Str) (st:Stmt) (f:Addr):Prop:=∃ (oc:Value) (od:Option Addr) (kV doc pm:Value) (an:Option Addr) (cdv ct:Value) (osl:Array (Option Value)),AK K (.ref C) x=some (some (.ref f))/\Ci K (.ref f)=some (.type "function")/\K.lookup f=some ⟨oc,od,.func (Bx x q (qb5 st) (qbq st) (qab st) .none kV doc pm an cdv ct),osl⟩/\Ca K cdv q=true/\Be K (.ref f)=true
theorem pd_of {K:Ae} {x:Str} {st:Stmt} {f:Addr} {oc:Value} {od:Option Addr} {kV doc pm:Value} {an:Option Addr} {cdv ct:Value} {osl:Array (Option Value)} (a:AA K A7 x=some (some (.ref f))) (l:K.lookup f=some ⟨oc,od,.func (Bx x x (qb5 st) (qbq st) (qab st) .none kV doc pm an cdv ct),osl⟩) (c:Ca K cdv x=true) (k:Be K (.ref f)=true):Pd K x st f:=⟨oc,od,kV,doc,pm,an,cdv,ct,osl,a,l,c,k⟩
theorem pm_of {K:Ae} {C:Addr} {x q:Str} {st:Stmt} {f:Addr} {oc:Value} {od:Option Addr} {kV doc pm:Value} {an:Option Addr} {cdv ct:Value} {osl:Array (Option Value)} (a:AK K (.ref C) x=some (some (.ref f))) (t:Ci K (.ref f)=some (.type "function")) (l:K.lookup f=some ⟨oc,od,.func (Bx x q (qb5 st) (qbq st) (qab st) .none kV doc pm an cdv ct),osl⟩) (c:Ca K cdv q=true) (k:Be K (.ref f)=true):Pm K C x q st f:=⟨oc,od,kV,doc,pm,an,cdv,ct,osl,a,t,l,c,k⟩
theorem qbr {K:Ae} {h:Heap} {mg:Str->Option Value} {x:Str} {st:Stmt} {f:Addr} (X:K.In h) (G:h.Ns A7 mg) (p:Pd K x st f) {ps:List Str} (b:∀ (kV doc pm:Value) (an:Option Addr) (cdv ct:Value) (us:List Value),us.length=ps.length->bindArgs (Bx x x (qb5 st) (qbq st) (qab st) .none kV doc pm an cdv ct) ⟨us,[]⟩=pure (ps.zip us)):∃ fd,DefAt K mg x st ps f fd:=by
 obtain ⟨oc,od,kV,doc,pm,an,cdv,ct,osl,a,l,c,k⟩:=p
 have F:=qpm (st:=st) l c k
 exact ⟨_,F,AV X G a,F.binds b⟩
theorem qjf {K:Ae} {C:Addr} {x q:Str} {st:Stmt} {f:Addr} (p:Pm K C x q st f) {ps:List Str} (b:∀ (kV doc pm:Value) (an:Option Addr) (cdv ct:Value) (us:List Value),us.length=ps.length->bindArgs (Bx x q (qb5 st) (qbq st) (qab st) .none kV doc pm an cdv ct) ⟨us,[]⟩=pure (ps.zip us)):∃ fd,MethAt K x q st ps f fd:=by
 obtain ⟨oc,od,kV,doc,pm,an,cdv,ct,osl,a,t,l,c,k⟩:=p
 have F:=qpm (st:=st) l c k
 exact ⟨_,F,F.binds b,t⟩
theorem qf1 {p:List Value->Prop} (h:∀ x0,p [x0]):∀ us,us.length=1->p us:=λus hl=>by obtain ⟨x,rfl⟩:=List.length_eq_one_iff.mp hl; exact h x
theorem argS {p:List Value->Prop} {n:Nat} (h:∀ x t,t.length=n->p (x :: t)):∀ us,us.length=n + 1->p us:=λus hl=>by obtain ⟨x,t,rfl⟩:=List.exists_cons_of_length_eq_add_one hl; exact h x t (CF hl)
theorem qib {p:List Value->Prop} (h:∀ x0 x1,p [x0,x1]):∀ us,us.length=2->p us:=argS λx=>qf1 (h x)
theorem qlr {p:List Value->Prop} (h:∀ x0 x1 x2,p [x0,x1,x2]):∀ us,us.length=3->p us:=argS λx=>qib (h x)
theorem arg4 {p:List Value->Prop} (h:∀ x0 x1 x2 x3,p [x0,x1,x2,x3]):∀ us,us.length=4->p us:=argS λx=>qlr (h x)
set_option genInjectivity false
set_option genSizeOf false
set_option genSizeOfSpec false
structure Adr where
 nO:Addr
 nG:AD
 lQ:Addr
 mE:AD
 lT:Addr
 nW:AD
 fJ:Addr
 mB:AD
 nR:Addr
 fX:AD
 mM:Addr
 nZ:AD
 pA:Addr
 lD:AD
 fM:Addr
 lU:AD
 dQ:Addr
 mI:AD
 nU:Addr
 fW:AD
 nX:Addr
 nC:AD
 fU:Addr
 mL:AD
 dP:Addr
 dN:AD
 fF:Addr
 nN:AD
 dX:Addr
 lF:AD
 mO:Addr
 fV:AD
 dS:Addr
 fS:AD
 dY:Addr
 nH:AD
 hZ:Addr
 fY:AD
 hG:Addr
 lK:AD
 lJ:Addr
 nA:AD
 nB:Addr
 mY:AD
 hX:Addr
 lI:AD
 nV:Addr
 mH:AD
 fK:Addr
 lO:AD
 mU:Addr
 nQ:AD
 fL:Addr
 lZ:AD
 lR:Addr
 nE:AD
 lH:Addr
 nM:AD
 nK:Addr
 lE:AD
 mT:Addr
 fZ:AD
 mK:Addr
 mS:AD
 fQ:Addr
 mV:AD
 fN:Addr
 nP:AD
 nY:Addr
 nJ:AD
 hU:Addr
 mC:AD
 nD:Addr
 fT:AD
 hV:Addr
 lC:AD
 lY:Addr
 mJ:AD
 nF:Addr
 lW:AD
 mQ:Addr
 mD:AD
 mF:Addr
 lV:AD
 dR:Addr
 mP:AD
 nI:Addr
 mR:AD
 gN:Addr
 kL:Addr
 kN:Addr
 gQ:Addr
 gO:Addr
 gP:Addr
 gJ:Addr
 gG:Addr
 kH:Addr
 gH:Addr
 kG:Addr
 gR:Addr
 kB:Addr
 k7:Addr
 kF:Addr
 k9:Addr
 dO:Addr
 gZ:Addr
 bM:Addr
 dL:Addr
 bG:Addr
 bH:Addr
 bT:Addr
 bN:Addr
 dE:Addr
structure Txt (K:Ae) (mg:Str->Option Value) (a:Adr):Prop where
 bC:DefAt K mg "is_figure" qiz ["sign"] a.nO a.nG
 bJ:DefAt K mg "is_written_number" qc5 ["text", "most_figures"] a.lQ a.mE
 gY:DefAt K mg "number" qnc ["text", "most"] a.lT a.nW
 fG:MethAt K "__init__" "Ring.__init__" qi0 ["self", "names"] a.fJ a.mB
 bE:DefAt K mg "untaken" qkl ["name", "bases", "taken"] a.nR a.fX
 bK:DefAt K mg "hanging_order" qe8 ["rules"] a.mM a.nZ
 bI:DefAt K mg "is_small_letter" qeq ["sign"] a.pA a.lD
 bQ:DefAt K mg "is_name" qjx ["thing"] a.fM a.lU
 mW:MethAt K "__init__" "Book.__init__" qi1 ["self", "rules"] a.dQ a.mI
 bU:DefAt K mg "lines_of" qkm ["text"] a.nU a.fW
 bB:DefAt K mg "value_of" qkn ["word", "asked"] a.nX a.nC
 dB:DefAt K mg "row_of" qnd ["line"] a.fU a.mL
 r9:MethD K "__init__" "Rule.__init__" qb0 ["self", "name", "who", "owes", "opens", "base", "many", "unit", "still"] a.dP a.dN
 fB:MethAt K "__init__" "Twice.__init__" qhl ["self", "name"] a.fF a.nN
 kY:MethAt K "__init__" "Unfit.__init__" qhm ["self", "at"] a.dX a.lF
 dJ:DefAt K mg "read_term" qi2 ["told", "at", "row"] a.mO a.fV
 gF:MethAt K "__init__" "NoTerm.__init__" qgh ["self", "name"] a.dS a.fS
 lN:MethAt K "all_kinds" "Rule.all_kinds" qdz ["self"] a.dY a.nH
 dM:DefAt K mg "kinds_in" qko ["row"] a.hZ a.fY
 dI:DefAt K mg "is_unfit" qh7 ["rule", "row"] a.hG a.lK
 dA:DefAt K mg "read_more" qi3 ["rule", "at", "row"] a.lJ a.nA
 bL:DefAt K mg "read_row" qkp ["told", "at", "row"] a.nB a.mY
 bW:DefAt K mg "settle_yields" qe9 ["told", "rule", "at", "other"] a.hX a.lI
 bR:DefAt K mg "settle_names" qfn ["told", "at", "row"] a.nV a.mH
 dW:MethAt K "__init__" "NoRule.__init__" qgi ["self", "at"] a.fK a.lO
 kP:DefAt K mg "read_book" qi4 ["text"] a.mU a.nQ
 k8:DefAt K mg "_law_cell_at" qhn ["_law_script", "_law_k"] a.fL a.lZ
 kO:DefAt K mg "_law_words" qi5 ["_law_cell", "_law_many"] a.lR a.nE
 bD:DefAt K mg "_law_yields" qho ["_law_script", "_law_at", "_law_names"] a.lH a.nM
 dG:DefAt K mg "_law_base" qh8 ["_law_script", "_law_at", "_law_names"] a.nK a.lE
 dC:DefAt K mg "_law_rule" qh9 ["_law_script", "_law_at", "_law_names", "_law_kinds"] a.mT a.fZ
 bY:DefAt K mg "_law_rules" qgy ["_law_script", "_law_names", "_law_kinds", "_law_most"] a.mK a.mS
 bV:DefAt K mg "_law_sorts" qeg ["_law_rule_here"] a.fQ a.mV
 bF:DefAt K mg "_law_rows" qkq ["_law_rule_here"] a.fN a.nP
 gC:DefAt K mg "_law_told" qkr ["_law_text"] a.nY a.nJ
 kQ:DefAt K mg "_law_right" qi6 ["_law_text", "_law_word", "_law_field"] a.hU a.mC
 dH:DefAt K mg "_law_name" qks ["_law_word"] a.nD a.fT
 kR:DefAt K mg "_law_written" qe3 ["_law_word", "_law_most"] a.hV a.lC
 gE:DefAt K mg "_law_good" qia ["_law_words_here"] a.lY a.mJ
 bA:DefAt K mg "_law_spoilt" qhp ["_law_words_here", "_law_way", "_law_cell"] a.nF a.lW
 gD:DefAt K mg "_law_forty" qfc ["_law_script"] a.mQ a.mD
 bZ:DefAt K mg "_law_early" qi7 ["_law_script"] a.mF a.lV
 dZ:MethAt K "term_names" "Book.term_names" qer ["self"] a.dR a.mP
 rU:DefAt K mg "law" qsn ["_law_script"] a.nI a.mR
 pH:Binds K a.dN ["self", "name", "who", "owes", "opens", "base", "many", "unit", "still"] [.none]
 pT:mg "Adrift" = some (.ref a.gN)
 rJ:mg "Book" = some (.ref a.kL)
 gK:Cls K a.kL
 tG:Mk K a.kL a.dQ
 dD:xNo K a.kL ["name", "who", "owes", "opens", "base", "many", "unit", "still", "ends", "anew", "longer", "yields", "order", "by_name", "names", "at"]=true
 lP:Meth K a.kL "term_names" a.dR
 kS:mg "CourtError" = some (.ref a.kN)
 gW:XBase K a.kN
 pE:mg "Full" = some (.ref a.gQ)
 rG:mg "NoAct" = some (.ref a.gO)
 rK:mg "NoDay" = some (.ref a.gP)
 rV:mg "NoName" = some (.ref a.gJ)
 tM:mg "NoRow" = some (.ref a.gG)
 fP:mg "NoRule" = some (.ref a.kH)
 kT:XA K a.kH (some (.ref a.fK))
 bX:xNo K a.kH ["name", "who", "owes", "opens", "base", "many", "unit", "still", "ends", "anew", "longer", "yields", "order", "by_name", "names", "at"]=true
 gS:qgf K a.kH [Al a.kN,BW "ValueError",Al a.kH,Al a.kG,Al a.kF,Al a.k9,Al a.kB] [true,true,true,false,false,false,false]=true
 sD:mg "NoTable" = some (.ref a.gH)
 gX:mg "NoTerm" = some (.ref a.kG)
 kM:XA K a.kG (some (.ref a.dS))
 bO:xNo K a.kG ["name", "who", "owes", "opens", "base", "many", "unit", "still", "ends", "anew", "longer", "yields", "order", "by_name", "names", "at"]=true
 gT:qgf K a.kG [Al a.kN,BW "ValueError",Al a.kH,Al a.kG,Al a.kF,Al a.k9,Al a.kB] [true,true,false,true,false,false,false]=true
 sZ:mg "Parted" = some (.ref a.gR)
 gM:mg "Ring" = some (.ref a.kB)
 gL:XA K a.kB (some (.ref a.fJ))
 fO:xNo K a.kB ["name", "who", "owes", "opens", "base", "many", "unit", "still", "ends", "anew", "longer", "yields", "order", "by_name", "names", "at"]=true
 lG:qgf K a.kB [Al a.kN,BW "ValueError",Al a.kH,Al a.kG,Al a.kF,Al a.k9,Al a.kB] [true,true,false,false,false,false,true]=true
 sI:mg "Rule" = some (.ref a.k7)
 kD:Cls K a.k7
 pY:Mk K a.k7 a.dP
 kE:xNo K a.k7 ["name", "who", "owes", "opens", "base", "many", "unit", "still", "ends", "anew", "longer", "yields", "order", "by_name", "names", "at"]=true
 tK:Meth K a.k7 "all_kinds" a.dY
 bS:mg "Twice" = some (.ref a.kF)
 kZ:XA K a.kF (some (.ref a.fF))
 nL:xNo K a.kF ["name", "who", "owes", "opens", "base", "many", "unit", "still", "ends", "anew", "longer", "yields", "order", "by_name", "names", "at"]=true
 dF:qgf K a.kF [Al a.kN,BW "ValueError",Al a.kH,Al a.kG,Al a.kF,Al a.k9,Al a.kB] [true,true,false,false,true,false,false]=true
 gA:mg "Unfit" = some (.ref a.k9)
 kK:XA K a.k9 (some (.ref a.dX))
 kW:xNo K a.k9 ["name", "who", "owes", "opens", "base", "many", "unit", "still", "ends", "anew", "longer", "yields", "order", "by_name", "names", "at"]=true
 fE:qgf K a.k9 [Al a.kN,BW "ValueError",Al a.kH,Al a.kG,Al a.kF,Al a.k9,Al a.kB] [true,true,false,false,false,true,false]=true
 fD:XRaise K a.kH
 sX:Ac K (.ref a.kH) (.ref a.gN)=some false
 pZ:Ac K (.ref a.kH) (.ref a.gQ)=some false
 tD:Ac K (.ref a.kH) (.ref a.gO)=some false
 pM:Ac K (.ref a.kH) (.ref a.gP)=some false
 rO:Ac K (.ref a.kH) (.ref a.gJ)=some false
 pB:Ac K (.ref a.kH) (.ref a.gG)=some false
 sU:Ac K (.ref a.kH) (.ref a.kH)=some true
 pU:Ac K (.ref a.kH) (.ref a.gH)=some false
 tU:Ac K (.ref a.kH) (.ref a.kG)=some false
 sL:Ac K (.ref a.kH) (.ref a.gR)=some false
 xC:Ac K (.ref a.kH) (.ref a.kB)=some false
 xA:Ac K (.ref a.kH) (.ref a.kF)=some false
 tV:Ac K (.ref a.kH) (.ref a.k9)=some false
 fH:XRaise K a.kG
 pF:Ac K (.ref a.kG) (.ref a.gN)=some false
 r6:Ac K (.ref a.kG) (.ref a.gQ)=some false
 pP:Ac K (.ref a.kG) (.ref a.gO)=some false
 pI:Ac K (.ref a.kG) (.ref a.gP)=some false
 tH:Ac K (.ref a.kG) (.ref a.gJ)=some false
 pQ:Ac K (.ref a.kG) (.ref a.gG)=some false
 sV:Ac K (.ref a.kG) (.ref a.kH)=some false
 pW:Ac K (.ref a.kG) (.ref a.gH)=some false
 rA:Ac K (.ref a.kG) (.ref a.kG)=some true
 pD:Ac K (.ref a.kG) (.ref a.gR)=some false
 tY:Ac K (.ref a.kG) (.ref a.kB)=some false
 tX:Ac K (.ref a.kG) (.ref a.kF)=some false
 xB:Ac K (.ref a.kG) (.ref a.k9)=some false
 rZ:XRaise K a.kB
 rP:Ac K (.ref a.kB) (.ref a.gN)=some false
 rY:Ac K (.ref a.kB) (.ref a.gQ)=some false
 sE:Ac K (.ref a.kB) (.ref a.gO)=some false
 tL:Ac K (.ref a.kB) (.ref a.gP)=some false
 rQ:Ac K (.ref a.kB) (.ref a.gJ)=some false
 rH:Ac K (.ref a.kB) (.ref a.gG)=some false
 sW:Ac K (.ref a.kB) (.ref a.kH)=some false
 r8:Ac K (.ref a.kB) (.ref a.gH)=some false
 pX:Ac K (.ref a.kB) (.ref a.kG)=some false
 tQ:Ac K (.ref a.kB) (.ref a.gR)=some false
 sP:Ac K (.ref a.kB) (.ref a.kB)=some true
 pN:Ac K (.ref a.kB) (.ref a.kF)=some false
 tE:Ac K (.ref a.kB) (.ref a.k9)=some false
 pJ:XRaise K a.kF
 tN:Ac K (.ref a.kF) (.ref a.gN)=some false
 rD:Ac K (.ref a.kF) (.ref a.gQ)=some false
 sF:Ac K (.ref a.kF) (.ref a.gO)=some false
 sS:Ac K (.ref a.kF) (.ref a.gP)=some false
 sT:Ac K (.ref a.kF) (.ref a.gJ)=some false
 sR:Ac K (.ref a.kF) (.ref a.gG)=some false
 rL:Ac K (.ref a.kF) (.ref a.kH)=some false
 sN:Ac K (.ref a.kF) (.ref a.gH)=some false
 pO:Ac K (.ref a.kF) (.ref a.kG)=some false
 sQ:Ac K (.ref a.kF) (.ref a.gR)=some false
 tW:Ac K (.ref a.kF) (.ref a.kB)=some false
 rT:Ac K (.ref a.kF) (.ref a.kF)=some true
 xD:Ac K (.ref a.kF) (.ref a.k9)=some false
 gB:XRaise K a.k9
 rW:Ac K (.ref a.k9) (.ref a.gN)=some false
 tR:Ac K (.ref a.k9) (.ref a.gQ)=some false
 pV:Ac K (.ref a.k9) (.ref a.gO)=some false
 rC:Ac K (.ref a.k9) (.ref a.gP)=some false
 tI:Ac K (.ref a.k9) (.ref a.gJ)=some false
 pG:Ac K (.ref a.k9) (.ref a.gG)=some false
 rM:Ac K (.ref a.k9) (.ref a.kH)=some false
 tP:Ac K (.ref a.k9) (.ref a.gH)=some false
 rR:Ac K (.ref a.k9) (.ref a.kG)=some false
 rF:Ac K (.ref a.k9) (.ref a.gR)=some false
 tZ:Ac K (.ref a.k9) (.ref a.kB)=some false
 tS:Ac K (.ref a.k9) (.ref a.kF)=some false
 tO:Ac K (.ref a.k9) (.ref a.k9)=some true
 gU:mg "ValueError" = none
 dU:mg "all" = none
 sK:mg "any" = none
 pK:mg "bool" = none
 mZ:mg "enumerate" = none
 bP:mg "int" = none
 kJ:mg "isinstance" = none
 kI:mg "len" = none
 gI:mg "list" = none
 kU:mg "range" = none
 lA:mg "reversed" = none
 kX:mg "str" = none
 rE:mg "zip" = none
 tT:∃ t,mg "LONGEST_NAME" = some (.int 8 t)
 pS:∃ t,mg "MOST_ROWS" = some (.int 40 t)
 pC:∃ t,mg "MOST_TERMS" = some (.int 6 t)
 pR:∃ t,mg "MOST_LONGER_ROWS" = some (.int 2 t)
 rX:mg "UNITS" = some (.ref a.dO)
 rS:∀ H,SqT K H a.dO [.str (Aa "days"),.str (Aa "weeks"),.str (Aa "court")]
 rN:mg "FORMS" = some (.ref a.gZ)
 mG:∀ H,SqT K H a.gZ [.ref a.bM,.ref a.dL,.ref a.bG,.ref a.bH,.ref a.bT,.ref a.bN,.ref a.dE]
 sY:∀ H,SqT K H a.bM [.str (Aa "term"),.str (Aa "NAME"),.str (Aa "of"),.str (Aa "NAME"),.str (Aa "due"),.str (Aa "NAME"),.str (Aa "from"),.str (Aa "NAME"),.int 40,.str (Aa "UNIT")]
 sO:∀ H,SqT K H a.dL [.str (Aa "term"),.str (Aa "NAME"),.str (Aa "of"),.str (Aa "NAME"),.str (Aa "due"),.str (Aa "NAME"),.str (Aa "behind"),.str (Aa "NAME"),.int 40,.str (Aa "UNIT")]
 tF:∀ H,SqT K H a.bG [.str (Aa "ends"),.str (Aa "NAME"),.str (Aa "NAME")]
 sG:∀ H,SqT K H a.bH [.str (Aa "anew"),.str (Aa "NAME"),.str (Aa "NAME")]
 pL:∀ H,SqT K H a.bT [.str (Aa "longer"),.str (Aa "NAME"),.str (Aa "NAME"),.int 20,.str (Aa "times"),.int 3]
 sM:∀ H,SqT K H a.bN [.str (Aa "still"),.str (Aa "NAME"),.str (Aa "NAME"),.str (Aa "NAME")]
 rB:∀ H,SqT K H a.dE [.str (Aa "yields"),.str (Aa "NAME"),.str (Aa "NAME")]
theorem qcm:bootBuiltins "ValueError" = some (.type "ValueError"):=En
theorem qkt:bootBuiltins "all" = some (.builtin "all"):=En
theorem qu0:bootBuiltins "any" = some (.builtin "any"):=En
theorem qso:bootBuiltins "bool" = some (.type "bool"):=En
theorem qic:bootBuiltins "int" = some (.type "int"):=En
theorem qaj:bootBuiltins "isinstance" = some (.builtin "isinstance"):=En
theorem qat:bootBuiltins "len" = some (.builtin "len"):=En
theorem qeh:bootBuiltins "list" = some (.type "list"):=En
theorem qd5:bootBuiltins "str" = some (.type "str"):=En
theorem qpz:FnScope ["sign"] ["sign"] (qab qiz):=⟨rfl,rfl,rfl,En,rfl,En,En⟩
theorem qid:FnScope ["text", "most_figures"] ["text", "most_figures"] (qab qc5):=⟨rfl,rfl,rfl,En,rfl,En,En⟩
theorem qor:FnScope ["text", "most", "written"] ["text", "most"] (qab qnc):=⟨rfl,rfl,rfl,En,rfl,En,En⟩
theorem qp0:FnScope ["self", "names"] ["self", "names"] (qab qi0):=⟨rfl,rfl,rfl,En,rfl,En,En⟩
theorem qgz:FnScope ["name", "bases", "taken", "path", "above"] ["name", "bases", "taken"] (qab qkl):=⟨rfl,rfl,rfl,En,rfl,En,En⟩
theorem qcc:FnScope ["rules", "bases", "rule", "taken"] ["rules"] (qab qe8):=⟨rfl,rfl,rfl,En,rfl,En,En⟩
theorem qjq:FnScope ["sign"] ["sign"] (qab qeq):=⟨rfl,rfl,rfl,En,rfl,En,En⟩
theorem qu1:FnScope ["thing"] ["thing"] (qab qjx):=⟨rfl,rfl,rfl,En,rfl,En,En⟩
theorem qku:FnScope ["self", "rules", "rule"] ["self", "rules"] (qab qi1):=⟨rfl,rfl,rfl,En,rfl,En,En⟩
theorem qsp:FnScope ["text"] ["text"] (qab qkm):=⟨rfl,rfl,rfl,En,rfl,En,En⟩
theorem qsq:FnScope ["word", "asked"] ["word", "asked"] (qab qkn):=⟨rfl,rfl,rfl,En,rfl,En,En⟩
theorem qjy:FnScope ["line", "words", "form", "row"] ["line"] (qab qnd):=⟨rfl,rfl,rfl,En,rfl,En,En⟩
theorem qp1:FnScope ["self", "name", "who", "owes", "opens", "base", "many", "unit", "still"] ["self", "name", "who", "owes", "opens", "base", "many", "unit", "still"] (qab qb0):=⟨rfl,rfl,rfl,En,rfl,En,En⟩
theorem qos:FnScope ["self", "name"] ["self", "name"] (qab qhl):=⟨rfl,rfl,rfl,En,rfl,En,En⟩
theorem qot:FnScope ["self", "at"] ["self", "at"] (qab qhm):=⟨rfl,rfl,rfl,En,rfl,En,En⟩
theorem qes:FnScope ["told", "at", "row", "name", "opens", "base", "rule"] ["told", "at", "row"] (qab qi2):=⟨rfl,rfl,rfl,En,rfl,En,En⟩
theorem qne:FnScope ["self", "name"] ["self", "name"] (qab qgh):=⟨rfl,rfl,rfl,En,rfl,En,En⟩
theorem qgj:FnScope ["self", "kinds"] ["self"] (qab qdz):=⟨rfl,rfl,rfl,En,rfl,En,En⟩
theorem qsr:FnScope ["row"] ["row"] (qab qko):=⟨rfl,rfl,rfl,En,rfl,En,En⟩
theorem qmh:FnScope ["rule", "row", "taken"] ["rule", "row"] (qab qh7):=⟨rfl,rfl,rfl,En,rfl,En,En⟩
theorem qp2:FnScope ["rule", "at", "row"] ["rule", "at", "row"] (qab qi3):=⟨rfl,rfl,rfl,En,rfl,En,En⟩
theorem qss:FnScope ["told", "at", "row"] ["told", "at", "row"] (qab qkp):=⟨rfl,rfl,rfl,En,rfl,En,En⟩
theorem qkv:FnScope ["told", "rule", "at", "other"] ["told", "rule", "at", "other"] (qab qe9):=⟨rfl,rfl,rfl,En,rfl,En,En⟩
theorem qg8:FnScope ["told", "at", "row", "rule"] ["told", "at", "row"] (qab qfn):=⟨rfl,rfl,rfl,En,rfl,En,En⟩
theorem qnf:FnScope ["self", "at"] ["self", "at"] (qab qgi):=⟨rfl,rfl,rfl,En,rfl,En,En⟩
theorem qcw:FnScope ["text", "told", "rows", "at", "line", "row"] ["text"] (qab qi4):=⟨rfl,rfl,rfl,En,rfl,En,En⟩
theorem qou:FnScope ["_law_script", "_law_k"] ["_law_script", "_law_k"] (qab qhn):=⟨rfl,rfl,rfl,En,rfl,En,En⟩
theorem qbj:FnScope ["_law_cell", "_law_many", "_law_some", "_law_size", "_law_at", "_law_primes", "_law_stem", "_law_k", "_law_words_here", "_law_turn", "_law_word"] ["_law_cell", "_law_many"] (qab qi5):=⟨rfl,rfl,rfl,En,rfl,En,En⟩
theorem qcx:FnScope ["_law_script", "_law_at", "_law_names", "_law_cell", "_law_mine", "_law_yields_here", "_law_other", "_law_bit", "_law_theirs"] ["_law_script", "_law_at", "_law_names"] (qab qho):=⟨rfl,rfl,rfl,En,rfl,En,En⟩
theorem qei:FnScope ["_law_script", "_law_at", "_law_names", "_law_turn", "_law_cell", "_law_ranks", "_law_k", "_law_below"] ["_law_script", "_law_at", "_law_names"] (qab qh8):=⟨rfl,rfl,rfl,En,rfl,En,En⟩
theorem qa9:FnScope ["_law_script", "_law_at", "_law_names", "_law_kinds", "_law_cells", "_law_owed", "_law_rest", "_law_turn", "_law_base_here", "_law_opens", "_law_unit", "_law_longer", "_law_k", "_law_units", "_law_still", "_law_rule_here"] ["_law_script", "_law_at", "_law_names", "_law_kinds"] (qab qh9):=⟨rfl,rfl,rfl,En,rfl,En,En⟩
theorem qdf:FnScope ["_law_script", "_law_names", "_law_kinds", "_law_most", "_law_rules_here", "_law_room", "_law_rule_here", "_law_sort"] ["_law_script", "_law_names", "_law_kinds", "_law_most"] (qab qgy):=⟨rfl,rfl,rfl,En,rfl,En,En⟩
theorem qa7:FnScope ["_law_rule_here", "_law_name_here", "_law_way", "_law_head", "_law_ends", "_law_anew", "_law_longer", "_law_kind", "_law_units", "_law_times", "_law_row", "_law_still", "_law_yields_here"] ["_law_rule_here"] (qab qeg):=⟨rfl,rfl,rfl,En,rfl,En,En⟩
theorem qg0:FnScope ["_law_rule_here", "_law_rows_here", "_law_sort"] ["_law_rule_here"] (qab qkq):=⟨rfl,rfl,rfl,En,rfl,En,En⟩
theorem qbf:FnScope ["_law_text", "_law_found", "e", "_law_alone"] ["_law_text"] (qab qkr):=⟨rfl,rfl,rfl,En,rfl,En,En⟩
theorem qkw:FnScope ["_law_text", "_law_word", "_law_field", "_law_found"] ["_law_text", "_law_word", "_law_field"] (qab qi6):=⟨rfl,rfl,rfl,En,rfl,En,En⟩
theorem qmi:FnScope ["_law_word", "_law_sign"] ["_law_word"] (qab qks):=⟨rfl,rfl,rfl,En,rfl,En,En⟩
theorem qng:FnScope ["_law_word", "_law_most"] ["_law_word", "_law_most"] (qab qe3):=⟨rfl,rfl,rfl,En,rfl,En,En⟩
theorem qg1:FnScope ["_law_words_here", "_law_names"] ["_law_words_here"] (qab qia):=⟨rfl,rfl,rfl,En,rfl,En,En⟩
theorem qa1:FnScope ["_law_words_here", "_law_way", "_law_cell", "_law_at", "_law_word", "_law_cut", "_law_sign", "_law_odd", "_law_some"] ["_law_words_here", "_law_way", "_law_cell"] (qab qhp):=⟨rfl,rfl,rfl,En,rfl,En,En⟩
theorem qdw:FnScope ["_law_script", "_law_kinds", "_law_turn", "_law_rows_here"] ["_law_script"] (qab qfc):=⟨rfl,rfl,rfl,En,rfl,En,En⟩
theorem qet:FnScope ["_law_script", "_law_rows_here", "_law_at", "_law_due", "_law_text"] ["_law_script"] (qab qi7):=⟨rfl,rfl,rfl,En,rfl,En,En⟩
theorem qjr:FnScope ["self"] ["self"] (qab qer):=⟨rfl,rfl,rfl,En,rfl,En,En⟩
theorem qdm:FnScope ["_law_script", "_law_many", "_law_names", "_law_kinds", "_law_rows_here", "_law_rule_here", "_law_cell", "_law_base_here", "_law_words_here", "_law_at", "_law_row", "_law_text"] ["_law_script"] (qab qsn):=⟨rfl,rfl,rfl,En,rfl,En,En⟩
seal PySem.Sem.wp
open Add Lay Mrg Tab
theorem useH {p G:Hp->Prop} {R:Prop} (m:(∀ x,p x->G x)->R) (l:∀ x,p x->G x):R:=m l
theorem use2 {S T:Type} {p G:S->T->Prop} {R:Prop} (m:(∀ x y,p x y->G x y)->R) (l:∀ x y,p x y->G x y):R:=m l
theorem qfd {c A B:Prop} [Decidable c] (hc:c) (h:A):if decide c=true then A else B:=by rw [if_pos (decide_eq_true hc)]; exact h
theorem qa4 {c A B:Prop} [Decidable c] (hc:¬ c) (h:B):if decide c=true then A else B:=by rw [decide_eq_false hc]; exact h
theorem qd9 {c A B:Prop} [Decidable c] (hc:c) (h:B):if (!decide c)=true then A else B:=by rw [decide_eq_true hc]; exact h
theorem zh {H:Hp} {p:Addr} {o:HO} (hp:H p=none):Same H (upd H p o):=λb u e=>by rw [zd (qag e hp)]; exact e
theorem alc {H:Hp} {p:Addr} {o:HO} (hp:H p=none):Same H (upd H p o)/\upd H p o p=some o:=⟨zh hp,qu⟩
theorem qae {n:Nat} (h:n <= 100000):n <= A0:=by rw [Bf]; lia
theorem qdn {xs:List V} (h:xs.length <= 90000):xs.length < A0:=by rw [Bf]; lia
theorem qfe:([]:List V).length <= A0:=qae Ez
theorem fit2 (x y:V):[x,y].length <= A0:=qae (show 2 <= 100000 by decide)
theorem qls (x y z:V):[x,y,z].length <= A0:=qae (show 3 <= 100000 by decide)
theorem atI_of {vs:List V} {k:Int} {j:Nat} {v:V} (h:vs[j]?=some v) (e:k=(j:Int)):atI vs k=some v:=by rw [e]; exact qaz h
theorem qgk (vs:List V) (b:Nat) (h:b <= vs.length):qfl vs none (some (b:Int))=vs.take b:=by
 unfold qfl
 have e1:HT.sIx vs.length 0 none=0:=rfl
 have e2:HT.sIx vs.length vs.length (some (b:Int))=b:=by
  simp only [HT.sIx]
  split <;> lia
 rw [e1,e2]
 simp
theorem qeu (vs:List V) (b:Nat) (h:b <= vs.length):qfl vs (some (b:Int)) none=vs.drop b:=by
 unfold qfl
 have e1:HT.sIx vs.length vs.length none=vs.length:=rfl
 have e2:HT.sIx vs.length 0 (some (b:Int))=b:=by
  simp only [HT.sIx]
  split <;> lia
 rw [e1,e2]
 rw [Bs (by rw [AB]; lia)]
theorem qbs {α:Type} {xs:List α} {i:Nat} {x:α} (h:xs[i]?=some x):xs.take (i + 1)=xs.take i ++ [x]:=by rw [CD,h]; rfl
theorem qgl {c A B:Prop} [Decidable c] (hc:¬ c) (h:A):if (!decide c)=true then A else B:=by rw [decide_eq_false hc]; exact h
noncomputable def cell (ns:List Int) (k:Int):Int:=ns.getD k.toNat 0
theorem qu2 {ns:List Int} {k:Int} (h0:0 <= k) (h:k < ((ns.map V.int).length:Int)):atI (ns.map V.int) k=some (V.int (cell ns k)):=by
 rw [Ab] at h
 have hk:k.toNat < ns.length:=(Int.toNat_lt h0).mpr h
 refine atI_of (j:=k.toNat) ?_ (Int.toNat_of_nonneg h0).symm
 rw [An,Aj hk]
 unfold cell
 rw [AU,Aj hk]
 rfl
theorem qu3 {ns:List Int} {k:Int} (h:¬ k < ((ns.map V.int).length:Int)):cell ns k=0:=by
 rw [Ab] at h
 unfold cell
 rw [AU,By (Int.ofNat_le.mp (Int.le_trans (Int.not_lt.mp h) (Int.self_le_toNat k)))]
 rfl
noncomputable def spCell (K:Ae):Sp:=λvs H Q _=>∃ (a:Addr) (ns:List Int) (k:Int),vs=[.ref a,.int k]/\SqL K H a (ns.map V.int)/\0 <= k/\Q (.int (cell ns k)) H
theorem qcy (x:Str) (xs:List Str):inV (.str x) (xs.map V.str)=xs.contains x:=by
 unfold inV
 rw [List.any_map,List.contains_eq_any_beq]
 congr 1
 funext y
 show (y == x)=(x == y)
 rw [Cz,beq_iff_eq,beq_iff_eq]
 exact eq_comm
theorem qff (xs:List Str):(xs.map V.str).all qct=true:=by rw [CY]; exact AQ.mpr λ_ _=>rfl
noncomputable def nm (nms:List Str) (k:Nat):Str:=nms.getD k Str.empty
noncomputable def bo (bs:List (Option Nat)) (k:Nat):Option Nat:=bs.getD k none
theorem qg9 {nms:List Str} {k:Nat} (h:k < nms.length):nms[k]?=some (nm nms k):=by
 unfold nm
 rw [AU,Aj h]
 rfl
theorem qi8 {nms:List Str} (nd:nms.Nodup) {j k:Nat} (hj:j < nms.length) (hk:k < nms.length) (e:nm nms j=nm nms k):j=k:=by
 have a:=qg9 hj
 rw [e,<- qg9 hk] at a
 exact (List.getElem?_inj hj nd).mp a
noncomputable def qie (nms:List Str):Option Nat->V
 | none=>.non
 | some b=>.str (nm nms b)
noncomputable def DicOk (kvs:List (Key × V)) (nms:List Str) (bs:List (Option Nat)):Prop:=∀ k < nms.length,qdv kvs (.inr (nm nms k))=some (qie nms (bo bs k))
noncomputable def SameBut (x:Addr) (H H':Hp):Prop:=∀ b o,b ≠ x->H b=some o->H' b=some o
theorem SameBut.of {x:Addr} {H H':Hp} (s:Same H H'):SameBut x H H':=λb o _ e=>s b o e
theorem SameBut.trans {x:Addr} {H H1 H2:Hp} (a:SameBut x H H1) (b:SameBut x H1 H2):SameBut x H H2:=λc o n e=>b c o n (a c o n e)
theorem SameBut.set {x:Addr} {H H':Hp} {o:HO} (a:SameBut x H H'):SameBut x H (upd H' x o):=λb u n e=>by rw [zd n]; exact a b u n e
theorem SameBut.made {x dx:Addr} {H H':Hp} {o u:HO} (a:SameBut x (upd (upd H dx u) x o) H') (hx:H x=none) (hd:H dx=none):Same H H':=λb v e =>
 a b v (qag e hx) (by rw [zd (qag e hx),zd (qag e hd)]; exact e)
theorem SameBut.free {x q:Addr} {H H':Hp} (b:SameBut x H H') (n:q ≠ x) (h:H' q=none):H q=none:=by
 cases e:H q with
 | none=>rfl
 | some o=>rw [b q o n e] at h; cases h
theorem qxb {kvs:List (Key × V)} {nms:List Str} {bs:List (Option Nat)} {i:Nat} (nd:nms.Nodup) (hi:i < nms.length) (h:∀ k < i,qdv kvs (.inr (nm nms k))=some (qie nms (bo bs k))):∀ k < i + 1,qdv (qfm kvs (.inr (nm nms i)) (qie nms (bo bs i))) (.inr (nm nms k))=some (qie nms (bo bs k)):=λk hk=>by
 rw [qtw]
 by_cases e:k=i
 .subst e
  rw [if_pos rfl]
 .rw [if_neg (λz=>e (qi8 nd (by lia) hi (CM.inj z)))]
  exact h k (by lia)
theorem nmV {nms:List Str} {k:Nat} (h:k < nms.length):(nms.map V.str)[k]?=some (.str (nm nms k)):=by rw [An,qg9 h]; rfl
theorem rb {n:Nat} (h:n <= 1000) : -2 ^ 62 <= (n:Int)/\(n:Int) < 2 ^ 62:=by lia
noncomputable abbrev bfs (po pd:Addr):List (Str × V):=[(Aa "order",.ref po),(Aa "by_name",.ref pd)]
theorem put1 (f:Str) (u:V):qcs f u []=[(f,u)]:=rfl
theorem put2 {f g:Str} (u v:V) (h:f ≠ g):qcs g v [(f,u)]=[(f,u),(g,v)]:=by unfold qcs; rw [if_neg h]; rfl
noncomputable abbrev az:Str:=Aa "abcdefghijklmnopqrstuvwxyz"
theorem az_len:az.length=26:=En
theorem qra:az.cps.toList=(Bh 26).map (λj=>97 + j):=En
theorem qyg {j:Nat} (h:j < 26):atI az.cps.toList (j:Int)=some (97 + j):=qaz (by rw [qra,An,Ee h]; rfl)
theorem qfo (x y:Str):(x ++ y).length=x.length + y.length:=by
 show (x ++ y).cps.size=_
 rw [CS,Array.size_append]; rfl
noncomputable def wdL (L:List Nat) (n c:Nat):List Nat:=L.take n ++ c :: L.drop (n + 1)
theorem qxc {st:Str} {n c:Nat} (h:n + 1 <= st.length):Cw st none (some (n:Int)) ++ (⟨#[c]⟩:Str) ++ Cw st (some ((n:Int) + 1)) none=⟨(wdL st.cps.toList n c).toArray⟩:=by
 have hl:st.cps.toList.length=st.length:=AH
 have e1:Cw st none (some (n:Int))=⟨((st.cps.toList.drop 0).take ((n:Int) - 0).toNat).toArray⟩:=PySem.StrLaws.sliceText_to ⟨Int.natCast_nonneg n,by lia⟩
 have e2:Cw st (some ((n:Int) + 1)) none=⟨((st.cps.toList.drop ((n:Int) + 1).toNat).take ((st.cps.toList.length:Int) - ((n:Int) + 1)).toNat).toArray⟩:=PySem.StrLaws.sliceText_from ⟨by lia,by lia⟩
 have e3:((n:Int) + 1).toNat=n + 1:=by lia
 rw [e1,e2,e3,Bs (l:=st.cps.toList.drop (n + 1)) (by rw [AB]; lia)]
 apply Str.ext'
 rw [CS,CS]
 show ((st.cps.toList.drop 0).take ((n:Int) - 0).toNat).toArray ++ #[c] ++ (st.cps.toList.drop (n + 1)).toArray=_
 unfold wdL
 rw [List.drop_zero,show ((n:Int) - 0).toNat=n by lia]
 simp
theorem cut_eq {L:List Nat} {n c:Nat} (h:n < L.length):Cw ⟨(wdL L n c).toArray⟩ none (some ((n:Int) + 1))=⟨(L.take n ++ [c]).toArray⟩:=by
 have lt:(L.take n).length=n:=by rw [Ap]; lia
 have e1:Cw ⟨(wdL L n c).toArray⟩ none (some ((n:Int) + 1))=⟨(((wdL L n c).toArray.toList.drop 0).take ((n:Int) + 1 - 0).toNat).toArray⟩:=PySem.StrLaws.sliceText_to ⟨by lia,by
  show (n:Int) + 1 <= ((wdL L n c).toArray.toList.length:Int)
  rw [List.toList_toArray]
  unfold wdL
  rw [Ag,Aq,lt]
  lia⟩
 rw [e1,List.toList_toArray,List.drop_zero,show ((n:Int) + 1 - 0).toNat=n + 1 by lia]
 unfold wdL
 rw [DP,lt,Bs (Au (BQ lt) (Cv n)),show n + 1 - n=1 by lia]
 rfl
noncomputable def sgn (t:Int) (e k:Nat):Nat:=97 + ((t + ((k / (1 + e):Nat):Int)) % 26).toNat
noncomputable def wdS (L:List Nat) (n e:Nat) (t:Int) (k:Nat):Str:=if e=1/\k % 2=1 then ⟨(L.take n ++ [sgn t e k]).toArray⟩ else ⟨(wdL L n (sgn t e k)).toArray⟩
theorem qnh {x y:List Nat} (h:(⟨x.toArray⟩:Str)=⟨y.toArray⟩):x=y:=by
 have:=congrArg (λz:Str=>z.cps.toList) h
 simpa using this
theorem qxd {L:List Nat} {n c d:Nat} (h:wdL L n c=wdL L n d):c=d:=by
 unfold wdL at h
 exact (Df (List.append_cancel_left h)).1
theorem qxe {t:Int} {e k j:Nat} (he:e <= 1) (hk:k / (1 + e) < 26) (hj:j / (1 + e) < 26) (h:sgn t e k=sgn t e j):k / (1 + e)=j / (1 + e):=by
 have h:(t + ((k / (1 + e):Nat):Int)) % 26=(t + ((j / (1 + e):Nat):Int)) % 26:=by unfold sgn at h; lia
 generalize k / (1 + e)=x at *
 generalize j / (1 + e)=y at *
 lia
theorem qxf {L:List Nat} {n e:Nat} {t:Int} (he:e <= 1) (hn:n + 1 + e <= L.length) {k j:Nat} (hk:k / (1 + e) < 26) (hj:j / (1 + e) < 26) (h:wdS L n e t k=wdS L n e t j):k=j:=by
 have lt:(L.take n).length=n:=by rw [Ap]; lia
 have ld:(L.drop (n + 1)).length=L.length - (n + 1):=AB
 have key:sgn t e k=sgn t e j/\(e=1->k % 2=j % 2):=by
  unfold wdS at h
  by_cases c1:e=1/\k % 2=1
  .rw [if_pos c1] at h
   by_cases c2:e=1/\j % 2=1
   .rw [if_pos c2] at h
    exact ⟨(Df (List.append_cancel_left (qnh h))).1,λ_=>by lia⟩
   .rw [if_neg c2] at h
    have hl:=congrArg Dg (qnh h)
    unfold wdL at hl
    rw [Ag,Ag,Aq,Aq,Cn,ld] at hl
    lia
  .rw [if_neg c1] at h
   by_cases c2:e=1/\j % 2=1
   .rw [if_pos c2] at h
    have hl:=congrArg Dg (qnh h)
    unfold wdL at hl
    rw [Ag,Ag,Aq,Aq,Cn,ld] at hl
    lia
   .rw [if_neg c2] at h
    exact ⟨qxd (qnh h),λz=>by lia⟩
 have q:=qxe he hk hj key.1
 rcases (by lia:e=0 \/ e=1) with z | z
 .rw [z] at q
  simpa using q
 .have:=key.2 z
  rw [z] at q
  lia
theorem wds_nd {L:List Nat} {n e:Nat} {t:Int} (he:e <= 1) (hn:n + 1 + e <= L.length) {m:Nat} (hm:∀ k,k < m->k / (1 + e) < 26):((Bh m).map (wdS L n e t)).Nodup:=by
 rw [List.nodup_iff_pairwise_ne,List.pairwise_map]
 refine (List.Pairwise.and_mem.mp (List.nodup_iff_pairwise_ne.mp List.nodup_range)).imp λ{a b} h z => ?_
 have h1:=Ct.mp h.1
 have h2:=Ct.mp h.2.1
 exact h.2.2 (qxf he hn (hm _ h1) (hm _ h2) z)
theorem sizeB (c:Int):1 + c % 2 <= 1 + c % 2 + c / 2 % (8 - c % 2)/\1 + c % 2 + c / 2 % (8 - c % 2) <= 8:=by
 rcases (by lia:c % 2=0 \/ c % 2=1) with e | e <;> rw [e]
 .rw [show (8:Int) - 0=8 from rfl]; lia
 .rw [show (8:Int) - 1=7 from rfl]; lia
noncomputable def prL:List Int:=[100003,100019,100043,100049,100057,100069,100103,100109]
theorem pr_at {k:Nat} (h:k < 8):∃ p:Int,0 < p/\(prL.map V.int)[k]?=some (V.int p):=by
 rcases (by lia:k=0 \/ k=1 \/ k=2 \/ k=3 \/ k=4 \/ k=5 \/ k=6 \/ k=7) with e | e | e | e | e | e | e | e <;> subst e <;> exact ⟨_,Ez,rfl⟩
noncomputable def qrb (K:Ae):Sp:=λvs H Q _=>∃ (a:Addr) (ns:List Int),vs=[.ref a]/\SqL K H a (ns.map V.int)/\ns.length <= 63/\∀ H',Q (.bl true) H'
section
variable {f:Nat->Option Nat} {n:Nat}
noncomputable def Ch (f:Nat->Option Nat) (is:List Nat) (o:Option Nat):Prop:=∀ i k,is[i]?=some k->f k=(is ++ o.toList)[i + 1]?
theorem Ch.snoc {is:List Nat} {j:Nat} (h:Ch f is (some j)):Ch f (is ++ [j]) (f j):=by
 intro i k e
 by_cases c:i < is.length
 .rw [AS c] at e
  rw [h i k e]
  exact (AS (by show i + 1 < (is ++ [j]).length; rw [Ag,B9]; lia)).symm
 .have l:i < (is ++ [j]).length:=(Af.mp e).1
  rw [Ag,B9] at l
  obtain rfl:i=is.length:=by lia
  rw [AL (A1 _),Dn] at e
  cases e
  rw [AL (by rw [Ag,B9]; lia),Ag,B9,Dn]
  cases f j <;> rfl
structure Rg (f:Nat->Option Nat) (n:Nat) (r:List Nat):Prop where
 ne:r ≠ []
 nd:r.Nodup
 lt:∀ k ∈ r,k < n
 nx:∀ i k,r[i]?=some k->f k=r[(i + 1) % r.length]?
theorem ch_rg {is:List Nat} {j i0:Nat} (h:Ch f is (some j)) (nd:is.Nodup) (lt:∀ k ∈ is,k < n) (e:is[i0]?=some j):Rg f n (is.drop i0):=by
 have l0:=(Af.mp e).1
 have ll:(is.drop i0).length=is.length - i0:=AB
 refine ⟨λz => ?_,(List.drop_sublist _ _).nodup nd,λk hk=>lt k (B5 hk),λi k ek => ?_⟩
 .rw [z] at ll; have:0=is.length - i0:=ll; lia
 .have li:=(Af.mp ek).1
  rw [ll] at li
  rw [D5] at ek
  rw [h _ k ek,ll]
  by_cases c:i + 1 < is.length - i0
  .rw [Nat.mod_eq_of_lt c,D5,AS (by lia),Nat.add_assoc]
  .rw [show i + 1=is.length - i0 by lia,Nat.mod_self,D5,show i0 + 0=i0 from rfl,e,AL (by lia),show i0 + i + 1 - is.length=0 by lia]; rfl
noncomputable def Od (f:Nat->Option Nat) (os:List Nat):Prop:=∀ p k,os[p]?=some k->∀ b,f k=some b->b ∈ os.take p
theorem od_app {os is:List Nat} {o:Option Nat} (h:Od f os) (c:Ch f is o) (ho:∀ j,o=some j->j ∈ os):Od f (os ++ is.reverse):=by
 intro p k e b eb
 by_cases hp:p < os.length
 .rw [AS hp] at e
  have:=h p k e b eb
  rw [List.take_append_of_le_length (by lia)]
  exact this
 .rw [AL (by lia)] at e
  have lp:=(Af.mp e).1
  rw [Dr] at lp
  rw [DH lp] at e
  have g:=c _ k e
  rw [eb] at g
  rw [DP,Ax]
  by_cases z:is.length - 1 - (p - os.length) + 1 < is.length
  .rw [AS z] at g
   right
   rw [List.mem_iff_getElem?]
   refine ⟨is.length - 1 - (is.length - 1 - (p - os.length) + 1),?_⟩
   rw [Du (by lia),DH (by lia),show is.length - 1 - (is.length - 1 - (is.length - 1 - (p - os.length) + 1))=is.length - 1 - (p - os.length) + 1 by lia]
   exact g.symm
  .rw [AL (by lia),show is.length - 1 - (p - os.length) + 1 - is.length=0 by lia] at g
   left
   rw [Bs (by lia)]
   refine ho b ?_
   cases o with
   | none=>cases g
   | some j=>exact g.symm
theorem qu4 {l:List Nat} (nd:l.Nodup) (lt:∀ k ∈ l,k < n):l.length <= n:=by
 induction n generalizing l with
 | zero =>
  cases l with
  | nil=>exact A1 _
  | cons a l=>exact absurd (lt a Ak) (DZ _)
 | succ n ih =>
  have h:=ih (l:=l.erase n) (nd.erase n) (λk hk=>by
   have h1:=lt k (List.mem_of_mem_erase hk)
   have h2:k ≠ n:=λz=>by rw [z] at hk; exact nd.not_mem_erase hk
   lia)
  by_cases m:n ∈ l
  .rw [List.length_erase_of_mem m] at h; lia
  .rw [List.erase_of_not_mem m] at h; lia
end
structure Wr (nms:List Str) (bs:List (Option Nat)):Prop where
 nd:nms.Nodup
 len:bs.length=nms.length
 sm:nms.length <= 6
 ok:∀ k b,bo bs k=some b->b < nms.length
theorem qbk {H H':Hp} {x:Addr} {o0:HO} (hx:H x=none) (keep:∀ b o,b ≠ x->upd H x o0 b=some o->H' b=some o):Same H H':=λb o e=>keep b o (qag e hx) (by rw [zd (qag e hx)]; exact e)
noncomputable def spIL (K:Ae):Sp:=λvs H Q _=>∃ (x C l:Addr) (zs:List V) (ini:Option Value),vs=[.ref x,.ref l]/\H x=some (exO x C none true)/\SqL K H l zs/\XA K C ini/\AK K (.ref C) "names" = some none /\
 ∀ (dx l':Addr) (H':Hp),H dx=none->H l'=none->(∀ b o,b ≠ x->H b=some o->H' b=some o)->H' x=some (exO x C (some dx) true)->H' dx=some (exD dx [("names",.ref l')])->H' l'=some (.lst zs)->Q .non H'
noncomputable def OutR (a:Adr) (nms:List Str) (bs:List (Option Nat)) (H:Hp) (E:XK):Prop:=∀ (x d l:Addr) (H':Hp) (r:List Nat),Same H H'->H' x=some (exO x a.kB (some d) false)->H' d=some (exD d [("names",.ref l)])->H' l=some (.lst ((r.map (nm nms)).map V.str))->Rg (bo bs) nms.length r->E (.ref x) (some d) H'
theorem OutR.same {a:Adr} {nms:List Str} {bs:List (Option Nat)} {H H':Hp} {E:XK} (o:OutR a nms bs H E) (s:Same H H'):OutR a nms bs H' E:=λx d l H2 r z=>o x d l H2 r (s.trans z)
noncomputable def spUn7 (a:Adr):Sp:=λvs H Q E=>∃ (d t:Addr) (kvs:List (Key × V)) (nms:List Str) (bs:List (Option Nat)) (os:List Nat) (k:Nat),vs=[.str (nm nms k),.ref d,.ref t]/\H d=some (.dK kvs)/\H t=some (.lst ((os.map (nm nms)).map V.str))/\Wr nms bs/\(∀ j ∈ os,j < nms.length)/\k < nms.length/\DicOk kvs nms bs /\
 (∀ (q:Addr) (H':Hp) (is:List Nat) (o:Option Nat),H q=none->Same H H'->H' q=some (.lst ((is.map (nm nms)).map V.str))->Ch (bo bs) is o->is.Nodup->(∀ j ∈ is,j < nms.length/\j ∉ os)->(is ++ o.toList)[0]?=some k->(∀ j,o=some j->j ∈ os)->Q (.ref q) H')/\OutR a nms bs H E
theorem qni {nms:List Str} {os:List Nat} {j:Nat} (nd:nms.Nodup) (lt:∀ k ∈ os,k < nms.length) (hj:j < nms.length):(os.map (nm nms)).contains (nm nms j)=true ↔ j ∈ os:=by
 rw [BA,AI]
 constructor
 .rintro ⟨k,hk,e⟩
  rw [<- qi8 nd (lt k hk) hj e]; exact hk
 .exact λh=>⟨j,h,rfl⟩
theorem nm_ix {nms:List Str} {os:List Nat} {j:Nat} (nd:nms.Nodup) (lt:∀ k ∈ os,k < nms.length) (hj:j < nms.length) (ndo:os.Nodup) (h:j ∈ os):∃ i:Nat,os[i]?=some j/\(os.map (nm nms))[i]?=some (nm nms j)/\∀ m,m < i->(os.map (nm nms))[m]? ≠ some (nm nms j):=by
 obtain ⟨i,hi,e⟩:=List.getElem_of_mem h
 have e:os[i]?=some j:=by rw [Aj hi,e]
 refine ⟨i,e,by rw [An,e]; rfl,λm hm z => ?_⟩
 rw [An] at z
 cases em:os[m]? with
 | none=>rw [em] at z; cases z
 | some k =>
  rw [em] at z
  have:=qi8 nd (lt k (Aw em)) hj (AF z)
  rw [this,<- e] at em
  have:=(List.getElem?_inj (by lia) ndo).mp em
  lia
noncomputable def Ru (C:Addr) (H:Hp) (v:V) (x:Str) (b:V):Prop:=∃ (p dx:Addr) (fs:List (Str × V)),v=.ref p/\H p=some (.ins C dx fs)/\fs.lookup (Aa "name")=some (.str x)/\fs.lookup (Aa "base")=some b
theorem Ru.keep {C:Addr} {H H':Hp} {v:V} {x:Str} {b:V} (h:Ru C H v x b) (k:KeepN H H'):Ru C H' v x b:=by
 obtain ⟨p,dx,fs,e,h1,h2⟩:=h
 exact ⟨p,dx,fs,e,k _ _ (λl z=>by cases z) h1,h2⟩
theorem Ru.same {C:Addr} {H H':Hp} {v:V} {x:Str} {b:V} (h:Ru C H v x b) (s:Same H H'):Ru C H' v x b:=h.keep (KeepN.of s)
noncomputable def Rus (C:Addr) (H:Hp) (us:List V) (nms:List Str) (bs:List (Option Nat)):Prop:=us.length=nms.length/\∀ (j:Nat) (y:V),us[j]?=some y->Ru C H y (nm nms j) (qie nms (bo bs j))
noncomputable def spHa7 (a:Adr):Sp:=λvs H Q E=>∃ (pr:Addr) (us:List V) (nms:List Str) (bs:List (Option Nat)),vs=[.ref pr]/\H pr=some (.lst us)/\Rus a.k7 H us nms bs/\Wr nms bs /\
 (∀ (q:Addr) (H':Hp) (os:List Nat),H q=none->Same H H'->H' q=some (.lst ((os.map (nm nms)).map V.str))->os.Nodup->(∀ j ∈ os,j < nms.length)->Od (bo bs) os->(∀ j,j < nms.length->j ∈ os)->Q (.ref q) H')/\OutR a nms bs H E
theorem ch_hd {is:List Nat} {o:Option Nat} {k:Nat} {os:List Nat} (st:(is ++ o.toList)[0]?=some k) (ho:∀ j,o=some j->j ∈ os):k ∈ os ++ is.reverse:=by
 rw [Ax,DQ]
 cases is with
 | nil =>
  left
  cases o with
  | none=>cases st
  | some j=>exact ho k (by rw [<- show some j=some k from st])
 | cons j is =>
  right
  rw [<- show j=k from AF st]
  exact Ak
structure Ors (bs:List (Option Nat)) (n:Nat) (os:List Nat):Prop where
 nd:os.Nodup
 lt:∀ j ∈ os,j < n
 od:Od (bo bs) os
 al:∀ j,j < n->j ∈ os
open Wri
noncomputable abbrev ts (n:Int):Str:=Aa (toString n)
theorem le_0 (c:Nat):(!decide ((⟨#[c]⟩:Str).cps.toList < (Aa "0").cps.toList))=decide (48 <= c):=by
 have e:(Aa "0").cps.toList=[48]:=En
 rw [e]
 show (!decide ([c] < [48]))=decide (48 <= c)
 by_cases h:48 <= c
 .have n:¬ [c] < [48]:=by simp [BN]; lia
  simp [n,h]
 .have n:[c] < [48]:=by simp [BN]; lia
  simp [n,h]
theorem le_9 (c:Nat):(!decide ((Aa "9").cps.toList < (⟨#[c]⟩:Str).cps.toList))=decide (c <= 57):=by
 have e:(Aa "9").cps.toList=[57]:=En
 rw [e]
 show (!decide ([57] < [c]))=decide (c <= 57)
 by_cases h:c <= 57
 .have n:¬ [57] < [c]:=by simp [BN]; lia
  simp [n,h]
 .have n:[57] < [c]:=by simp [BN]; lia
  simp [n,h]
theorem nought:Aa "0" = ⟨#[48]⟩:=En
theorem qxg (x:Str):Txt.startswith x (Aa "0")=decide (x.cps.toList.head?=some 48):=by
 rw [nought,List.head?_eq_getElem?]
 have:=StrLaws.subAt_one x 48 0
 unfold Txt.startswith
 rw [Cz,decide_eq_true_eq,<- this,AC,decide_eq_true_eq]
theorem nbF {b:Bool} (h:(!b)=true):b=false:=by cases b with | false=>rfl | true=>cases h
theorem nbT {b:Bool} (h:¬ (!b)=true):b=true:=by cases b with | true=>rfl | false=>exact absurd rfl h
noncomputable def spFig:Sp:=λvs H Q _=>∃ c:Nat,vs=[.str ⟨#[c]⟩]/\Q (.bl (fig c)) H
noncomputable def wnm (x:Str) (m:Int):Bool:=(decide (1 <= x.cps.size) && decide ((x.cps.size:Int) <= m)) && (x.cps.toList.all fig && Wri.plain x)
noncomputable def spWn:Sp:=λvs H Q _=>∃ (x:Str) (m:Int),vs=[.str x,.int m]/\x.length <= 100000/\∀ H',Same H H'->Q (.bl (wnm x m)) H'
theorem log_ok {n:Int} (k:Nat) (hk:(10:Nat) ^ k < 2 ^ 1920) (h0:0 <= n) (h:n < 10 ^ k):n.natAbs.log2 < 1920:=by
 by_cases z:n.natAbs=0
 .rw [z]; decide
 .rw [Nat.log2_lt z]
  have:n.natAbs < 10 ^ k:=by
   have e:((n.natAbs:Nat):Int)=n:=Int.natAbs_of_nonneg h0
   have:((n.natAbs:Nat):Int) < ((10 ^ k:Nat):Int):=by rw [e,Int.natCast_pow]; exact h
   exact Int.ofNat_lt.mp this
  exact Nat.lt_trans this hk
theorem ts_len {n:Int} {k:Nat} (h0:0 <= n) (hk:0 < k) (h:n < 10 ^ k):(ts n).length <= k:=PyProof.Rows.toString_length_le h0 hk h
noncomputable def due (x:Str) (m:Int):Bool:=wnm x ((ts m).length:Nat) && (decide (1 <= nv x) && decide (nv x <= m))
noncomputable def qu5:Sp:=λvs H Q _=>∃ (x:Str) (m:Int),vs=[.str x,.int m]/\x.length <= 50000/\1 <= m/\m < 10 ^ 62/\(due x m=true->∀ H',Same H H'->Q (.int (nv x)) H')/\(due x m=false->∀ H',Same H H'->Q .non H')
noncomputable def low (c:Nat):Bool:=decide (97 <= c) && decide (c <= 122)
noncomputable def spLow:Sp:=λvs H Q _=>∃ c:Nat,vs=[.str ⟨#[c]⟩]/\Q (.bl (low c)) H
theorem le_a (c:Nat):(!decide ((⟨#[c]⟩:Str).cps.toList < (Aa "a").cps.toList))=decide (97 <= c):=by
 have e:(Aa "a").cps.toList=[97]:=En
 rw [e]
 show (!decide ([c] < [97]))=decide (97 <= c)
 by_cases h:97 <= c
 .have n:¬ [c] < [97]:=by simp [BN]; lia
  simp [n,h]
 .have n:[c] < [97]:=by simp [BN]; lia
  simp [n,h]
theorem le_z (c:Nat):(!decide ((Aa "z").cps.toList < (⟨#[c]⟩:Str).cps.toList))=decide (c <= 122):=by
 have e:(Aa "z").cps.toList=[122]:=En
 rw [e]
 show (!decide ([122] < [c]))=decide (c <= 122)
 by_cases h:c <= 122
 .have n:¬ [122] < [c]:=by simp [BN]; lia
  simp [n,h]
 .have n:[122] < [c]:=by simp [BN]; lia
  simp [n,h]
noncomputable def qbt (x:Str):Prop:=1 <= x.cps.size/\x.cps.size <= 8/\x.cps.toList.all low=true
noncomputable abbrev wS (s:String):Str:=Aa s
theorem iteT' {c:Prop} [Decidable c] {A B:Prop} (h:c) (a:A):if c then A else B:=by rw [if_pos h]; exact a
theorem qha:wS " " = ⟨#[32]⟩:=En
theorem qxh {x:Str} (h:qbt x) {c:Nat} (hc:c < 97):c ∉ x.cps.toList:=λz=>by
 have:=AQ.mp h.2.2 c z
 unfold low at this
 simp only [AC,decide_eq_true_eq] at this
 lia
noncomputable def qev (ls:List Str):Str:=Dw ⟨#[10]⟩ ls
theorem newl:wS "\n" = ⟨#[10]⟩:=En
noncomputable def qd8:Option Str->V
 | none=>.non
 | some y=>.str y
theorem iteF' {c:Prop} [Decidable c] {A B:Prop} (h:¬ c) (a:B):if c then A else B:=by rw [if_neg h]; exact a
theorem str_ext {x y:Str} (h:x.cps.toList=y.cps.toList):x=y:=by
 cases x; cases y
 simp only at h
 exact congrArg Str.mk (Array.toList_inj.mp h)
theorem qdo (x y:Str):(x ++ y).cps.toList=x.cps.toList ++ y.cps.toList:=by rw [CS,Dq]
theorem wds_ok {L:List Nat} {n e:Nat} {t:Int} (hL:L.all low=true) (hn:n + 1 <= L.length) (h8:L.length <= 8) (k:Nat):qbt (wdS L n e t k):=by
 have sg:low (sgn t e k)=true:=by
  unfold low sgn
  rw [decide_eq_true (show 97 <= 97 + _ by lia),decide_eq_true (show 97 + ((t + ((k / (1 + e):Nat):Int)) % 26).toNat <= 122 by lia)]; rfl
 have tk:∀ m,(L.take m).all low=true:=λm=>AQ.mpr λx hx=>AQ.mp hL x (Bu hx)
 have dr:∀ m,(L.drop m).all low=true:=λm=>AQ.mpr λx hx=>AQ.mp hL x (B5 hx)
 unfold wdS
 split
 .refine ⟨?_,?_,?_⟩
  .show 1 <= (L.take n ++ [sgn t e k]).toArray.size
   rw [Av,Ag,B9]; lia
  .show (L.take n ++ [sgn t e k]).toArray.size <= 8
   rw [Av,Ag,B9,Ap]; lia
  .show (L.take n ++ [sgn t e k]).all low=true
   rw [Ea,tk,Cr,sg]; rfl
 .refine ⟨?_,?_,?_⟩
  .show 1 <= (wdL L n (sgn t e k)).toArray.size
   rw [Av]; unfold wdL; rw [Ag,Aq]; lia
  .show (wdL L n (sgn t e k)).toArray.size <= 8
   rw [Av]; unfold wdL; rw [Ag,Aq,Ap,AB]; lia
  .show (wdL L n (sgn t e k)).all low=true
   unfold wdL; rw [Ea,tk,Cr,sg,dr]; rfl
noncomputable def spWo7:Sp:=λvs H Q _=>∃ (c:Int) (m:Nat),vs=[.int c,.int (m:Int)]/\(m <= 26 \/ (c % 2=1/\m <= 52))/\∀ (q:Addr) (H':Hp) (nms:List Str),H q=none->Same H H'->H' q=some (.lst (nms.map V.str))->nms.length=m->nms.Nodup->(∀ x ∈ nms,qbt x)->Q (.ref q) H'
theorem low26 {j:Nat} (h:j < 26):low (97 + j)=true:=by
 unfold low
 rw [decide_eq_true (by lia),decide_eq_true (by lia)]; rfl
noncomputable abbrev rlF (nm w o op b m u s pe pa pl py:V):List (Str × V):=[(Aa "name",nm),(Aa "who",w),(Aa "owes",o),(Aa "opens",op),(Aa "base",b),(Aa "many",m),(Aa "unit",u),(Aa "still",s),(Aa "ends",pe),(Aa "anew",pa),(Aa "longer",pl),(Aa "yields",py)]
noncomputable abbrev rq1 (a1:V):List (Str × V):=[(Aa "name",a1)]
noncomputable abbrev rq2 (a1 a2:V):List (Str × V):=rq1 a1 ++ [(Aa "who",a2)]
noncomputable abbrev rq3 (a1 a2 a3:V):List (Str × V):=rq2 a1 a2 ++ [(Aa "owes",a3)]
noncomputable abbrev rq4 (a1 a2 a3 a4:V):List (Str × V):=rq3 a1 a2 a3 ++ [(Aa "opens",a4)]
noncomputable abbrev rq5 (a1 a2 a3 a4 a5:V):List (Str × V):=rq4 a1 a2 a3 a4 ++ [(Aa "base",a5)]
noncomputable abbrev rq6 (a1 a2 a3 a4 a5 a6:V):List (Str × V):=rq5 a1 a2 a3 a4 a5 ++ [(Aa "many",a6)]
noncomputable abbrev rq7 (a1 a2 a3 a4 a5 a6 a7:V):List (Str × V):=rq6 a1 a2 a3 a4 a5 a6 ++ [(Aa "unit",a7)]
noncomputable abbrev rq8 (a1 a2 a3 a4 a5 a6 a7 a8:V):List (Str × V):=rq7 a1 a2 a3 a4 a5 a6 a7 ++ [(Aa "still",a8)]
noncomputable abbrev rq9 (a1 a2 a3 a4 a5 a6 a7 a8 a9:V):List (Str × V):=rq8 a1 a2 a3 a4 a5 a6 a7 a8 ++ [(Aa "ends",a9)]
noncomputable abbrev qp3 (a1 a2 a3 a4 a5 a6 a7 a8 a9 a10:V):List (Str × V):=rq9 a1 a2 a3 a4 a5 a6 a7 a8 a9 ++ [(Aa "anew",a10)]
noncomputable abbrev qov (a1 a2 a3 a4 a5 a6 a7 a8 a9 a10 a11:V):List (Str × V):=qp3 a1 a2 a3 a4 a5 a6 a7 a8 a9 a10 ++ [(Aa "longer",a11)]
noncomputable abbrev qp4 (a1 a2 a3 a4 a5 a6 a7 a8 a9 a10 a11 a12:V):List (Str × V):=qov a1 a2 a3 a4 a5 a6 a7 a8 a9 a10 a11 ++ [(Aa "yields",a12)]
noncomputable def qp5 (r:Str × Int × Int):List V:=[.str r.1,.int r.2.1,.int r.2.2]
noncomputable def StAt (H:Hp) (v:V):Option (Str × Str)->Prop
 | none=>v=.non
 | some s=>∃ p,v=.ref p/\H p=some (.tup [.str s.1,.str s.2])
theorem StAt.same {H H':Hp} {v:V} {o:Option (Str × Str)} (h:StAt H v o) (z:Same H H'):StAt H' v o:=by
 cases o with
 | none=>exact h
 | some s=>obtain ⟨p,h1,h2⟩:=h; exact ⟨p,h1,z _ _ h2⟩
noncomputable def qxi (K:Ae) (f:Str):Sp:=λvs H Q _=>∃ (x C:Addr) (y:V) (ini:Option Value),vs=[.ref x,y]/\H x=some (exO x C none true)/\XA K C ini/\AK K (.ref C) f=some none /\
 ∀ (dx:Addr) (H':Hp),H dx=none->(∀ b o,b ≠ x->H b=some o->H' b=some o)->H' x=some (exO x C (some dx) true)->H' dx=some (exD dx [(f,y)])->Q .non H'
noncomputable def nmB (x:Str):Bool:=(decide (1 <= x.cps.size) && decide (x.cps.size <= 8)) && x.cps.toList.all low
theorem qdg {x:Str}:nmB x=true ↔ qbt x:=by
 unfold nmB qbt
 rw [AC,AC,decide_eq_true_eq,decide_eq_true_eq,and_assoc]
noncomputable def spNmG:Sp:=λvs H Q _=>∃ x:Str,vs=[.str x]/\x.length <= 2000/\∀ H',Same H H'->Q (.bl (nmB x)) H'
noncomputable def qbv:List Str:=[wS "days",wS "weeks",wS "court"]
inductive Ask where
 | num (m:Int)
 | name
 | unit
 | lit (c:Str)
noncomputable def askV:Ask->V
 | .num m=>.int m
 | .name=>.str (wS "NAME")
 | .unit=>.str (wS "UNIT")
 | .lit c=>.str c
noncomputable def qu6:Ask->Prop
 | .num m=>1 <= m/\m < 10 ^ 62
 | .name=>True
 | .unit=>True
 | .lit c=>c ≠ wS "NAME" /\ c ≠ wS "UNIT"
noncomputable def qc9 (w:Str):Ask->Option V
 | .num m=>if due w m=true then some (.int (nv w)) else none
 | .name=>if nmB w=true then some (.str w) else none
 | .unit=>if qbv.contains w=true then some (.str w) else none
 | .lit c=>if w=c then some (.str w) else none
noncomputable def spValG:Sp:=λvs H Q _=>∃ (w:Str) (q:Ask),vs=[.str w,askV q]/\qu6 q/\w.length <= 2000/\∀ H',Same H H'->Q ((qc9 w q).getD .non) H'
noncomputable def qcf:List Str->List Ask->Option (List V)
 | [],[]=>some []
 | w :: ws,q :: qs=>(qc9 w q).bind λv=>(qcf ws qs).map (v :: ·)
 | _,_=>none
noncomputable def qdu (d:Str):List Ask:=[.lit (wS "term"),.name,.lit (wS "of"),.name,.lit (wS "due"),.name,.lit d,.name,.num 40,.unit]
noncomputable def qkx:List (List Ask):=[qdu (wS "from"),qdu (wS "behind"),[.lit (wS "ends"),.name,.name],[.lit (wS "anew"),.name,.name],[.lit (wS "longer"),.name,.name,.num 20,.lit (wS "times"),.num 3],[.lit (wS "still"),.name,.name,.name],[.lit (wS "yields"),.name,.name]]
noncomputable def qif (ws:List Str):Option (List V):=qkx.findSome? (qcf ws)
noncomputable def zsG (ws:List Str) (f:List Ask):List V:=(ws.zip f).map λp=>(qc9 p.1 p.2).getD .non
theorem qxj {ws:List Str} {f:List Ask} (h:ws.length=f.length):(zsG ws f).length=ws.length:=by
 unfold zsG; rw [Ab,List.length_zip,h,Nat.min_self]
theorem qmj (w:Str) (q:Ask):qct ((qc9 w q).getD .non)=true/\(qc9 w q=none->(qc9 w q).getD .non=.non)/\∀ v,qc9 w q=some v->eqV v .non=false:=by
 cases q <;> (unfold qc9; dsimp only; split <;> exact ⟨rfl,λz=>(by first | rfl | cases z),λv z=>by first | (cases z; rfl) | cases z⟩)
theorem qu7 (ws:List Str) (f:List Ask):(zsG ws f).all qct=true:=by
 unfold zsG
 rw [CY,AQ]
 exact λp _=>(qmj p.1 p.2).1
theorem qrc:∀ {ws:List Str} {f:List Ask},ws.length=f.length->qcf ws f=if inV .non (zsG ws f)=true then none else some (zsG ws f)
 | [],[],_=>rfl
 | w :: ws,q :: qs,h=>by
  have ih:=qrc (ws:=ws) (f:=qs) (CF h)
  obtain ⟨_,h1,h2⟩:=qmj w q
  have e:inV .non (zsG (w :: ws) (q :: qs))=(eqV ((qc9 w q).getD .non) .non || inV .non (zsG ws qs)):=by
   unfold inV zsG
   rw [List.zip_cons_cons,A6,Dv]
  rw [e]
  show (qc9 w q).bind (λv=>(qcf ws qs).map (v :: ·))=_
  cases ev:qc9 w q with
  | none=>rfl
  | some v =>
   have:=h2 v ev
   show (qcf ws qs).map (v :: ·)=if (eqV v .non || inV .non (zsG ws qs))=true then none else some (zsG (w :: ws) (q :: qs))
   rw [this,Bool.false_or,ih]
   have ez:zsG (w :: ws) (q :: qs)=v :: zsG ws qs:=by unfold zsG; rw [List.zip_cons_cons,A6,ev]; rfl
   rw [ez]
   split <;> rfl
theorem qa0:∀ {ws:List Str} {f:List Ask},ws.length ≠ f.length->qcf ws f=none
 | [],[],h=>absurd rfl h
 | [],_ :: _,_=>rfl
 | _ :: _,[],_=>rfl
 | w :: ws,q :: qs,h=>by
  show (qc9 w q).bind (λv=>(qcf ws qs).map (v :: ·))=none
  rw [qa0 (λz=>h (by rw [Aq,Aq,z]))]
  cases qc9 w q <;> rfl
theorem qu8:∀ f ∈ qkx,∀ q ∈ f,qu6 q:=by
 have t:∀ d,d ≠ wS "NAME" -> d ≠ wS "UNIT" -> ∀ q ∈ qdu d,qu6 q:=λd h1 h2 q hq=>by
  simp only [qdu,Ao,Ar,or_false] at hq
  rcases hq with rfl | rfl | rfl | rfl | rfl | rfl | rfl | rfl | rfl | rfl
  all_goals first | trivial | exact ⟨h1,h2⟩ | exact ⟨Ez,Ez⟩ | exact ⟨En,En⟩
 intro f hf
 simp only [qkx,Ao,Ar,or_false] at hf
 rcases hf with rfl | rfl | rfl | rfl | rfl | rfl | rfl
 .exact t _ En En
 .exact t _ En En
 .intro q hq
  simp only [Ao,Ar,or_false] at hq
  rcases hq with rfl | rfl | rfl
  all_goals first | trivial | exact ⟨Ez,Ez⟩ | exact ⟨En,En⟩
 .intro q hq
  simp only [Ao,Ar,or_false] at hq
  rcases hq with rfl | rfl | rfl
  all_goals first | trivial | exact ⟨Ez,Ez⟩ | exact ⟨En,En⟩
 .intro q hq
  simp only [Ao,Ar,or_false] at hq
  rcases hq with rfl | rfl | rfl | rfl | rfl | rfl
  all_goals first | trivial | exact ⟨Ez,Ez⟩ | exact ⟨En,En⟩
 .intro q hq
  simp only [Ao,Ar,or_false] at hq
  rcases hq with rfl | rfl | rfl | rfl
  all_goals first | trivial | exact ⟨Ez,Ez⟩ | exact ⟨En,En⟩
 .intro q hq
  simp only [Ao,Ar,or_false] at hq
  rcases hq with rfl | rfl | rfl
  all_goals first | trivial | exact ⟨Ez,Ez⟩ | exact ⟨En,En⟩
noncomputable def spRowG:Sp:=λvs H Q _=>∃ l:Str,vs=[.str l]/\l.length <= 1000/\(∀ (q:Addr) (H':Hp) (us:List V),H q=none->Same H H'->qif (BE l (wS " "))=some us->H' q=some (.lst us)->Q (.ref q) H')/\(qif (BE l (wS " "))=none->∀ H',Same H H'->Q .non H')
inductive Rw7 where
 | term (x w o:Str) (d:Bool) (y:Str) (m:Int) (u:Str)
 | ends (x k:Str)
 | anew (x k:Str)
 | longer (x k:Str) (u t:Int)
 | still (x k l:Str)
 | yields (x y:Str)
noncomputable def fbS (d:Bool):Str:=if d=true then wS "behind" else wS "from"
noncomputable def qco:Rw7->List V
 | .term x w o d y m u=>[.str (wS "term"),.str x,.str (wS "of"),.str w,.str (wS "due"),.str o,.str (fbS d),.str y,.int m,.str u]
 | .ends x k=>[.str (wS "ends"),.str x,.str k]
 | .anew x k=>[.str (wS "anew"),.str x,.str k]
 | .longer x k u t=>[.str (wS "longer"),.str x,.str k,.int u,.str (wS "times"),.int t]
 | .still x k l=>[.str (wS "still"),.str x,.str k,.str l]
 | .yields x y=>[.str (wS "yields"),.str x,.str y]
noncomputable def qdp:List Str->Option Rw7
 | [a,x,b,w,c,o,d,y,m,u]=>if a=wS "term" /\ nmB x=true/\b=wS "of" /\ nmB w=true/\c=wS "due" /\ nmB o=true/\(d=wS "from" \/ d=wS "behind")/\nmB y=true/\due m 40=true/\qbv.contains u=true then some (.term x w o (decide (d=wS "behind")) y (nv m) u) else none
 | [a,x,k]=>if nmB x=true/\nmB k=true then (if a=wS "ends" then some (.ends x k) else if a=wS "anew" then some (.anew x k) else if a=wS "yields" then some (.yields x k) else none) else none
 | [a,x,k,u,t,n]=>if a=wS "longer" /\ nmB x=true/\nmB k=true/\due u 20=true/\t=wS "times" /\ due n 3=true then some (.longer x k (nv u) (nv n)) else none
 | [a,x,k,l]=>if a=wS "still" /\ nmB x=true/\nmB k=true/\nmB l=true then some (.still x k l) else none
 | _=>none
theorem qrd {α β:Type} {g:α->Option β}:∀ {l:List α} {i:Nat} {x:α} {y:β},l[i]?=some x->g x=some y->(∀ j z,j < i->l[j]?=some z->g z=none)->l.findSome? g=some y
 | [],i,_,_,h,_,_=>by cases i <;> cases h
 | z :: l,0,x,y,h,e,_=>by
  cases h
  rw [Ef,e]
 | z :: l,i + 1,x,y,h,e,al=>by
  rw [Ef,al 0 z (DC _) rfl]
  exact qrd (l:=l) (i:=i) h e λj w hj hw=>al (j + 1) w (Nat.succ_lt_succ hj) hw
theorem qjg {w c:Str} (h:w=c):qc9 w (.lit c)=some (.str w):=if_pos h
theorem qjh {w c:Str} (h:¬ w=c):qc9 w (.lit c)=none:=if_neg h
theorem qew {w:Str} (h:nmB w=true):qc9 w .name=some (.str w):=if_pos h
theorem qex {w:Str} (h:¬ nmB w=true):qc9 w .name=none:=if_neg h
theorem qu9 {w:Str} {m:Int} (h:due w m=true):qc9 w (.num m)=some (.int (nv w)):=if_pos h
theorem qva {w:Str} {m:Int} (h:¬ due w m=true):qc9 w (.num m)=none:=if_neg h
theorem unit_t {w:Str} (h:qbv.contains w=true):qc9 w .unit=some (.str w):=if_pos h
theorem unit_f {w:Str} (h:¬ qbv.contains w=true):qc9 w .unit=none:=if_neg h
theorem qbx {w:Str} {q:Ask} {v:V} {ws:List Str} {qs:List Ask} {vs:List V} (h:qc9 w q=some v) (t:qcf ws qs=some vs):qcf (w :: ws) (q :: qs)=some (v :: vs):=by
 show (qc9 w q).bind (λv=>(qcf ws qs).map (v :: ·))=_
 rw [h,t]; rfl
theorem qby {w:Str} {q:Ask} {ws:List Str} {qs:List Ask} (h:qc9 w q=none):qcf (w :: ws) (q :: qs)=none:=by
 show (qc9 w q).bind (λv=>(qcf ws qs).map (v :: ·))=_
 rw [h]; rfl
theorem qah {w:Str} {q:Ask} {ws:List Str} {qs:List Ask} (t:qcf ws qs=none):qcf (w :: ws) (q :: qs)=none:=by
 show (qc9 w q).bind (λv=>(qcf ws qs).map (v :: ·))=_
 rw [t]; cases qc9 w q <;> rfl
theorem qmk {a x b w c o d y m u e:Str}:qcf [a,x,b,w,c,o,d,y,m,u] (qdu e)=if a=wS "term" /\ nmB x=true/\b=wS "of" /\ nmB w=true/\c=wS "due" /\ nmB o=true/\d=e/\nmB y=true/\due m 40=true/\qbv.contains u=true then some [.str a,.str x,.str b,.str w,.str c,.str o,.str d,.str y,.int (nv m),.str u] else none:=by
 unfold qdu
 by_cases h0:a=wS "term"
 .by_cases h1:nmB x=true
  .by_cases h2:b=wS "of"
   .by_cases h3:nmB w=true
    .by_cases h4:c=wS "due"
     .by_cases h5:nmB o=true
      .by_cases h6:d=e
       .by_cases h7:nmB y=true
        .by_cases h8:due m 40=true
         .by_cases h9:qbv.contains u=true
          .rw [if_pos ⟨h0,h1,h2,h3,h4,h5,h6,h7,h8,h9⟩]
           exact qbx (qjg h0) (qbx (qew h1) (qbx (qjg h2) (qbx (qew h3) (qbx (qjg h4) (qbx (qew h5) (qbx (qjg h6) (qbx (qew h7) (qbx (qu9 h8) (qbx (unit_t h9) rfl)))))))))
          .rw [if_neg λz=>h9 z.2.2.2.2.2.2.2.2.2]
           exact qah (qah (qah (qah (qah (qah (qah (qah (qah (qby (unit_f h9))))))))))
         .rw [if_neg λz=>h8 z.2.2.2.2.2.2.2.2.1]
          exact qah (qah (qah (qah (qah (qah (qah (qah (qby (qva h8)))))))))
        .rw [if_neg λz=>h7 z.2.2.2.2.2.2.2.1]
         exact qah (qah (qah (qah (qah (qah (qah (qby (qex h7))))))))
       .rw [if_neg λz=>h6 z.2.2.2.2.2.2.1]
        exact qah (qah (qah (qah (qah (qah (qby (qjh h6)))))))
      .rw [if_neg λz=>h5 z.2.2.2.2.2.1]
       exact qah (qah (qah (qah (qah (qby (qex h5))))))
     .rw [if_neg λz=>h4 z.2.2.2.2.1]
      exact qah (qah (qah (qah (qby (qjh h4)))))
    .rw [if_neg λz=>h3 z.2.2.2.1]
     exact qah (qah (qah (qby (qex h3))))
   .rw [if_neg λz=>h2 z.2.2.1]
    exact qah (qah (qby (qjh h2)))
  .rw [if_neg λz=>h1 z.2.1]
   exact qah (qby (qex h1))
 .rw [if_neg λz=>h0 z.1]
  exact qby (qjh h0)
theorem qp6 {a x k e:Str}:qcf [a,x,k] [.lit e,.name,.name]=if a=e/\nmB x=true/\nmB k=true then some [.str a,.str x,.str k] else none:=by
 by_cases h0:a=e
 .by_cases h1:nmB x=true
  .by_cases h2:nmB k=true
   .rw [if_pos ⟨h0,h1,h2⟩]
    exact qbx (qjg h0) (qbx (qew h1) (qbx (qew h2) rfl))
   .rw [if_neg λz=>h2 z.2.2]
    exact qah (qah (qby (qex h2)))
  .rw [if_neg λz=>h1 z.2.1]
   exact qah (qby (qex h1))
 .rw [if_neg λz=>h0 z.1]
  exact qby (qjh h0)
theorem vals_4 {a x k l e:Str}:qcf [a,x,k,l] [.lit e,.name,.name,.name]=if a=e/\nmB x=true/\nmB k=true/\nmB l=true then some [.str a,.str x,.str k,.str l] else none:=by
 by_cases h0:a=e
 .by_cases h1:nmB x=true
  .by_cases h2:nmB k=true
   .by_cases h3:nmB l=true
    .rw [if_pos ⟨h0,h1,h2,h3⟩]
     exact qbx (qjg h0) (qbx (qew h1) (qbx (qew h2) (qbx (qew h3) rfl)))
    .rw [if_neg λz=>h3 z.2.2.2]
     exact qah (qah (qah (qby (qex h3))))
   .rw [if_neg λz=>h2 z.2.2.1]
    exact qah (qah (qby (qex h2)))
  .rw [if_neg λz=>h1 z.2.1]
   exact qah (qby (qex h1))
 .rw [if_neg λz=>h0 z.1]
  exact qby (qjh h0)
theorem vals_6 {a x k u t n:Str}:qcf [a,x,k,u,t,n] [.lit (wS "longer"),.name,.name,.num 20,.lit (wS "times"),.num 3]=if a=wS "longer" /\ nmB x=true/\nmB k=true/\due u 20=true/\t=wS "times" /\ due n 3=true then some [.str a,.str x,.str k,.int (nv u),.str t,.int (nv n)] else none:=by
 by_cases h0:a=wS "longer"
 .by_cases h1:nmB x=true
  .by_cases h2:nmB k=true
   .by_cases h3:due u 20=true
    .by_cases h4:t=wS "times"
     .by_cases h5:due n 3=true
      .rw [if_pos ⟨h0,h1,h2,h3,h4,h5⟩]
       exact qbx (qjg h0) (qbx (qew h1) (qbx (qew h2) (qbx (qu9 h3) (qbx (qjg h4) (qbx (qu9 h5) rfl)))))
      .rw [if_neg λz=>h5 z.2.2.2.2.2]
       exact qah (qah (qah (qah (qah (qby (qva h5))))))
     .rw [if_neg λz=>h4 z.2.2.2.2.1]
      exact qah (qah (qah (qah (qby (qjh h4)))))
    .rw [if_neg λz=>h3 z.2.2.2.1]
     exact qah (qah (qah (qby (qva h3))))
   .rw [if_neg λz=>h2 z.2.2.1]
    exact qah (qah (qby (qex h2)))
  .rw [if_neg λz=>h1 z.2.1]
   exact qah (qby (qex h1))
 .rw [if_neg λz=>h0 z.1]
  exact qby (qjh h0)
theorem qig (ws:List Str):qif ws=(qcf ws (qdu (wS "from"))).or ((qcf ws (qdu (wS "behind"))).or ((qcf ws [.lit (wS "ends"),.name,.name]).or ((qcf ws [.lit (wS "anew"),.name,.name]).or ((qcf ws [.lit (wS "longer"),.name,.name,.num 20,.lit (wS "times"),.num 3]).or ((qcf ws [.lit (wS "still"),.name,.name,.name]).or (qcf ws [.lit (wS "yields"),.name,.name])))))):=by
 unfold qif qkx
 simp only [Ef,List.findSome?_nil]
 cases qcf ws (qdu (wS "from")) with
 | some v=>rfl
 | none =>
  cases qcf ws (qdu (wS "behind")) with
  | some v=>rfl
  | none =>
   cases qcf ws [.lit (wS "ends"),.name,.name] with
   | some v=>rfl
   | none =>
    cases qcf ws [.lit (wS "anew"),.name,.name] with
    | some v=>rfl
    | none =>
     cases qcf ws [.lit (wS "longer"),.name,.name,.num 20,.lit (wS "times"),.num 3] with
     | some v=>rfl
     | none =>
      cases qcf ws [.lit (wS "still"),.name,.name,.name] with
      | some v=>rfl
      | none=>cases qcf ws [.lit (wS "yields"),.name,.name] <;> rfl
theorem qdq {ws:List Str} (h:ws.length ≠ 10/\ws.length ≠ 3/\ws.length ≠ 6/\ws.length ≠ 4):qif ws=none:=by
 rw [qig,qa0 (f:=qdu (wS "from")) h.1,qa0 (f:=qdu (wS "behind")) h.1,qa0 (f:=[.lit (wS "ends"),.name,.name]) h.2.1,qa0 (f:=[.lit (wS "anew"),.name,.name]) h.2.1,qa0 (f:=[.lit (wS "longer"),.name,.name,.num 20,.lit (wS "times"),.num 3]) h.2.2.1,qa0 (f:=[.lit (wS "still"),.name,.name,.name]) h.2.2.2,qa0 (f:=[.lit (wS "yields"),.name,.name]) h.2.1]
 rfl
theorem qjz (a x b w c o d y m u:Str):qdp [a,x,b,w,c,o,d,y,m,u]=if a=wS "term" /\ nmB x=true/\b=wS "of" /\ nmB w=true/\c=wS "due" /\ nmB o=true/\(d=wS "from" \/ d=wS "behind")/\nmB y=true/\due m 40=true/\qbv.contains u=true then some (.term x w o (decide (d=wS "behind")) y (nv m) u) else none:=rfl
theorem qi9 (a x k:Str):qdp [a,x,k]=if nmB x=true/\nmB k=true then (if a=wS "ends" then some (.ends x k) else if a=wS "anew" then some (.anew x k) else if a=wS "yields" then some (.yields x k) else none) else none:=rfl
theorem qnj (a x k u t n:Str):qdp [a,x,k,u,t,n]=if a=wS "longer" /\ nmB x=true/\nmB k=true/\due u 20=true/\t=wS "times" /\ due n 3=true then some (.longer x k (nv u) (nv n)) else none:=rfl
theorem qnk (a x k l:Str):qdp [a,x,k,l]=if a=wS "still" /\ nmB x=true/\nmB k=true/\nmB l=true then some (.still x k l) else none:=rfl
theorem qxk {a x b w c o d y m u:Str}:qif [a,x,b,w,c,o,d,y,m,u]=(qdp [a,x,b,w,c,o,d,y,m,u]).map qco:=by
 have l:([a,x,b,w,c,o,d,y,m,u]:List Str).length=10:=rfl
 rw [qig,qmk,qmk,qa0 (f:=[.lit (wS "ends"),.name,.name]) (by rw [l]; decide),qa0 (f:=[.lit (wS "anew"),.name,.name]) (by rw [l]; decide),qa0 (f:=[.lit (wS "longer"),.name,.name,.num 20,.lit (wS "times"),.num 3]) (by rw [l]; decide),qa0 (f:=[.lit (wS "still"),.name,.name,.name]) (by rw [l]; decide),qa0 (f:=[.lit (wS "yields"),.name,.name]) (by rw [l]; decide)]
 rw [qjz]
 have nb:wS "from" ≠ wS "behind" := by decide +kernel
 by_cases h1:a=wS "term" /\ nmB x=true/\b=wS "of" /\ nmB w=true/\c=wS "due" /\ nmB o=true/\d=wS "from" /\ nmB y=true/\due m 40=true/\qbv.contains u=true
 .obtain ⟨h0,h1,h2,h3,h4,h5,h6,h7⟩:=h1
  rw [if_pos ⟨h0,h1,h2,h3,h4,h5,h6,h7⟩,if_neg (λz=>nb (h6.symm.trans z.2.2.2.2.2.2.1)),if_pos ⟨h0,h1,h2,h3,h4,h5,.inl h6,h7⟩]
  subst h0 h2 h4 h6
  rw [decide_eq_false nb]
  rfl
 .rw [if_neg h1]
  by_cases h2:a=wS "term" /\ nmB x=true/\b=wS "of" /\ nmB w=true/\c=wS "due" /\ nmB o=true/\d=wS "behind" /\ nmB y=true/\due m 40=true/\qbv.contains u=true
  .obtain ⟨h0,h1,h2,h3,h4,h5,h6,h7⟩:=h2
   rw [if_pos ⟨h0,h1,h2,h3,h4,h5,h6,h7⟩,if_pos ⟨h0,h1,h2,h3,h4,h5,.inr h6,h7⟩]
   subst h0 h2 h4 h6
   rw [decide_eq_true rfl]
   rfl
  .rw [if_neg h2,if_neg λz=>by
    obtain ⟨g0,g1,g2,g3,g4,g5,g6,g7⟩:=z
    rcases g6 with g6 | g6
    .exact h1 ⟨g0,g1,g2,g3,g4,g5,g6,g7⟩
    .exact h2 ⟨g0,g1,g2,g3,g4,g5,g6,g7⟩]
   rfl
theorem rowV_3 {a x k:Str}:qif [a,x,k]=(qdp [a,x,k]).map qco:=by
 have l:([a,x,k]:List Str).length=3:=rfl
 rw [qig,qa0 (f:=qdu (wS "from")) (by rw [l]; decide),qa0 (f:=qdu (wS "behind")) (by rw [l]; decide),qp6,qp6,qa0 (f:=[.lit (wS "longer"),.name,.name,.num 20,.lit (wS "times"),.num 3]) (by rw [l]; decide),qa0 (f:=[.lit (wS "still"),.name,.name,.name]) (by rw [l]; decide),qp6]
 rw [qi9]
 by_cases h:nmB x=true/\nmB k=true
 .rw [if_pos h]
  by_cases h1:a=wS "ends"
  .rw [if_pos ⟨h1,h⟩,if_pos h1]
   subst h1; rfl
  .rw [if_neg (λz=>h1 z.1),if_neg h1]
   by_cases h2:a=wS "anew"
   .rw [if_pos ⟨h2,h⟩,if_pos h2]
    subst h2; rfl
   .rw [if_neg (λz=>h2 z.1),if_neg h2]
    by_cases h3:a=wS "yields"
    .rw [if_pos ⟨h3,h⟩,if_pos h3]
     subst h3; rfl
    .rw [if_neg (λz=>h3 z.1),if_neg h3]
     rfl
 .rw [if_neg h,if_neg (λz=>h z.2),if_neg (λz=>h z.2),if_neg (λz=>h z.2)]
  rfl
theorem rowV_4 {a x k e:Str}:qif [a,x,k,e]=(qdp [a,x,k,e]).map qco:=by
 have l:([a,x,k,e]:List Str).length=4:=rfl
 rw [qig,qa0 (f:=qdu (wS "from")) (by rw [l]; decide),qa0 (f:=qdu (wS "behind")) (by rw [l]; decide),qa0 (f:=[.lit (wS "ends"),.name,.name]) (by rw [l]; decide),qa0 (f:=[.lit (wS "anew"),.name,.name]) (by rw [l]; decide),qa0 (f:=[.lit (wS "longer"),.name,.name,.num 20,.lit (wS "times"),.num 3]) (by rw [l]; decide),vals_4,qa0 (f:=[.lit (wS "yields"),.name,.name]) (by rw [l]; decide)]
 rw [qnk]
 by_cases h:a=wS "still" /\ nmB x=true/\nmB k=true/\nmB e=true
 .rw [if_pos h,if_pos h]
  obtain ⟨h0,_⟩:=h
  subst h0; rfl
 .rw [if_neg h,if_neg h]
  rfl
theorem rowV_6 {a x k u t n:Str}:qif [a,x,k,u,t,n]=(qdp [a,x,k,u,t,n]).map qco:=by
 have l:([a,x,k,u,t,n]:List Str).length=6:=rfl
 rw [qig,qa0 (f:=qdu (wS "from")) (by rw [l]; decide),qa0 (f:=qdu (wS "behind")) (by rw [l]; decide),qa0 (f:=[.lit (wS "ends"),.name,.name]) (by rw [l]; decide),qa0 (f:=[.lit (wS "anew"),.name,.name]) (by rw [l]; decide),vals_6,qa0 (f:=[.lit (wS "still"),.name,.name,.name]) (by rw [l]; decide),qa0 (f:=[.lit (wS "yields"),.name,.name]) (by rw [l]; decide)]
 rw [qnj]
 by_cases h:a=wS "longer" /\ nmB x=true/\nmB k=true/\due u 20=true/\t=wS "times" /\ due n 3=true
 .rw [if_pos h,if_pos h]
  obtain ⟨h0,_,_,_,h4,_⟩:=h
  subst h0 h4; rfl
 .rw [if_neg h,if_neg h]
  rfl
theorem qvb:∀ ws:List Str,qif ws=(qdp ws).map qco
 | [a,x,b,w,c,o,d,y,m,u]=>qxk
 | [a,x,k]=>rowV_3
 | [a,x,k,u,t,n]=>rowV_6
 | [a,x,k,l]=>rowV_4
 | []=>qdq (by simp)
 | [_]=>qdq (by simp)
 | [_,_]=>qdq (by simp)
 | [_,_,_,_,_]=>qdq (by simp)
 | [_,_,_,_,_,_,_]=>qdq (by simp)
 | [_,_,_,_,_,_,_,_]=>qdq (by simp)
 | [_,_,_,_,_,_,_,_,_]=>qdq (by simp)
 | _ :: _ :: _ :: _ :: _ :: _ :: _ :: _ :: _ :: _ :: _ :: r=>qdq (by simp only [Aq]; lia)
structure RR where
 name:Str
 who:Str
 owes:Str
 opens:Option Str
 base:Option Str
 many:Int
 unit:Str
 ends:List Str
 anew:List Str
 longer:List (Str × Int × Int)
 still:Option (Str × Str)
 yields:List Str
noncomputable def r0:RR:=⟨wS "",wS "",wS "",none,none,0,wS "",[],[],[],none,[]⟩
noncomputable def stL:Option (Str × Str)->List Str
 | none=>[]
 | some s=>[s.1,s.2]
noncomputable def qao (r:RR):List Str:=([r.owes] ++ r.ends ++ r.anew ++ r.longer.map (·.1)) ++ r.opens.toList ++ stL r.still
inductive Er where
 | rule (i:Nat)
 | term (x:Str)
 | twice (x:Str)
 | unfit (i:Nat)
noncomputable def qar:List RR->Str->Option Nat
 | [],_=>none
 | r :: rs,x=>if r.name=x then some 0 else (qar rs x).map (· + 1)
noncomputable def kin:Rw7->List Str
 | .term _ _ _ _ _ _ _=>[]
 | .ends _ k=>[k]
 | .anew _ k=>[k]
 | .longer _ k _ _=>[k]
 | .still _ k l=>[k,l]
 | .yields _ _=>[]
noncomputable def qvc (r:RR):Rw7->Bool
 | .still _ k l=>r.still.isSome || decide (k=l)
 | .longer _ _ _ _=>decide (r.longer.length=2)
 | _=>false
noncomputable def qg7 (r:RR) (row:Rw7):Bool:=((kin row).any λk=>(qao r).contains k) || qvc r row
noncomputable def qc6 (r:RR):Rw7->RR
 | .ends _ k=>{ r with ends:=r.ends ++ [k] }
 | .anew _ k=>{ r with anew:=r.anew ++ [k] }
 | .longer _ k u t=>{ r with longer:=r.longer ++ [(k,u,t)] }
 | .still _ k l=>{ r with still:=some (k,l) }
 | _=>r
noncomputable def qnl (x w o:Str) (d:Bool) (y:Str) (m:Int) (u:Str):RR:=⟨x,w,o,if d=true then none else some y,if d=true then some y else none,m,u,[],[],[],none,[]⟩
noncomputable def qa3:Rw7->Str
 | .term x _ _ _ _ _ _=>x
 | .ends x _=>x
 | .anew x _=>x
 | .longer x _ _ _=>x
 | .still x _ _=>x
 | .yields x _=>x
noncomputable def isT:Rw7->Bool
 | .term _ _ _ _ _ _ _=>true
 | _=>false
noncomputable def qe4 (rs:List RR) (i:Nat) (x w o:Str) (d:Bool) (y:Str) (m:Int) (u:Str):Except Er (List RR) :=
 if (qar rs x).isSome=true then .error (.twice x) else if rs.length=6 \/ (d=false/\o=y) then .error (.unfit i) else .ok (rs ++ [qnl x w o d y m u])
noncomputable def qih (rs:List RR) (i:Nat) (row:Rw7):Except Er (List RR) :=
 match qar rs (qa3 row) with
 | none=>.error (.term (qa3 row))
 | some j=>if qg7 (rs.getD j r0) row=true then .error (.unfit i) else .ok (rs.set j (qc6 (rs.getD j r0) row))
noncomputable def qbz (rs:List RR) (i:Nat):Rw7->Except Er (List RR)
 | .term x w o d y m u=>qe4 rs i x w o d y m u
 | row=>qih rs i row
noncomputable def qdc (rs:List RR) (i j:Nat) (y:Str):Except Er (List RR) :=
 match qar rs y with
 | none=>.error (.term y)
 | some l=>if y=(rs.getD j r0).name \/ y ∈ (rs.getD j r0).yields \/ (rs.getD l r0).owes ≠ (rs.getD j r0).owes then .error (.unfit i) else .ok (rs.set j { rs.getD j r0 with yields:=(rs.getD j r0).yields ++ [y] })
noncomputable def qb6 (rs:List RR) (i:Nat):Rw7->Except Er (List RR)
 | .term x _ _ _ _ _ _=>match qar rs x with
  | none=>.ok rs
  | some j=>match (rs.getD j r0).base with
   | none=>.ok rs
   | some y=>if (qar rs y).isSome=true then .ok rs else .error (.term y)
 | .yields x y=>match qar rs x with
  | none=>.ok rs
  | some j=>qdc rs i j y
 | _=>.ok rs
structure RA where
 p:Addr
 dx:Addr
 pe:Addr
 pa:Addr
 pl:Addr
 py:Addr
noncomputable def own (A:RA):List Addr:=[A.p,A.pe,A.pa,A.pl,A.py]
noncomputable def KeepT (S:List Addr) (H H':Hp):Prop:=∀ b o,(b ∉ S \/ ∃ t,o=.tup t)->H b=some o->H' b=some o
theorem KeepT.of {S:List Addr} {H H':Hp} (s:Same H H'):KeepT S H H':=λb o _ e=>s b o e
theorem KeepT.trans {S:List Addr} {H H1 H2:Hp} (a:KeepT S H H1) (b:KeepT S H1 H2):KeepT S H H2:=λc o n e=>b c o n (a c o n e)
theorem KeepT.sub {S S':List Addr} {H H':Hp} (a:KeepT S H H') (h:∀ z ∈ S,z ∈ S'):KeepT S' H H':=λc o n e=>a c o (n.imp (λm z=>m (h c z)) id) e
theorem KeepT.put {S:List Addr} {H:Hp} {z:Addr} {o o':HO} (hz:z ∈ S) (e:H z=some o) (nt:∀ t,o ≠ .tup t):KeepT S H (upd H z o'):=λb u n h=>by
 have ne:b ≠ z:=λq=>by
  rcases n with n | ⟨t,rfl⟩
  .exact n (q ▸ hz)
  .rw [q,e] at h; injection h with h; exact nt t h
 rw [zd ne]; exact h
theorem StAt.keep {S:List Addr} {H H':Hp} {v:V} {o:Option (Str × Str)} (h:StAt H v o) (k:KeepT S H H'):StAt H' v o:=by
 cases o with
 | none=>exact h
 | some s=>obtain ⟨p,h1,h2⟩:=h; exact ⟨p,h1,k _ _ (.inr ⟨_,rfl⟩) h2⟩
theorem qb1 {S:List Addr} {H H':Hp} {us:List V} {ts:List (List V)} (t:Tups H us ts) (k:KeepT S H H'):Tups H' us ts:=by
 induction t with
 | nil=>exact .nil
 | cons h _ ih=>exact .cons (k _ _ (.inr ⟨_,rfl⟩) h) ih
noncomputable abbrev rlR (A:RA) (r:RR) (v:V):List (Str × V):=rlF (.str r.name) (.str r.who) (.str r.owes) (qd8 r.opens) (qd8 r.base) (.int r.many) (.str r.unit) v (.ref A.pe) (.ref A.pa) (.ref A.pl) (.ref A.py)
structure RuY (C:Addr) (H:Hp) (A:RA) (r:RR) (v:V) (us:List V):Prop where
 hx:H A.p=some (.ins C A.dx (rlR A r v))
 hs:StAt H v r.still
 he:H A.pe=some (.lst (r.ends.map V.str))
 ha:H A.pa=some (.lst (r.anew.map V.str))
 hl:H A.pl=some (.lst us)
 tl:Tups H us (r.longer.map qp5)
 hy:H A.py=some (.lst (r.yields.map V.str))
noncomputable def RuX (C:Addr) (H:Hp) (A:RA) (r:RR):Prop:=∃ v us,RuY C H A r v us
theorem RuX.keep {C:Addr} {S:List Addr} {H H':Hp} {A:RA} {r:RR} (h:RuX C H A r) (k:KeepT S H H') (n:∀ z ∈ own A,z ∉ S):RuX C H' A r:=by
 obtain ⟨v,us,h⟩:=h
 exact ⟨v,us,k _ _ (.inl (n _ (by simp [own]))) h.hx,h.hs.keep k,k _ _ (.inl (n _ (by simp [own]))) h.he,k _ _ (.inl (n _ (by simp [own]))) h.ha,k _ _ (.inl (n _ (by simp [own]))) h.hl,qb1 h.tl k,k _ _ (.inl (n _ (by simp [own]))) h.hy⟩
theorem RuX.same {C:Addr} {H H':Hp} {A:RA} {r:RR} (h:RuX C H A r) (s:Same H H'):RuX C H' A r:=h.keep (S:=[]) (KeepT.of s) (λ_ _=>Ar)
noncomputable def dcR:List RR->List RA->List (Key × V)
 | r :: rs,A :: As=>(.inr r.name,.ref A.p) :: dcR rs As
 | _,_=>[]
structure Sta (C:Addr) (H:Hp) (d:Addr) (rs:List RR) (As:List RA):Prop where
 hd:H d=some (.dK (dcR rs As))
 ln:As.length=rs.length
 nd:(d :: As.flatMap own).Nodup
 nn:(rs.map RR.name).Nodup
 ru:∀ (i:Nat) (r:RR) (A:RA),rs[i]?=some r->As[i]?=some A->RuX C H A r
theorem qcd (r:RR) (rs:List RR) (x:Str):qar (r :: rs) x=if r.name=x then some 0 else (qar rs x).map (· + 1):=rfl
theorem qg2:∀ {rs:List RR} {As:List RA} (x:Str),As.length=rs.length->qdv (dcR rs As) (.inr x)=(qar rs x).bind λj=>(As[j]?).map λA=>.ref A.p
 | [],[],_,_=>rfl
 | r :: rs,A :: As,x,h=>by
  show qdv ((CM r.name,V.ref A.p) :: dcR rs As) (.inr x)=_
  by_cases c:r.name=x
  .rw [qcj (by show (CM r.name:Key)=_; rw [c])]
   rw [qcd,if_pos c]
   rfl
  .rw [qck (λz=>c (CM.inj z)),qg2 x (CF h)]
   rw [qcd,if_neg c]
   cases qar rs x <;> rfl
theorem qj0:∀ {rs:List RR} {As:List RA},As.length=rs.length->(dcR rs As).length=rs.length
 | [],[],_=>rfl
 | r :: rs,A :: As,h=>by
  show (dcR rs As).length + 1=_
  rw [qj0 (CF h)]; rfl
theorem qky:∀ {rs:List RR} {As:List RA} (r:RR) (A:RA),As.length=rs.length->dcR (rs ++ [r]) (As ++ [A])=dcR rs As ++ [(.inr r.name,.ref A.p)]
 | [],[],_,_,_=>rfl
 | r' :: rs,A' :: As,r,A,h=>by
  show (CM r'.name,V.ref A'.p) :: dcR (rs ++ [r]) (As ++ [A])=_
  rw [qky r A (CF h)]; rfl
theorem qre:∀ {rs:List RR} {As:List RA} (j:Nat) (r:RR),(∀ s,rs[j]?=some s->s.name=r.name)->dcR (rs.set j r) As=dcR rs As
 | [],_,_,_,_=>rfl
 | r' :: rs,[],j,r,_=>by cases j <;> rfl
 | r' :: rs,A :: As,0,r,h=>by
  show (CM r.name,V.ref A.p) :: dcR rs As=(CM r'.name,V.ref A.p) :: dcR rs As
  rw [h r' rfl]
 | r' :: rs,A :: As,j + 1,r,h=>by
  show (CM r'.name,V.ref A.p) :: dcR (rs.set j r) As=_
  rw [qre j r (λs e=>h s e)]; rfl
theorem qow:∀ {rs:List RR} {As:List RA},As.length=rs.length->(dcR rs As).map (·.2)=As.map λA=>.ref A.p
 | [],[],_=>rfl
 | r :: rs,A :: As,h=>by
  show V.ref A.p :: (dcR rs As).map (·.2)=_
  rw [qow (CF h)]; rfl
theorem qox:∀ {rs:List RR} {As:List RA},As.length=rs.length->(dcR rs As).map (·.1)=rs.map λr=>.inr r.name
 | [],[],_=>rfl
 | r :: rs,A :: As,h=>by
  show (CM r.name:Key) :: (dcR rs As).map (·.1)=_
  rw [qox (CF h)]; rfl
theorem qb2:∀ {rs:List RR} {x:Str} {j:Nat},qar rs x=some j->∃ r,rs[j]?=some r/\r.name=x
 | [],_,_,h=>by cases h
 | r :: rs,x,j,h=>by
  rw [qcd] at h
  by_cases c:r.name=x
  .rw [if_pos c] at h; cases h; exact ⟨r,rfl,c⟩
  .rw [if_neg c] at h
   cases e:qar rs x with
   | none=>rw [e] at h; cases h
   | some i =>
    rw [e] at h
    cases h
    obtain ⟨r',h1,h2⟩:=qb2 e
    exact ⟨r',h1,h2⟩
theorem qdx:∀ {rs:List RR} {x:Str},qar rs x=none ↔ x ∉ rs.map RR.name
 | [],_=>⟨λ_=>Ar,λ_=>rfl⟩
 | r :: rs,x=>by
  rw [qcd,A6,Ao]
  by_cases c:r.name=x
  .rw [if_pos c]
   exact ⟨(λz=>nomatch z),λz=>absurd (.inl c.symm) z⟩
  .rw [if_neg c]
   have ih:=qdx (rs:=rs) (x:=x)
   constructor
   .rintro h (z | z)
    .exact c z.symm
    .cases e:qar rs x with
     | none=>exact ih.mp e z
     | some i=>rw [e] at h; cases h
   .intro h
    rw [ih.mpr λz=>h (.inr z)]; rfl
theorem qg3:∀ {rs:List RR} {j:Nat} {r:RR},(rs.map RR.name).Nodup->rs[j]?=some r->qar rs r.name=some j
 | [],j,_,_,h=>by cases j <;> cases h
 | r' :: rs,0,r,_,h=>by
  cases h
  rw [qcd,if_pos rfl]
 | r' :: rs,j + 1,r,nd,h=>by
  rw [A6,AW] at nd
  rw [qcd,if_neg (λz=>nd.1 (by rw [z]; exact AI.mpr ⟨r,Aw h,rfl⟩)),qg3 nd.2 h]; rfl
theorem qfp {rs:List RR} {j:Nat} {r:RR} (h:rs[j]?=some r):rs.getD j r0=r:=by rw [AU,h]; rfl
theorem Sta.same {C:Addr} {H H':Hp} {d:Addr} {rs:List RR} {As:List RA} (s:Sta C H d rs As) (z:Same H H'):Sta C H' d rs As:=⟨z _ _ s.hd,s.ln,s.nd,s.nn,λi r A h1 h2=>(s.ru i r A h1 h2).same z⟩
theorem Sta.get {C:Addr} {H:Hp} {d:Addr} {rs:List RR} {As:List RA} (s:Sta C H d rs As) {x:Str} {j:Nat} (h:qar rs x=some j):∃ r A,rs[j]?=some r/\As[j]?=some A/\r.name=x/\RuX C H A r/\DGet H d (.str x) (some (.ref A.p)):=by
 obtain ⟨r,hr,hn⟩:=qb2 h
 have lt:j < As.length:=by rw [s.ln]; exact (Af.mp hr).1
 refine ⟨r,As[j],hr,Aj lt,hn,s.ru j r _ hr (Aj lt),?_⟩
 have g:=DGet.k (k:=.inr x) s.hd
 rw [qg2 x s.ln,h] at g
 rw [show (some j).bind (λj=>(As[j]?).map λA=>V.ref A.p)=(As[j]?).map λA=>V.ref A.p from rfl,Aj lt] at g
 exact g
theorem Sta.non {C:Addr} {H:Hp} {d:Addr} {rs:List RR} {As:List RA} (s:Sta C H d rs As) {x:Str} (h:qar rs x=none):DGet H d (.str x) none:=by
 have g:=DGet.k (k:=.inr x) s.hd
 rw [qg2 x s.ln,h] at g
 exact g
theorem qyh {α:Type} {f:RA->List α}:∀ {As:List RA} {i j:Nat} {A B:RA} {z:α},(As.flatMap f).Nodup->As[i]?=some A->As[j]?=some B->i ≠ j->z ∈ f A->z ∉ f B
 | [],i,_,_,_,_,_,h,_,_,_=>by cases i <;> cases h
 | C :: As,i,j,A,B,z,nd,hi,hj,ne,hz=>by
  rw [Bk,AO] at nd
  intro hz2
  cases i with
  | zero =>
   cases hi
   cases j with
   | zero=>exact ne rfl
   | succ j=>exact nd.2.2 z hz z (BS.mpr ⟨B,Aw hj,hz2⟩) rfl
  | succ i =>
   cases j with
   | zero =>
    cases hj
    exact nd.2.2 z hz2 z (BS.mpr ⟨A,Aw hi,hz⟩) rfl
   | succ j=>exact qyh nd.2.1 hi hj (λe=>ne (by rw [e])) hz hz2
theorem Sta.chg {C:Addr} {H H':Hp} {d:Addr} {rs:List RR} {As:List RA} {j:Nat} {r r':RR} {A:RA} (s:Sta C H d rs As) (hr:rs[j]?=some r) (hA:As[j]?=some A) (k:KeepT (own A) H H') (x:RuX C H' A r') (hn:r'.name=r.name):Sta C H' d (rs.set j r') As:=by
 have nd:=AW.mp s.nd
 have mem:∀ z ∈ own A,z ∈ As.flatMap own:=λz hz=>BS.mpr ⟨A,Aw hA,hz⟩
 refine ⟨?_,by rw [Cb]; exact s.ln,s.nd,?_,λi r2 B h1 h2 => ?_⟩
 .rw [qre j r' (λz e=>by rw [hr] at e; cases e; exact hn.symm)]
  exact k _ _ (.inl λz=>nd.1 (mem _ z)) s.hd
 .have e:(rs.set j r').map RR.name=rs.map RR.name:=by
   rw [List.map_set,hn]
   apply BY
   intro i
   rw [Ck,An]
   by_cases c:j=i
   .subst c
    rw [if_pos rfl,hr,if_pos (by rw [Ab]; exact (Af.mp hr).1)]; rfl
   .rw [if_neg c]
  rw [e]; exact s.nn
 .rw [Ck] at h1
  by_cases c:j=i
  .subst c
   rw [if_pos rfl] at h1
   split at h1
   .cases h1; rw [hA] at h2; cases h2; exact x
   .cases h1
  .rw [if_neg c] at h1
   exact (s.ru i r2 B h1 h2).keep k λz hz hz2=>qyh nd.2 h2 hA (Bc c) hz hz2
noncomputable def erC (a:Adr):Er->Addr
 | .rule _=>a.kH
 | .term _=>a.kG
 | .twice _=>a.kF
 | .unfit _=>a.k9
noncomputable def erF:Er->Str × V
 | .rule i=>("at",.int (i:Int))
 | .term x=>("name",.str x)
 | .twice x=>("name",.str x)
 | .unfit i=>("at",.int (i:Int))
noncomputable def OutE (a:Adr) (e:Er) (H:Hp) (E:XK):Prop:=∀ (x d:Addr) (H':Hp),Same H H'->H' x=some (exO x (erC a e) (some d) false)->H' d=some (exD d [erF e])->E (.ref x) (some d) H'
theorem OutE.same {a:Adr} {e:Er} {H H':Hp} {E:XK} (o:OutE a e H E) (s:Same H H'):OutE a e H' E:=λx d H2 z=>o x d H2 (s.trans z)
noncomputable def Bn (n:Nat) (rs:List RR):Prop:=∀ r ∈ rs,r.ends.length <= n/\r.anew.length <= n/\r.longer.length <= n/\r.yields.length <= n
noncomputable def spRlG (a:Adr):Sp:=λvs H Q _=>∃ (x dx:Addr) (vn vw vo vp vb vm vu vs':V),vs=[.ref x,vn,vw,vo,vp,vb,vm,vu,vs']/\H x=some (.ins a.k7 dx []) /\
 ∀ (H':Hp) (pe pa pl py:Addr),SameBut x H H'->H pe=none->H pa=none->H pl=none->H py=none->H' x=some (.ins a.k7 dx (rlF vn vw vo vp vb vm vu vs' (.ref pe) (.ref pa) (.ref pl) (.ref py)))->H' pe=some (.lst [])->H' pa=some (.lst [])->H' pl=some (.lst [])->H' py=some (.lst [])->[x,pe,pa,pl,py].Nodup->Q .non H'
noncomputable def spAk (a:Adr):Sp:=λvs H Q _=>∃ (A:RA) (r:RR),vs=[.ref A.p]/\RuX a.k7 H A r/\r.ends.length <= 1000/\r.anew.length <= 1000/\r.longer.length <= 1000/\∀ (q:Addr) (H':Hp),H q=none->Same H H'->H' q=some (.lst ((qao r).map V.str))->Q (.ref q) H'
noncomputable def spKi:Sp:=λvs H Q _=>∃ (p:Addr) (row:Rw7),vs=[.ref p]/\H p=some (.lst (qco row))/\isT row=false/\∀ (q:Addr) (H':Hp),H q=none->Same H H'->H' q=some (.lst ((kin row).map V.str))->Q (.ref q) H'
noncomputable def spUf (a:Adr):Sp:=λvs H Q _=>∃ (A:RA) (r:RR) (p:Addr) (row:Rw7),vs=[.ref A.p,.ref p]/\RuX a.k7 H A r/\r.ends.length <= 1000/\r.anew.length <= 1000/\r.longer.length <= 1000/\H p=some (.lst (qco row))/\isT row=false/\∀ H',Same H H'->Q (.bl (qg7 r row)) H'
noncomputable def spMo (a:Adr):Sp:=λvs H Q E=>∃ (A:RA) (r:RR) (i:Nat) (p:Addr) (row:Rw7),vs=[.ref A.p,.int (i:Int),.ref p]/\RuX a.k7 H A r/\(own A).Nodup/\r.ends.length <= 1000/\r.anew.length <= 1000/\r.longer.length <= 1000/\H p=some (.lst (qco row))/\isT row=false /\
 (qg7 r row=false->∀ H',KeepT (own A) H H'->RuX a.k7 H' A (qc6 r row)->Q .non H')/\(qg7 r row=true->OutE a (.unfit i) H E)
noncomputable def Frs (H:Hp) (As As':List RA):Prop:=∀ z ∈ As'.flatMap own,z ∈ As.flatMap own \/ H z=none
noncomputable def spTm (a:Adr):Sp:=λvs H Q E=>∃ (d p:Addr) (i:Nat) (rs:List RR) (As:List RA) (x w o:Str) (dd:Bool) (y:Str) (m:Int) (u:Str),vs=[.ref d,.int (i:Int),.ref p]/\Sta a.k7 H d rs As/\rs.length <= 6/\H p=some (.lst (qco (.term x w o dd y m u))) /\
 (∀ rs',qe4 rs i x w o dd y m u=.ok rs'->∀ H' As',KeepT (d :: As.flatMap own) H H'->Frs H As As'->Sta a.k7 H' d rs' As'->Q .non H')/\∀ e,qe4 rs i x w o dd y m u=.error e->OutE a e H E
noncomputable def spRo (a:Adr):Sp:=λvs H Q E=>∃ (d p:Addr) (i:Nat) (rs:List RR) (As:List RA) (row:Rw7),vs=[.ref d,.int (i:Int),.ref p]/\Sta a.k7 H d rs As/\rs.length <= 6/\Bn 1000 rs/\H p=some (.lst (qco row)) /\
 (∀ rs',qbz rs i row=.ok rs'->∀ H' As',KeepT (d :: As.flatMap own) H H'->Frs H As As'->Sta a.k7 H' d rs' As'->Q .non H')/\∀ e,qbz rs i row=.error e->OutE a e H E
noncomputable def spSy (a:Adr):Sp:=λvs H Q E=>∃ (d:Addr) (i j:Nat) (rs:List RR) (As:List RA) (r:RR) (A:RA) (y:Str),vs=[.ref d,.ref A.p,.int (i:Int),.str y]/\Sta a.k7 H d rs As/\Bn 1000 rs/\rs[j]?=some r/\As[j]?=some A /\
 (∀ rs',qdc rs i j y=.ok rs'->∀ H',KeepT (d :: As.flatMap own) H H'->Sta a.k7 H' d rs' As->Q .non H')/\∀ e,qdc rs i j y=.error e->OutE a e H E
noncomputable def spSn (a:Adr):Sp:=λvs H Q E=>∃ (d p:Addr) (i:Nat) (rs:List RR) (As:List RA) (row:Rw7),vs=[.ref d,.int (i:Int),.ref p]/\Sta a.k7 H d rs As/\Bn 1000 rs/\H p=some (.lst (qco row))/\(qar rs (qa3 row)).isSome=true /\
 (∀ rs',qb6 rs i row=.ok rs'->∀ H',KeepT (d :: As.flatMap own) H H'->Sta a.k7 H' d rs' As->Q .non H')/\∀ e,qb6 rs i row=.error e->OutE a e H E
theorem qxl (r:RR):(qao r).length <= 4 + r.ends.length + r.anew.length + r.longer.length:=by
 unfold qao
 simp only [Ag,Ab,Aq,Cn]
 have h1:r.opens.toList.length <= 1:=by cases r.opens <;> simp
 have h2:(stL r.still).length <= 2:=by cases r.still <;> simp [stL]
 lia
theorem any_map {ks B:List Str}:((ks.map λk=>B.contains k).any λb=>b)=ks.any λk=>B.contains k:=by rw [List.any_map]; rfl
theorem Sta.snoc {C:Addr} {H H':Hp} {d:Addr} {rs:List RR} {As:List RA} {r:RR} {A:RA} (s:Sta C H d rs As) (k:KeepT [d] H H') (hd:H' d=some (.dK (dcR rs As ++ [(.inr r.name,.ref A.p)]))) (x:RuX C H' A r) (nm:qar rs r.name=none) (nd:(own A).Nodup) (nf:∀ z ∈ own A,z ≠ d/\z ∉ As.flatMap own):Sta C H' d (rs ++ [r]) (As ++ [A]):=by
 have n0:=AW.mp s.nd
 refine ⟨by rw [qky r A s.ln]; exact hd,by rw [Ag,Ag,s.ln]; rfl,?_,?_,λi r2 B h1 h2 => ?_⟩
 .rw [Bp,AW,Ax,AO]
  have e:[A].flatMap own=own A:=by simp
  rw [e]
  exact ⟨λz=>z.elim n0.1 λq=>(nf d q).1 rfl,n0.2,nd,λa ha b hb q=>(nf b hb).2 (q ▸ ha)⟩
 .rw [Ay,AO]
  exact ⟨s.nn,by simp,λa ha b hb q=>qdx.mp nm (by rw [<- Ai.mp hb,<- q]; exact ha)⟩
 .by_cases c:i < rs.length
  .rw [AS c] at h1
   rw [AS (by rw [s.ln]; exact c)] at h2
   refine (s.ru i r2 B h1 h2).keep k λz hz hz2=>n0.1 ?_
   rw [<- Ai.mp hz2]
   exact BS.mpr ⟨B,Aw h2,hz⟩
  .rw [AL (by lia)] at h1
   rw [AL (by rw [s.ln]; lia),s.ln] at h2
   have l1:i - rs.length < 1:=(Af.mp h1).1
   rw [show i - rs.length=0 by lia] at h1 h2
   cases h1
   cases h2
   exact x
theorem qkz {rs:List RR} {i:Nat} {x w o:Str} {d:Bool} {y:Str} {m:Int} {u:Str} (h:(qar rs x).isSome=true):qe4 rs i x w o d y m u=.error (.twice x):=if_pos h
theorem qgm {rs:List RR} {i:Nat} {x w o:Str} {d:Bool} {y:Str} {m:Int} {u:Str} (h:qar rs x=none) (c:rs.length=6 \/ (d=false/\o=y)):qe4 rs i x w o d y m u=.error (.unfit i):=by
 unfold qe4; rw [h,if_neg Ez,if_pos c]
theorem qfg {rs:List RR} {i:Nat} {x w o:Str} {d:Bool} {y:Str} {m:Int} {u:Str} (h:qar rs x=none) (c:¬ (rs.length=6 \/ (d=false/\o=y))):qe4 rs i x w o d y m u=.ok (rs ++ [qnl x w o d y m u]):=by
 unfold qe4; rw [h,if_neg Ez,if_neg c]
theorem qk0 {rs:List RR} {i:Nat} {row:Rw7} (h:qar rs (qa3 row)=none):qih rs i row=.error (.term (qa3 row)):=by unfold qih; rw [h]
theorem qii {rs:List RR} {i j:Nat} {row:Rw7} {r:RR} (h:qar rs (qa3 row)=some j) (hr:rs[j]?=some r) (u:qg7 r row=true):qih rs i row=.error (.unfit i):=by
 unfold qih; rw [h]; dsimp only; rw [qfp hr,if_pos u]
theorem qij {rs:List RR} {i j:Nat} {row:Rw7} {r:RR} (h:qar rs (qa3 row)=some j) (hr:rs[j]?=some r) (u:qg7 r row=false):qih rs i row=.ok (rs.set j (qc6 r row)):=by
 unfold qih; rw [h]; dsimp only; rw [qfp hr,u,if_neg Ez]
theorem qfh {rs:List RR} {i:Nat} {row:Rw7} (h:isT row=false):qbz rs i row=qih rs i row:=by
 cases row with
 | term=>cases h
 | _=>rfl
theorem qfq (r:RR) (row:Rw7):(qc6 r row).name=r.name:=by cases row <;> rfl
theorem qnm {As:List RA} {j:Nat} {A:RA} (h:As[j]?=some A):∀ z ∈ own A,z ∈ As.flatMap own:=λz hz=>BS.mpr ⟨A,Aw h,hz⟩
theorem qvd {As:List RA} {j:Nat} {A:RA} (nd:(As.flatMap own).Nodup) (h:As[j]?=some A):(own A).Nodup:=by
 induction As generalizing j with
 | nil=>cases j <;> cases h
 | cons B As ih =>
  rw [Bk,AO] at nd
  cases j with
  | zero=>cases h; exact nd.1
  | succ j=>exact ih nd.2.1 h
theorem qk1 {rs:List RR} {i j:Nat} {y:Str} (h:qar rs y=none):qdc rs i j y=.error (.term y):=by unfold qdc; rw [h]
theorem qfr {rs:List RR} {i j l:Nat} {y:Str} {r s:RR} (h:qar rs y=some l) (hr:rs[j]?=some r) (hs:rs[l]?=some s) (c:y=r.name \/ y ∈ r.yields \/ s.owes ≠ r.owes):qdc rs i j y=.error (.unfit i):=by
 unfold qdc; rw [h]; dsimp only; rw [qfp hr,qfp hs,if_pos c]
theorem qhq {rs:List RR} {i j l:Nat} {y:Str} {r s:RR} (h:qar rs y=some l) (hr:rs[j]?=some r) (hs:rs[l]?=some s) (c:¬ (y=r.name \/ y ∈ r.yields \/ s.owes ≠ r.owes)):qdc rs i j y=.ok (rs.set j { r with yields:=r.yields ++ [y] }):=by
 unfold qdc; rw [h]; dsimp only; rw [qfp hr,qfp hs,if_neg c]
theorem qve {rs:List RR} {i:Nat} {row:Rw7} (h:isT row=false) (h2:∀ x y,row ≠ .yields x y):qb6 rs i row=.ok rs:=by
 cases row with
 | yields x y=>exact absurd rfl (h2 x y)
 | term=>cases h
 | _=>rfl
theorem qk2 {rs:List RR} {i j:Nat} {x y:Str} (h:qar rs x=some j):qb6 rs i (.yields x y)=qdc rs i j y:=by
 show (match qar rs x with | none=>_ | some j=>qdc rs i j y)=_
 rw [h]
theorem qik {rs:List RR} {i j:Nat} {x w o:Str} {d:Bool} {y:Str} {m:Int} {u:Str} {r:RR} (h:qar rs x=some j) (hr:rs[j]?=some r):qb6 rs i (.term x w o d y m u)=match r.base with | none=>.ok rs | some y=>if (qar rs y).isSome=true then .ok rs else .error (.term y):=by
 show (match qar rs x with | none=>_ | some j=>_)=_
 rw [h]
 dsimp only
 rw [qfp hr]
noncomputable def qai:List RR->Nat->List (Option Rw7)->Except Er (List RR)
 | rs,_,[]=>.ok rs
 | rs,i,o :: t=>if i=40 then .error (.rule i) else match o with
  | none=>.error (.rule i)
  | some row=>match qbz rs i row with
   | .error e=>.error e
   | .ok rs'=>qai rs' (i + 1) t
noncomputable def qau:List RR->Nat->List Rw7->Except Er (List RR)
 | rs,_,[]=>.ok rs
 | rs,i,row :: t=>match qb6 rs i row with
  | .error e=>.error e
  | .ok rs'=>qau rs' (i + 1) t
noncomputable def opR (l:Str):Option Rw7:=qdp (BE l (wS " "))
noncomputable def qgn (ls:List Str):List (Option Rw7):=ls.map opR
noncomputable def qda (ls:List Str):Except Er (List RR):=match qai [] 0 (qgn ls) with
 | .error e=>.error e
 | .ok rs=>qau rs 0 ((qgn ls).filterMap id)
theorem qbn (rs:List RR) (i:Nat) (o:Option Rw7) (t:List (Option Rw7)):qai rs i (o :: t)=if i=40 then .error (.rule i) else match o with
  | none=>.error (.rule i)
  | some row=>match qbz rs i row with
   | .error e=>.error e
   | .ok rs'=>qai rs' (i + 1) t:=rfl
theorem qdr (rs:List RR) (i:Nat) (row:Rw7) (t:List Rw7):qau rs i (row :: t)=match qb6 rs i row with
  | .error e=>.error e
  | .ok rs'=>qau rs' (i + 1) t:=rfl
theorem qds:∀ (xs ys:List (Option Rw7)) (rs:List RR) (i:Nat),qai rs i (xs ++ ys)=match qai rs i xs with | .error e=>.error e | .ok rs'=>qai rs' (i + xs.length) ys
 | [],ys,rs,i=>rfl
 | o :: xs,ys,rs,i=>by
  show qai rs i (o :: (xs ++ ys))=_
  rw [qbn,qbn]
  by_cases c:i=40
  .rw [if_pos c,if_pos c]
  .rw [if_neg c,if_neg c]
   cases o with
   | none=>rfl
   | some row =>
    dsimp only
    cases qbz rs i row with
    | error e=>rfl
    | ok rs' =>
     dsimp only
     rw [qds xs ys rs' (i + 1),Aq,show i + 1 + xs.length=i + (xs.length + 1) by lia]
theorem qgo:∀ (xs ys:List Rw7) (rs:List RR) (i:Nat),qau rs i (xs ++ ys)=match qau rs i xs with | .error e=>.error e | .ok rs'=>qau rs' (i + xs.length) ys
 | [],ys,rs,i=>rfl
 | row :: xs,ys,rs,i=>by
  show qau rs i (row :: (xs ++ ys))=_
  rw [qdr,qdr]
  cases qb6 rs i row with
  | error e=>rfl
  | ok rs' =>
   dsimp only
   rw [qgo xs ys rs' (i + 1),Aq,show i + 1 + xs.length=i + (xs.length + 1) by lia]
theorem qji {os:List (Option Rw7)} {i:Nat} {rs:List RR} {o:Option Rw7} (h:qai [] 0 (os.take i)=.ok rs) (hi:os[i]?=some o):qai [] 0 os=qai rs i (o :: os.drop (i + 1))/\qai [] 0 (os.take (i + 1))=qai rs i [o]:=by
 have lt:=(Af.mp hi).1
 have e:os=os.take i ++ (o :: os.drop (i + 1)):=by
  have:=Bl i os
  rw [Cp lt] at this
  rw [Aj lt] at hi
  cases hi
  exact this.symm
 have l:(os.take i).length=i:=by rw [Ap]; lia
 constructor
 .conv=>lhs; rw [e]
  rw [qds,h]
  dsimp only
  rw [l,Db]
 .rw [qbs hi,qds,h]
  dsimp only
  rw [l,Db]
theorem qhr {rw:List Rw7} {i:Nat} {rs0 rs:List RR} {row:Rw7} (h:qau rs0 0 (rw.take i)=.ok rs) (hi:rw[i]?=some row):qau rs0 0 rw=qau rs i (row :: rw.drop (i + 1))/\qau rs0 0 (rw.take (i + 1))=qau rs i [row]:=by
 have lt:=(Af.mp hi).1
 have e:rw=rw.take i ++ (row :: rw.drop (i + 1)):=by
  have:=Bl i rw
  rw [Cp lt] at this
  rw [Aj lt] at hi
  cases hi
  exact this.symm
 have l:(rw.take i).length=i:=by rw [Ap]; lia
 constructor
 .conv=>lhs; rw [e]
  rw [qgo,h]
  dsimp only
  rw [l,Db]
 .rw [qbs hi,qgo,h]
  dsimp only
  rw [l,Db]
theorem qhs {rs rs':List RR} {i:Nat} {row:Rw7} (n:i ≠ 40) (h:qbz rs i row=.ok rs') (t:List (Option Rw7)):qai rs i (some row :: t)=qai rs' (i + 1) t:=by
 rw [qbn,if_neg n]; dsimp only; rw [h]
theorem qk3 {rs:List RR} {i:Nat} {row:Rw7} {e:Er} (n:i ≠ 40) (h:qbz rs i row=.error e) (t:List (Option Rw7)):qai rs i (some row :: t)=.error e:=by
 rw [qbn,if_neg n]; dsimp only; rw [h]
theorem qjj {rs:List RR} {i:Nat} (n:i=40) (o:Option Rw7) (t:List (Option Rw7)):qai rs i (o :: t)=.error (.rule i):=by
 rw [qbn,if_pos n]
theorem qp7 {rs:List RR} {i:Nat} (n:i ≠ 40) (t:List (Option Rw7)):qai rs i (none :: t)=.error (.rule i):=by
 rw [qbn,if_neg n]
theorem qfi {rs rs':List RR} {i:Nat} {row:Rw7} (h:qb6 rs i row=.ok rs') (t:List Rw7):qau rs i (row :: t)=qau rs' (i + 1) t:=by
 rw [qdr,h]
theorem qml {rs:List RR} {i:Nat} {row:Rw7} {e:Er} (h:qb6 rs i row=.error e) (t:List Rw7):qau rs i (row :: t)=.error e:=by
 rw [qdr,h]
theorem qst {rs:List RR} {i:Nat} {x w o:Str} {d:Bool} {y:Str} {m:Int} {u:Str} (h:qar rs x=none):qb6 rs i (.term x w o d y m u)=.ok rs:=by
 show (match qar rs x with | none=>_ | some j=>_)=_
 rw [h]
theorem qsu {rs:List RR} {i:Nat} {x y:Str} (h:qar rs x=none):qb6 rs i (.yields x y)=.ok rs:=by
 show (match qar rs x with | none=>_ | some j=>_)=_
 rw [h]
theorem qch:∀ {rs rs':List RR} (x:Str),rs.map RR.name=rs'.map RR.name->qar rs x=qar rs' x
 | [],[],_,_=>rfl
 | r :: rs,[],_,h=>by cases h
 | [],r :: rs,_,h=>by cases h
 | r :: rs,r' :: rs',x,h=>by
  rw [A6,A6] at h
  injection h with h1 h2
  rw [qcd,qcd,h1,qch x h2]
theorem qil:∀ (rs:List RR) (r:RR) (x:Str),qar (rs ++ [r]) x=match qar rs x with | some j=>some j | none=>if r.name=x then some rs.length else none
 | [],r,x=>by
  show qar [r] x=_
  rw [qcd]
  show (if r.name=x then some 0 else none)=if r.name=x then some 0 else none
  rfl
 | r' :: rs,r,x=>by
  show qar (r' :: (rs ++ [r])) x=_
  rw [qcd,qcd,qil rs r x]
  by_cases c:r'.name=x
  .rw [if_pos c,if_pos c]
  .rw [if_neg c,if_neg c]
   cases qar rs x with
   | some j=>rfl
   | none =>
    dsimp only
    by_cases c2:r.name=x
    .rw [if_pos c2]; show some _=if r.name=x then some _ else none; rw [if_pos c2]; rfl
    .rw [if_neg c2]; show none=if r.name=x then some _ else none; rw [if_neg c2]
theorem qg4 {rs:List RR} {j:Nat} {r r':RR} (hr:rs[j]?=some r) (hn:r'.name=r.name):(rs.set j r').map RR.name=rs.map RR.name:=by
 rw [List.map_set,hn]
 apply BY
 intro i
 rw [Ck,An]
 by_cases c:j=i
 .subst c
  rw [if_pos rfl,hr,if_pos (by rw [Ab]; exact (Af.mp hr).1)]; rfl
 .rw [if_neg c]
inductive RowDid (rs:List RR) (row:Rw7) (rs':List RR):Prop where
 | new (r:RR) (t:isT row=true) (n:r.name=qa3 row) (z:qar rs r.name=none) (e:rs'=rs ++ [r]) (l:rs.length ≠ 6) (m:r.ends=[]/\r.anew=[]/\r.longer=[]/\r.yields=[])
 | old (j:Nat) (r:RR) (t:isT row=false) (p:qar rs (qa3 row)=some j) (h:rs[j]?=some r) (u:qg7 r row=false) (e:rs'=rs.set j (qc6 r row))
theorem qoy {rs rs':List RR} {i:Nat} {row:Rw7} (h:qbz rs i row=.ok rs'):RowDid rs row rs':=by
 cases ht:isT row with
 | true =>
  cases row with
  | term x w o d y m u =>
   have h:qe4 rs i x w o d y m u=.ok rs':=h
   cases pn:qar rs x with
   | some j=>rw [qkz (by rw [pn]; rfl)] at h; cases h
   | none =>
    by_cases c:rs.length=6 \/ (d=false/\o=y)
    .rw [qgm pn c] at h; cases h
    .rw [qfg pn c] at h
     cases h
     exact .new (qnl x w o d y m u) rfl rfl pn rfl (λz=>c (.inl z)) ⟨rfl,rfl,rfl,rfl⟩
  | _=>cases ht
 | false =>
  rw [qfh ht] at h
  cases pn:qar rs (qa3 row) with
  | none=>rw [qk0 pn] at h; cases h
  | some j =>
   obtain ⟨r,hr,_⟩:=qb2 pn
   cases u:qg7 r row with
   | true=>rw [qii pn hr u] at h; cases h
   | false =>
    rw [qij pn hr u] at h
    cases h
    exact .old j r ht pn hr u rfl
theorem RowDid.len {rs rs':List RR} {row:Rw7} (h:RowDid rs row rs') (l:rs.length <= 6):rs'.length <= 6:=by
 cases h with
 | new r _ _ _ e n _=>rw [e,Ag]; show _ + 1 <= 6; lia
 | old j r _ _ _ _ e=>rw [e,Cb]; exact l
theorem RowDid.bn {rs rs':List RR} {row:Rw7} {n:Nat} (h:RowDid rs row rs') (b:Bn n rs):Bn (n + 1) rs':=by
 have up:∀ r ∈ rs,r.ends.length <= n + 1/\r.anew.length <= n + 1/\r.longer.length <= n + 1/\r.yields.length <= n + 1:=λr hr=>by
  obtain ⟨h1,h2,h3,h4⟩:=b r hr
  exact ⟨by lia,by lia,by lia,by lia⟩
 cases h with
 | new r _ _ _ e _ m =>
  obtain ⟨m1,m2,m3,m4⟩:=m
  intro r2 h2
  rw [e] at h2
  rcases Ax.mp h2 with z | z
  .exact up r2 z
  .rw [Ai.mp z,m1,m2,m3,m4]; exact ⟨Bt _,Bt _,Bt _,Bt _⟩
 | old j r t _ hr _ e =>
  intro r2 h2
  rw [e] at h2
  rcases C9 h2 with z | z
  .exact up r2 z
  .rw [z]
   obtain ⟨h1,h2,h3,h4⟩:=b r (Aw hr)
   cases row <;> (simp only [qc6,Ag,Aq,Cn]; lia)
theorem RowDid.has {rs rs':List RR} {row:Rw7} (h:RowDid rs row rs'):(qar rs' (qa3 row)).isSome=true/\∀ x,(qar rs x).isSome=true->(qar rs' x).isSome=true:=by
 cases h with
 | new r t n z e _ _ =>
  rw [e]
  refine ⟨?_,λx hx => ?_⟩
  .rw [qil,<- n,z]; dsimp only; rw [if_pos rfl]; rfl
  .rw [qil]
   cases p:qar rs x with
   | none=>rw [p] at hx; cases hx
   | some j=>rfl
 | old j r t p hr u e =>
  have en:=qg4 hr (qfq r row)
  rw [e]
  exact ⟨by rw [qch _ en,p]; rfl,λx hx=>by rw [qch _ en]; exact hx⟩
noncomputable def qxm (rs:List RR) (rw:List Rw7):Prop:=∀ r ∈ rs,∃ row ∈ rw,isT row=true/\qa3 row=r.name
theorem RowDid.hasT {rs rs':List RR} {row:Rw7} {rw:List Rw7} (h:RowDid rs row rs') (b:qxm rs rw):qxm rs' (rw ++ [row]):=by
 have up:∀ r ∈ rs,∃ row' ∈ rw ++ [row],isT row'=true/\qa3 row'=r.name:=λr hr=>by
  obtain ⟨q,h1,h2⟩:=b r hr
  exact ⟨q,Bi _ h1,h2⟩
 cases h with
 | new r t n z e _ _ =>
  intro r2 h2
  rw [e] at h2
  rcases Ax.mp h2 with q | q
  .exact up r2 q
  .rw [Ai.mp q]; exact ⟨row,by simp,t,n.symm⟩
 | old j r t p hr u e =>
  intro r2 h2
  rw [e] at h2
  rcases C9 h2 with q | q
  .exact up r2 q
  .rw [q,qfq]; exact up r (Aw hr)
structure SetDid (rs rs':List RR):Prop where
 nm:rs'.map RR.name=rs.map RR.name
 ba:rs'.map RR.base=rs.map RR.base
theorem qk4 {rs rs':List RR} {i:Nat} {row:Rw7} (h:qb6 rs i row=.ok rs'):SetDid rs rs'/\∀ n,Bn n rs->Bn (n + 1) rs':=by
 have same:rs'=rs->SetDid rs rs'/\∀ n,Bn n rs->Bn (n + 1) rs':=λe=>by
  subst e
  exact ⟨⟨rfl,rfl⟩,λn b r hr=>by obtain ⟨h1,h2,h3,h4⟩:=b r hr; exact ⟨by lia,by lia,by lia,by lia⟩⟩
 cases row with
 | term x w o d y m u =>
  cases pn:qar rs x with
  | none =>
   rw [qst pn] at h
   cases h; exact same rfl
  | some j =>
   obtain ⟨r,hr,_⟩:=qb2 pn
   rw [qik pn hr] at h
   cases eb:r.base with
   | none=>rw [eb] at h; cases h; exact same rfl
   | some z =>
    rw [eb] at h
    dsimp only at h
    split at h
    .cases h; exact same rfl
    .cases h
 | yields x y =>
  cases pn:qar rs x with
  | none =>
   rw [qsu pn] at h
   cases h; exact same rfl
  | some j =>
   obtain ⟨r,hr,_⟩:=qb2 pn
   rw [qk2 pn] at h
   cases py:qar rs y with
   | none=>rw [qk1 py] at h; cases h
   | some l =>
    obtain ⟨s,hs,_⟩:=qb2 py
    by_cases c:y=r.name \/ y ∈ r.yields \/ s.owes ≠ r.owes
    .rw [qfr py hr hs c] at h; cases h
    .rw [qhq py hr hs c] at h
     cases h
     refine ⟨⟨qg4 hr rfl,?_⟩,λn b r2 h2 => ?_⟩
     .rw [List.map_set]
      apply BY
      intro i
      rw [Ck,An]
      by_cases c:j=i
      .subst c
       rw [if_pos rfl,hr,if_pos (by rw [Ab]; exact (Af.mp hr).1)]; rfl
      .rw [if_neg c]
     .rcases C9 h2 with z | z
      .obtain ⟨h1,h2,h3,h4⟩:=b r2 z; exact ⟨by lia,by lia,by lia,by lia⟩
      .rw [z]
       obtain ⟨h1,h2,h3,h4⟩:=b r (Aw hr)
       simp only [Ag,Aq,Cn]
       lia
 | ends=>cases h; exact same rfl
 | anew=>cases h; exact same rfl
 | longer=>cases h; exact same rfl
 | still=>cases h; exact same rfl
theorem qoz {rs rs':List RR} {i:Nat} {row:Rw7} (h:qb6 rs i row=.ok rs') (t:isT row=true) {j:Nat} {r:RR} (p:qar rs (qa3 row)=some j) (hr:rs[j]?=some r):∀ y,r.base=some y->(qar rs y).isSome=true:=by
 cases row with
 | term x w o d y m u =>
  intro z eb
  rw [qik (x:=x) p hr,eb] at h
  dsimp only at h
  by_cases c:(qar rs z).isSome=true
  .exact c
  .rw [if_neg c] at h; cases h
 | _=>cases t
noncomputable def bsR (rs:List RR):List (Option Nat):=rs.map λr=>r.base.bind (qar rs)
noncomputable def qja (rs:List RR):Prop:=∀ r ∈ rs,∀ y,r.base=some y->(qar rs y).isSome=true
theorem qxn {rs0 rs:List RR} {rw:List Rw7} (h:qau rs0 0 rw=.ok rs) (nn:(rs0.map RR.name).Nodup) (t:qxm rs0 rw):qja rs:=by
 have w:∀ i,i <= rw.length->∃ ri,qau rs0 0 (rw.take i)=.ok ri/\SetDid rs0 ri/\∀ row ∈ rw.take i,isT row=true->∀ (j:Nat) (r:RR),rs0[j]?=some r->r.name=qa3 row->∀ y,r.base=some y->(qar rs0 y).isSome=true:=by
  intro i
  induction i with
  | zero=>exact λ_=>⟨rs0,rfl,⟨rfl,rfl⟩,λrow hr=>by rw [DD] at hr; cases hr⟩
  | succ i ih =>
   intro hi
   obtain ⟨ri,h1,h2,h3⟩:=ih (by lia)
   obtain ⟨row,hrow⟩:∃ row,rw[i]?=some row:=⟨_,Aj (by lia)⟩
   obtain ⟨e1,e2⟩:=qhr h1 hrow
   cases es:qb6 ri i row with
   | error e=>rw [e1,qml es] at h; cases h
   | ok r' =>
    rw [qfi es] at e2
    obtain ⟨d1,_⟩:=qk4 es
    refine ⟨r',e2,⟨d1.nm.trans h2.nm,d1.ba.trans h2.ba⟩,λrow' hr' ht j r hj hn y hy => ?_⟩
    rw [qbs hrow] at hr'
    rcases Ax.mp hr' with z | z
    .exact h3 row' z ht j r hj hn y hy
    .rw [Ai.mp z] at ht hn
     have pj:qar ri (qa3 row)=some j:=by rw [qch _ h2.nm,<- hn]; exact qg3 nn hj
     obtain ⟨r2,hr2,_⟩:=qb2 pj
     have eb:r2.base=r.base:=by
      have q1:(ri.map RR.base)[j]?=some r2.base:=by rw [An,hr2]; rfl
      rw [h2.ba,An,hj] at q1
      exact (AF q1).symm
     have:=qoz es ht pj hr2 y (by rw [eb]; exact hy)
     rw [qch _ h2.nm] at this
     exact this
 obtain ⟨ri,h1,h2,h3⟩:=w _ (A1 _)
 rw [B0] at h1 h3
 rw [h1] at h
 cases h
 intro r hr y hy
 obtain ⟨j,hj⟩:=Bj hr
 have lj:j < rs0.length:=by
  have:=congrArg Dg h2.nm
  rw [Ab,Ab] at this
  rw [<- this]; exact (Af.mp hj).1
 have hj0:rs0[j]?=some rs0[j]:=Aj lj
 have en:rs0[j].name=r.name:=by
  have q1:(rs.map RR.name)[j]?=some r.name:=by rw [An,hj]; rfl
  rw [h2.nm,An,hj0] at q1
  exact AF q1
 have eb:rs0[j].base=r.base:=by
  have q1:(rs.map RR.base)[j]?=some r.base:=by rw [An,hj]; rfl
  rw [h2.ba,An,hj0] at q1
  exact AF q1
 obtain ⟨row,hrow,ht,hn⟩:=t _ (Aw hj0)
 rw [qch _ h2.nm]
 exact h3 row hrow ht j _ hj0 hn.symm y (by rw [eb]; exact hy)
theorem wr_of {rs:List RR} (nn:(rs.map RR.name).Nodup) (l:rs.length <= 6):Wr (rs.map RR.name) (bsR rs):=⟨nn,by unfold bsR; rw [Ab,Ab],by rw [Ab]; exact l,λk b e=>by
 unfold bo bsR at e
 rw [AU,An] at e
 cases er:rs[k]? with
 | none=>rw [er] at e; cases e
 | some r =>
  rw [er] at e
  cases eb:r.base with
  | none=>rw [show (Option.map (λr:RR=>r.base.bind (qar rs)) (some r)).getD none=r.base.bind (qar rs) from rfl,eb] at e; cases e
  | some y =>
   rw [show (Option.map (λr:RR=>r.base.bind (qar rs)) (some r)).getD none=r.base.bind (qar rs) from rfl,eb] at e
   have e:qar rs y=some b:=e
   obtain ⟨r2,h2,_⟩:=qb2 e
   rw [Ab]
   exact (Af.mp h2).1⟩
theorem qvf {rs:List RR} (ok:qja rs) {k:Nat} {r:RR} (h:rs[k]?=some r):qie (rs.map RR.name) (bo (bsR rs) k)=qd8 r.base:=by
 unfold bo bsR
 rw [AU,An,h]
 show qie _ (r.base.bind (qar rs))=_
 cases eb:r.base with
 | none=>rfl
 | some y =>
  have:=ok r (Aw h) y eb
  show qie _ (qar rs y)=.str y
  cases ep:qar rs y with
  | none=>rw [ep] at this; cases this
  | some j =>
   obtain ⟨r2,h2,h3⟩:=qb2 ep
   show V.str (nm (rs.map RR.name) j)=_
   unfold nm
   rw [AU,An,h2]
   show V.str r2.name=_
   rw [h3]
theorem nm_R {rs:List RR} {k:Nat} {r:RR} (h:rs[k]?=some r):nm (rs.map RR.name) k=r.name:=by
 unfold nm
 rw [AU,An,h]; rfl
structure Lng (ls:List Str):Prop where
 n:ls.length <= 100
 c:∀ l ∈ ls,l.cps.size <= 200/\10 ∉ l.cps.toList
 e:ls ≠ [wS ""]
theorem qyi {c:Nat}:∀ {ps:List (List Nat)},(∀ p ∈ ps,p.length <= 200)->(jl c ps).length <= 201 * ps.length
 | [],_=>A1 _
 | [x],h=>by
  have:=h x Ak
  show x.length <= 201 * 1
  lia
 | x :: y :: r,h=>by
  have h1:=h x Ak
  have h2:=qyi (c:=c) (ps:=y :: r) λp hp=>h p (At _ hp)
  show (x ++ c :: jl c (y :: r)).length <= 201 * (r.length + 1 + 1)
  rw [Ag,Aq]
  rw [Aq] at h2
  lia
theorem qvg {ls:List Str} (h:Lng ls):(qev ls).cps.size <= 20100:=by
 rw [<- AH,show (qev ls).cps.toList=jl 10 (ls.map λp=>p.cps.toList) from qc4 10 _]
 have:=qyi (c:=10) (ps:=ls.map λp=>p.cps.toList) λp hp=>by
  obtain ⟨l,hl,rfl⟩:=AI.mp hp
  rw [AH]; exact (h.c l hl).1
 rw [Ab] at this
 have:=h.n
 lia
theorem qxo {ls:List Str} (h:Lng ls) (ne:ls ≠ []):(qev ls).cps.size ≠ 0:=by
 rw [<- AH,show (qev ls).cps.toList=jl 10 (ls.map λp=>p.cps.toList) from qc4 10 _]
 cases ls with
 | nil=>exact absurd rfl ne
 | cons x r =>
  cases r with
  | nil =>
   intro z
   have z:x.cps.toList.length=0:=z
   exact h.e (by rw [str_ext (x:=x) (y:=wS "") (by rw [List.eq_nil_of_length_eq_zero z]; decide +kernel)])
  | cons y r =>
   show (x.cps.toList ++ 10 :: jl 10 _).length ≠ 0
   rw [Ag,Aq]; lia
noncomputable def spLnG:Sp:=λvs H Q _=>∃ ls:List Str,vs=[.str (qev ls)]/\Lng ls/\∀ (q:Addr) (H':Hp),H q=none->Same H H'->H' q=some (.lst (ls.map V.str))->Q (.ref q) H'
noncomputable def BkX (a:Adr) (H:Hp) (x:Addr) (rs:List RR) (As:List RA) (os:List Nat):Prop:=∃ dx po d:Addr,H x=some (.ins a.kL dx (bfs po d))/\H po=some (.lst ((os.map (nm (rs.map RR.name))).map V.str))/\H d=some (.dK (dcR rs As))
structure BkAt (a:Adr) (H:Hp) (x:Addr) (rs:List RR) (As:List RA) (os:List Nat):Prop where
 bk:BkX a H x rs As os
 ln:As.length=rs.length
 nn:(rs.map RR.name).Nodup
 l6:rs.length <= 6
 ru:∀ (i:Nat) (r:RR) (A:RA),rs[i]?=some r->As[i]?=some A->RuX a.k7 H A r
 os:Ors (bsR rs) rs.length os
 ba:qja rs
noncomputable def spBIG (a:Adr):Sp:=λvs H Q E=>∃ (x dx pr:Addr) (rs:List RR) (As:List RA),vs=[.ref x,.ref pr]/\H x=some (.ins a.kL dx [])/\H pr=some (.lst (As.map λA=>.ref A.p))/\As.length=rs.length/\(rs.map RR.name).Nodup/\rs.length <= 6/\qja rs/\(∀ (i:Nat) (r:RR) (A:RA),rs[i]?=some r->As[i]?=some A->RuX a.k7 H A r) /\
 (∀ H' os,SameBut x H H'->BkX a H' x rs As os->Ors (bsR rs) rs.length os->Q .non H')/\OutR a (rs.map RR.name) (bsR rs) H E
noncomputable def spTn (a:Adr):Sp:=λvs H Q _=>∃ (x:Addr) (rs:List RR) (As:List RA) (os:List Nat),vs=[.ref x]/\BkX a H x rs As os/\As.length=rs.length/\rs.length <= 6/\∀ (q:Addr) (H':Hp),H q=none->Same H H'->H' q=some (.lst ((rs.map RR.name).map V.str))->Q (.ref q) H'
noncomputable def spBkG (a:Adr):Sp:=λvs H Q E=>∃ ls:List Str,vs=[.str (qev ls)]/\Lng ls/\(∀ rs,qda ls=.ok rs->(∀ (x:Addr) (H':Hp) (As:List RA) (os:List Nat),Same H H'->BkAt a H' x rs As os->Q (.ref x) H')/\OutR a (rs.map RR.name) (bsR rs) H E)/\∀ e,qda ls=.error e->OutE a e H E
theorem Ru_of {a:Adr} {H:Hp} {A:RA} {r:RR} (h:RuX a.k7 H A r):Ru a.k7 H (.ref A.p) r.name (qd8 r.base):=by
 obtain ⟨v,us,h⟩:=h
 exact ⟨A.p,A.dx,_,rfl,h.hx,rfl,rfl⟩
theorem rus_of {a:Adr} {H:Hp} {rs:List RR} {As:List RA} (ln:As.length=rs.length) (ok:qja rs) (ru:∀ (i:Nat) (r:RR) (A:RA),rs[i]?=some r->As[i]?=some A->RuX a.k7 H A r):Rus a.k7 H (As.map λA=>.ref A.p) (rs.map RR.name) (bsR rs):=by
 refine ⟨by rw [Ab,Ab,ln],λj y e => ?_⟩
 rw [An] at e
 cases eA:As[j]? with
 | none=>rw [eA] at e; cases e
 | some A =>
  rw [eA] at e
  cases e
  have lj:j < rs.length:=by rw [<- ln]; exact (Af.mp eA).1
  have hr:rs[j]?=some rs[j]:=Aj lj
  rw [nm_R hr,qvf ok hr]
  exact Ru_of (ru j _ A hr eA)
theorem Sta.inn {C:Addr} {H:Hp} {d:Addr} {rs:List RR} {As:List RA} (st:Sta C H d rs As):∀ z ∈ d :: As.flatMap own,H z ≠ none:=λz hz e=>by
 rcases Ao.mp hz with rfl | hz
 .rw [st.hd] at e; cases e
 .obtain ⟨A',hA',hz'⟩:=BS.mp hz
  obtain ⟨jA,hjA⟩:=Bj hA'
  have lj:jA < rs.length:=by rw [<- st.ln]; exact (Af.mp hjA).1
  obtain ⟨v',us',ry⟩:=st.ru jA _ A' (Aj lj) hjA
  simp only [own,Ao,Ar,or_false] at hz'
  rcases hz' with rfl | rfl | rfl | rfl | rfl
  .rw [ry.hx] at e; cases e
  .rw [ry.he] at e; cases e
  .rw [ry.ha] at e; cases e
  .rw [ry.hl] at e; cases e
  .rw [ry.hy] at e; cases e
theorem Sta.keep {C:Addr} {H H':Hp} {d:Addr} {rs:List RR} {As:List RA} {S:List Addr} (st:Sta C H d rs As) (k:KeepT S H H') (n:∀ z ∈ d :: As.flatMap own,z ∉ S):Sta C H' d rs As :=
 ⟨k _ _ (.inl (n d Ak)) st.hd,st.ln,st.nd,st.nn,λi r A h1 h2=>(st.ru i r A h1 h2).keep k λz hz=>n z (At _ (qnm h2 z hz))⟩
structure RB (a:Adr) (H0 H:Hp) (d q ql:Addr) (ls:List Str) (i:Nat) (rs:List RR) (As:List RA) (rv:List V) (rows:List Rw7):Prop where
 sm:Same H0 H
 hl:H ql=some (.lst (ls.map V.str))
 st:Sta a.k7 H d rs As
 hq:H q=some (.lst rv)
 rl:rv.length=rows.length
 rr:∀ (j:Nat) (y:V),rv[j]?=some y->∃ p row,y=.ref p/\rows[j]?=some row/\H p=some (.lst (qco row))/\p ∉ d :: As.flatMap own/\p ≠ q
 ro:(qgn ls).take i=rows.map some
 rd:qai [] 0 ((qgn ls).take i)=.ok rs
 bn:Bn i rs
 l6:rs.length <= 6
 ht:qxm rs rows
 nm:∀ row ∈ rows,(qar rs (qa3 row)).isSome=true
 qo:q ∉ d :: As.flatMap own
 lo:ql ∉ d :: As.flatMap own
 nq:ql ≠ q
 fr:∀ z ∈ q :: d :: As.flatMap own,H0 z=none
theorem RB.same {a:Adr} {H0 H H':Hp} {d q ql:Addr} {ls:List Str} {i:Nat} {rs:List RR} {As:List RA} {rv:List V} {rows:List Rw7} (b:RB a H0 H d q ql ls i rs As rv rows) (s:Same H H'):RB a H0 H' d q ql ls i rs As rv rows :=
 ⟨b.sm.trans s,s _ _ b.hl,b.st.same s,s _ _ b.hq,b.rl,λj y e=>by obtain ⟨p,row,h1,h2,h3,h4⟩:=b.rr j y e; exact ⟨p,row,h1,h2,s _ _ h3,h4⟩,b.ro,b.rd,b.bn,b.l6,b.ht,b.nm,b.qo,b.lo,b.nq,b.fr⟩
theorem RB.next {a:Adr} {H0 J1 H2:Hp} {d q ql qr:Addr} {ls:List Str} {i:Nat} {rs rs':List RR} {As As':List RA} {rv:List V} {rows:List Rw7} {row:Rw7} (b:RB a H0 J1 d q ql ls i rs As rv rows) (hqr:J1 qr=some (.lst (qco row))) (nqr:qr ∉ d :: As.flatMap own) (nqq:qr ≠ q) (hop:(qgn ls)[i]?=some (some row)) (n40:i ≠ 40) (rd':qbz rs i row=.ok rs')
  (k:KeepT (d :: As.flatMap own) J1 H2) (f:Frs J1 As As') (st':Sta a.k7 H2 d rs' As'):RB a H0 (upd H2 q (.lst (rv ++ [.ref qr]))) d q ql ls (i + 1) rs' As' (rv ++ [.ref qr]) (rows ++ [row]):=by
 have did:=qoy rd'
 have ap:∀ z,z ∉ d :: As.flatMap own->J1 z ≠ none->z ∉ d :: As'.flatMap own:=λz hz hn h=>by
  rcases Ao.mp h with e | h
  .exact hz (by rw [e]; exact Ak)
  .rcases f z h with g | g
   .exact hz (At _ g)
   .exact hn g
 have nq:J1 q ≠ none:=λz=>by rw [b.hq] at z; cases z
 have q2:H2 q=some (.lst rv):=k _ _ (.inl b.qo) b.hq
 have qo:=ap q b.qo nq
 have kq:KeepT [q] H2 (upd H2 q (.lst (rv ++ [.ref qr]))):=KeepT.put (Ai.mpr rfl) q2 (λ_ z=>nomatch z)
 have kl:∀ {p:Addr} {xs:List V},J1 p=some (.lst xs)->p ∉ d :: As.flatMap own->p ≠ q->upd H2 q (.lst (rv ++ [.ref qr])) p=some (.lst xs):=λh1 h2 h3=>by
  rw [zd h3]; exact k _ _ (.inl h2) h1
 refine ⟨λx o e => ?_,kl b.hl b.lo b.nq,st'.keep kq λz hz hz2=>qo (by rw [<- Ai.mp hz2]; exact hz),qu,by rw [Ag,Ag,b.rl]; rfl,λj y e => ?_,by rw [qbs hop,b.ro,Ay]; rfl,?_,did.bn b.bn,did.len b.l6,did.hasT b.ht,λr hr => ?_,qo,ap ql b.lo (λz=>by rw [b.hl] at z; cases z),b.nq,λz hz => ?_⟩
 .have nz:∀ z ∈ q :: d :: As.flatMap own,x ≠ z:=λz hz q=>by rw [q,b.fr z hz] at e; cases e
  rw [zd (nz q Ak)]
  exact k _ _ (.inl λz=>nz x (At _ z) rfl) (b.sm _ _ e)
 .by_cases c:j < rv.length
  .rw [AS c] at e
   obtain ⟨p,row',h1,h2,h3,h4,h5⟩:=b.rr j y e
   exact ⟨p,row',h1,by rw [AS (by rw [<- b.rl]; exact c)]; exact h2,kl h3 h4 h5,ap p h4 (λz=>by rw [h3] at z; cases z),h5⟩
  .rw [AL (by lia)] at e
   have l1:j - rv.length < 1:=(Af.mp e).1
   have l2:=b.rl
   rw [show j - rv.length=0 by lia] at e
   cases e
   exact ⟨qr,row,rfl,by rw [AL (by lia),show j - rows.length=0 by lia]; rfl,kl hqr nqr nqq,ap qr nqr (λz=>by rw [hqr] at z; cases z),nqq⟩
 .rw [(qji b.rd hop).2,qhs n40 rd' []]; rfl
 .rcases Ax.mp hr with z | z
  .exact did.has.2 _ (b.nm r z)
  .rw [Ai.mp z]; exact did.has.1
 .rcases Ao.mp hz with e | hz
  .rw [e]; exact b.fr q Ak
  .rcases Ao.mp hz with e | hz
   .rw [e]; exact b.fr d (At _ Ak)
   .rcases f z hz with g | g
    .exact b.fr z (At _ (At _ g))
    .exact b.sm.free g
structure SB (a:Adr) (H0 H:Hp) (d q:Addr) (i:Nat) (rs0 rs:List RR) (As:List RA) (rv:List V) (rows:List Rw7):Prop where
 sm:Same H0 H
 st:Sta a.k7 H d rs As
 hq:H q=some (.lst rv)
 rl:rv.length=rows.length
 rr:∀ (j:Nat) (y:V),rv[j]?=some y->∃ p row,y=.ref p/\rows[j]?=some row/\H p=some (.lst (qco row))/\p ∉ d :: As.flatMap own/\p ≠ q
 sd:SetDid rs0 rs
 se:qau rs0 0 (rows.take i)=.ok rs
 bn:Bn (100 + i) rs
 nm:∀ row ∈ rows,(qar rs (qa3 row)).isSome=true
 qo:q ∉ d :: As.flatMap own
 fr:∀ z ∈ q :: d :: As.flatMap own,H0 z=none
theorem SB.same {a:Adr} {H0 H H':Hp} {d q:Addr} {i:Nat} {rs0 rs:List RR} {As:List RA} {rv:List V} {rows:List Rw7} (b:SB a H0 H d q i rs0 rs As rv rows) (s:Same H H'):SB a H0 H' d q i rs0 rs As rv rows :=
 ⟨b.sm.trans s,b.st.same s,s _ _ b.hq,b.rl,λj y e=>by obtain ⟨p,row,h1,h2,h3,h4⟩:=b.rr j y e; exact ⟨p,row,h1,h2,s _ _ h3,h4⟩,b.sd,b.se,b.bn,b.nm,b.qo,b.fr⟩
theorem SB.next {a:Adr} {H0 H H2:Hp} {d q:Addr} {i:Nat} {rs0 rs rs':List RR} {As:List RA} {rv:List V} {rows:List Rw7} {row:Rw7} (b:SB a H0 H d q i rs0 rs As rv rows) (hi:rows[i]?=some row) (h:qb6 rs i row=.ok rs') (k:KeepT (d :: As.flatMap own) H H2) (st':Sta a.k7 H2 d rs' As):SB a H0 H2 d q (i + 1) rs0 rs' As rv rows:=by
 obtain ⟨did,bn⟩:=qk4 h
 refine ⟨λx o e=>k _ _ (.inl λz => ?_) (b.sm _ _ e),st',k _ _ (.inl b.qo) b.hq,b.rl,λj y e => ?_,⟨did.nm.trans b.sd.nm,did.ba.trans b.sd.ba⟩,?_,bn _ b.bn,λr hr=>by rw [qch _ did.nm]; exact b.nm r hr,b.qo,b.fr⟩
 .rw [b.fr x (At _ z)] at e; cases e
 .obtain ⟨p,row',h1,h2,h3,h4,h5⟩:=b.rr j y e
  exact ⟨p,row',h1,h2,k _ _ (.inl h4) h3,h4,h5⟩
 .rw [(qhr b.se hi).2,qfi h []]; rfl
theorem qrf {α:Type} (l:List α):(l.map some).filterMap id=l:=by
 induction l with
 | nil=>rfl
 | cons x l ih=>rw [A6,Dp]; dsimp only [id]; rw [ih]
noncomputable def owA (ns:List Int) (k:Nat):Nat:=(cell ns (3 + 5 * (k:Int)) % 3).toNat
noncomputable def rkA (ns:List Int) (k:Nat):Int:=((k:Int) * (1 + cell ns 0 / 21 % 6) + cell ns 0 / 21 / 6) % 7
theorem sgn_ed {c:Int} {e i:Nat} (ee:c % 2=(e:Int)):(c / 128 + (i:Int) / (1 + c % 2)) % 26=(((sgn (c / 128) e i - 97:Nat)):Int):=by
 rw [ee]
 unfold sgn
 have:(i:Int) / (1 + (e:Int))=((i / (1 + e):Nat):Int):=by
  rw [Int.natCast_ediv]
  rfl
 rw [this]
 clear this ee
 lia
theorem sgn_26 {t:Int} {e i:Nat}:sgn t e i - 97 < 26:=by unfold sgn; lia
theorem sgn_97 {t:Int} {e i:Nat}:97 + (sgn t e i - 97)=sgn t e i:=by unfold sgn; lia
theorem md (c:Int) (m:Nat) (h:0 < m):∃ j:Nat,c % (m:Int)=(j:Int)/\j < m:=by
 have z0:=Int.emod_nonneg c (show (m:Int) ≠ 0 by lia)
 have z1:=Int.emod_lt_of_pos c (show (0:Int) < (m:Int) by lia)
 exact ⟨(c % (m:Int)).toNat,by lia,by lia⟩
theorem mdl (c:Int) (m:Nat):∃ j:Nat,c % ((m + 1:Nat):Int)=(j:Int)/\j <= m:=by
 obtain ⟨j,e,h⟩:=md c (m + 1) (DC _)
 exact ⟨j,e,Nat.le_of_lt_succ h⟩
theorem num46 (c:Int):∃ z n e:Nat,1 + c % 2 + c / 2 % (8 - c % 2)=(z:Int)/\c / 16 % ((z:Int) - c % 2)=(n:Int)/\c % 2=(e:Int)/\e <= 1/\n + 1 + e <= z/\z <= 8/\0 < 8 - c % 2/\0 < (z:Int) - c % 2:=by
 have sB:=sizeB c
 obtain ⟨e,ee,he⟩:=mdl c 1
 have ee:c % 2=(e:Int):=ee
 obtain ⟨z,ez⟩:=Int.eq_ofNat_of_zero_le (a:=1 + c % 2 + c / 2 % (8 - c % 2)) (by lia)
 rw [ez] at sB |-
 obtain ⟨n,en,hn⟩:=md (c / 16) (z - e) (by lia)
 rw [show ((z - e:Nat):Int)=(z:Int) - c % 2 by lia] at en
 exact ⟨z,n,e,rfl,en,ee,he,by lia,by lia,by lia,by lia⟩
theorem cd2 {c i:Int} {e:Nat} (ee:c % 2=(e:Int)) (he:e <= 1):qwc i (1 + c % 2):=⟨by lia,by lia⟩
theorem eo1 {c:Int} {e:Nat} (ee:c % 2=(e:Int)) (h:c % 2=1):e=1:=by lia
theorem io1 {i:Nat} (h:(i:Int) % 2=1):i % 2=1:=by lia
theorem ne1 {c:Int} {e:Nat} (ee:c % 2=(e:Int)) (h:¬ c % 2=1):¬ e=1:=by lia
theorem ni1 {i:Nat} (h:¬ (i:Int) % 2=1):¬ i % 2=1:=by lia
theorem cdA {c:Int} {i g:Nat} (h:i < g) (k:g <= 2):qwc c (40 + 811 * (i:Int)):=⟨by lia,by lia⟩
theorem cdB {c:Int} {i g:Nat} (h:i < g) (k:g <= 2):qwc c (797 + 13 * (i:Int)):=⟨by lia,by lia⟩
theorem om (x:Int) {m:Int} (h:0 < m):1 <= 1 + x % m/\1 + x % m <= m:=by
 have z0:=Int.emod_nonneg x (show m ≠ 0 by lia)
 have z1:=Int.emod_lt_of_pos x h
 lia
theorem qrg {ns:List Int} {k:Nat}:cell ns (3 + 5 * (k:Int)) % 3=((owA ns k:Nat):Int):=by unfold owA; lia
theorem owA_l {ns:List Int} {k:Nat}:owA ns k < 3:=by unfold owA; lia
structure YlOk (names:List Str) (ow:Nat->Nat) (k:Nat) (ys:List Str):Prop where
 nd:ys.Nodup
 ok:∀ y ∈ ys,∃ b,b < names.length/\y=nm names b/\b ≠ k/\ow b=ow k
noncomputable def spYl (K:Ae):Sp:=λvs H Q _=>∃ (l pn:Addr) (ns:List Int) (k:Nat) (names:List Str),vs=[.ref l,.int (k:Int),.ref pn]/\SqL K H l (ns.map V.int)/\H pn=some (.lst (names.map V.str))/\names.Nodup/\k < names.length/\names.length <= 6/\∀ (q:Addr) (H':Hp) (ys:List Str),H q=none->Same H H'->H' q=some (.lst (ys.map V.str))->YlOk names (owA ns) k ys->Q (.ref q) H'
noncomputable def spBaL (K:Ae):Sp:=λvs H Q _=>∃ (l pn:Addr) (ns:List Int) (k:Nat) (names:List Str),vs=[.ref l,.int (k:Int),.ref pn]/\SqL K H l (ns.map V.int)/\H pn=some (.lst (names.map V.str))/\k < names.length/\names.length <= 6/\∀ (H':Hp) (o:Option Nat),Same H H'->(∀ b,o=some b->b < names.length/\rkA ns b < rkA ns k)->Q (qie names o) H'
theorem pos12 (j:Nat) (h:j < 6):∃ m:Int,atI [V.int 1,V.int 2,V.int 4,V.int 8,V.int 16,V.int 32] (j:Int)=some (.int m)/\1 <= m/\m <= 32:=by
 rcases (by lia:j=0 \/ j=1 \/ j=2 \/ j=3 \/ j=4 \/ j=5) with rfl | rfl | rfl | rfl | rfl | rfl
 .exact ⟨1,rfl,Ez,Ez⟩
 .exact ⟨2,rfl,Ez,Ez⟩
 .exact ⟨4,rfl,Ez,Ez⟩
 .exact ⟨8,rfl,Ez,Ez⟩
 .exact ⟨16,rfl,Ez,Ez⟩
 .exact ⟨32,rfl,Ez,Ez⟩
theorem qvh {names:List Str} {ow:Nat->Nat} {k:Nat} {ys:List Str} (h:YlOk names ow k ys):YlOk names ow k ys.reverse:=⟨List.pairwise_reverse.mpr (h.nd.imp Bc),λy hy=>h.ok y (DQ.mp hy)⟩
noncomputable def qfs (r:RR) (pe pa pl:Addr) (sv:V) (py:Addr):List V:=[.str r.name,.str r.who,.str r.owes,qd8 r.opens,qd8 r.base,.int r.many,.str r.unit,.ref pe,.ref pa,.ref pl,sv,.ref py]
structure LR1 (H:Hp) (q:Addr) (r:RR) (pe pa pl py:Addr) (sv:V) (us:List V):Prop where
 hq:H q=some (.lst (qfs r pe pa pl sv py))
 he:H pe=some (.lst (r.ends.map V.str))
 ha:H pa=some (.lst (r.anew.map V.str))
 hl:H pl=some (.lst us)
 tl:Tups H us (r.longer.map qp5)
 hs:StAt H sv r.still
 hy:H py=some (.lst (r.yields.map V.str))
noncomputable def LR (H:Hp) (q:Addr) (r:RR):Prop:=∃ pe pa pl py sv us,LR1 H q r pe pa pl py sv us
theorem LR1.ne {H:Hp} {q:Addr} {r:RR} {pe pa pl py:Addr} {sv:V} {us:List V} (h:LR1 H q r pe pa pl py sv us) {q':Addr} {r':RR} {pe' pa' pl' py':Addr} {sv':V} (h':H q'=some (.lst (qfs r' pe' pa' pl' sv' py'))):pe ≠ q'/\pa ≠ q'/\pl ≠ q'/\py ≠ q':=by
 have st:∀ {p:Addr} {xs:List Str},H p=some (.lst (xs.map V.str))->p ≠ q':=λ{p xs} hp e=>by
  rw [e,h'] at hp
  injection hp with hp
  injection hp with hp
  have:=congrArg (λl=>l[5]?) hp
  rw [show (qfs r' pe' pa' pl' sv' py')[5]?=some (.int r'.many) from rfl,An] at this
  cases e5:xs[5]? with
  | none=>rw [e5] at this; cases this
  | some y=>rw [e5] at this; cases this
 refine ⟨st h.he,st h.ha,λe => ?_,st h.hy⟩
 have hl:=h.hl
 rw [e,h'] at hl
 injection hl with hl
 injection hl with hl
 have tl:=h.tl
 rw [<- hl] at tl
 obtain ⟨b,t,e0,_,_⟩:=tl.get' (i:=0) rfl
 cases e0
theorem LR1.upd {H:Hp} {q:Addr} {r:RR} {pe pa pl py:Addr} {sv:V} {us:List V} (h:LR1 H q r pe pa pl py sv us) {q':Addr} {r':RR} {pe' pa' pl' py':Addr} {sv':V} {o:HO} (h':H q'=some (.lst (qfs r' pe' pa' pl' sv' py'))) (n:q ≠ q'):LR1 (L2.upd H q' o) q r pe pa pl py sv us:=by
 obtain ⟨n1,n2,n3,n4⟩:=h.ne h'
 have kt:KeepT [q'] H (L2.upd H q' o):=KeepT.put (Ai.mpr rfl) h' (λ_ z=>nomatch z)
 exact ⟨(zd n).trans h.hq,(zd n1).trans h.he,(zd n2).trans h.ha,(zd n3).trans h.hl,qb1 h.tl kt,h.hs.keep kt,(zd n4).trans h.hy⟩
theorem LR1.same {H H':Hp} {q:Addr} {r:RR} {pe pa pl py:Addr} {sv:V} {us:List V} (h:LR1 H q r pe pa pl py sv us) (s:Same H H'):LR1 H' q r pe pa pl py sv us:=⟨s _ _ h.hq,s _ _ h.he,s _ _ h.ha,s _ _ h.hl,h.tl.same s,h.hs.same s,s _ _ h.hy⟩
theorem LR.same {H H':Hp} {q:Addr} {r:RR} (h:LR H q r) (s:Same H H'):LR H' q r:=by
 obtain ⟨pe,pa,pl,py,sv,us,h⟩:=h
 exact ⟨pe,pa,pl,py,sv,us,h.same s⟩
noncomputable abbrev nm9:=nm
structure GR (names:List Str) (ow:Nat->Nat) (rk:Nat->Int) (kinds:List Str) (k:Nat) (r:RR):Prop where
 nm:r.name=nm names k
 wh:qbt r.who
 os:r.owes=nm9 kinds (ow k)
 kd:(qao r).Nodup
 kn:∀ x ∈ qao r,qbt x
 ks:∀ x ∈ qao r,x ∈ kinds.take 12
 bo:(∃ b,b < names.length/\r.base=some (nm9 names b)/\rk b < rk k/\r.opens=none) \/ (r.base=none/\∃ o,r.opens=some o)
 mn:1 <= r.many/\r.many <= 40
 un:r.unit ∈ qbv
 lg:r.longer.length <= 2/\∀ t ∈ r.longer,(1 <= t.2.1/\t.2.1 <= 20)/\1 <= t.2.2/\t.2.2 <= 3
 ln:r.ends.length <= 3/\r.anew.length <= 2
 yl:YlOk names ow k r.yields
noncomputable def spLrl (K:Ae):Sp:=λvs H Q _=>∃ (l pn pk:Addr) (ns:List Int) (k:Nat) (names kinds:List Str),vs=[.ref l,.int (k:Int),.ref pn,.ref pk]/\SqL K H l (ns.map V.int)/\H pn=some (.lst (names.map V.str))/\H pk=some (.lst (kinds.map V.str))/\names.Nodup/\k < names.length/\names.length <= 6/\kinds.Nodup/\12 <= kinds.length/\kinds.length <= 60/\(∀ x ∈ kinds,qbt x) /\
 ∀ (q:Addr) (H':Hp) (r:RR) (pe pa pl py:Addr) (sv:V) (us:List V),H q=none->H pe=none->H pa=none->H pl=none->H py=none->Same H H'->LR1 H' q r pe pa pl py sv us->GR names (owA ns) (rkA ns) kinds k r->Q (.ref q) H'
theorem eleven {M:List Str} (h:M.length=11):∃ m0 m1 m2 m3 m4 m5 m6 m7 m8 m9 m10,M=[m0,m1,m2,m3,m4,m5,m6,m7,m8,m9,m10]:=by
 match M,h with
 | [m0,m1,m2,m3,m4,m5,m6,m7,m8,m9,m10],_=>exact ⟨_,_,_,_,_,_,_,_,_,_,_,rfl⟩
theorem qxp {kinds:List Str} {o t:Nat} (nd:kinds.Nodup) (l:12 <= kinds.length) (ho:o < 3) (ht:t < 11) (nk:∀ x ∈ kinds,qbt x):∃ M:List Str,((kinds.take o ++ (kinds.take 12).drop (o + 1)).drop t ++ (kinds.take o ++ (kinds.take 12).drop (o + 1)).take t)=M/\M.length=11/\M.Nodup/\(∀ x ∈ M,qbt x/\x ∈ kinds.take 12)/\nm kinds o ∉ M/\nm kinds o ∈ kinds.take 12:=by
 refine ⟨_,rfl,?_,?_,?_,?_,?_⟩
 all_goals
  have lL:(kinds.take o ++ (kinds.take 12).drop (o + 1)).length=11:=by
   rw [Ag,Ap,AB,Ap]; lia
  have e12:kinds.take 12=kinds.take o ++ nm kinds o :: (kinds.take 12).drop (o + 1):=by
   have e:=Bl o (kinds.take 12)
   rw [List.take_take,Nat.min_eq_left (by lia),Cp (by rw [Ap]; lia)] at e
   refine e.symm.trans ?_
   have eo:(kinds.take 12)[o]'(by rw [Ap]; lia)=nm kinds o:=by
    rw [List.getElem_take]
    unfold nm
    rw [AU,Aj (by lia)]; rfl
   rw [eo]
  have nd12:(kinds.take 12).Nodup:=(B1 _ _).nodup nd
  rw [e12,AO,AW] at nd12
  obtain ⟨n1,⟨n2,n3⟩,n4⟩:=nd12
  have ndL:(kinds.take o ++ (kinds.take 12).drop (o + 1)).Nodup:=AO.mpr ⟨n1,n3,λa ha b hb=>n4 a ha b (At _ hb)⟩
  have pm:((kinds.take o ++ (kinds.take 12).drop (o + 1)).drop t ++ (kinds.take o ++ (kinds.take 12).drop (o + 1)).take t).Perm (kinds.take o ++ (kinds.take 12).drop (o + 1)):=by
   have:=List.perm_append_comm (l₁:=(kinds.take o ++ (kinds.take 12).drop (o + 1)).drop t) (l₂:=(kinds.take o ++ (kinds.take 12).drop (o + 1)).take t)
   rwa [Bl] at this
 .rw [pm.length_eq,lL]
 .exact pm.nodup_iff.mpr ndL
 .intro x hx
  have hx:=pm.mem_iff.mp hx
  have:x ∈ kinds.take 12:=by
   rw [e12]
   rcases Ax.mp hx with z | z
   .exact Bi _ z
   .exact AE _ (At _ z)
  exact ⟨nk x (Bu this),this⟩
 .intro hx
  rcases Ax.mp (pm.mem_iff.mp hx) with z | z
  .exact n4 _ z _ Ak rfl
  .exact n2 z
 .rw [e12]; exact AE _ Ak
noncomputable def qft (c:Int):Str:=if c % 3=0 then wS "days" else if c % 3=1 then wS "weeks" else wS "court"
theorem qxq (c:Int):atI [V.str (Aa "days"),V.str (Aa "weeks"),V.str (Aa "court")] (c % 3)=some (.str (qft c))/\qft c ∈ qbv:=by
 unfold qft
 rcases (by lia:c % 3=0 \/ c % 3=1 \/ c % 3=2) with e | e | e <;> rw [e]
 .exact ⟨rfl,by simp [qbv]⟩
 .exact ⟨rfl,by simp [qbv]⟩
 .exact ⟨rfl,by simp [qbv]⟩
theorem cut2 (vs:List V) (a b:Nat) (h:a <= vs.length) (h2:b <= vs.length):qfl vs (some (a:Int)) (some (b:Int))=(vs.take b).drop a:=by
 have e1:HT.sIx vs.length 0 (some (a:Int))=a:=by
  simp only [HT.sIx]
  split <;> lia
 have e2:HT.sIx vs.length vs.length (some (b:Int))=b:=by
  simp only [HT.sIx]
  split <;> lia
 unfold qfl
 rw [e1,e2]
 rw [List.drop_take]
theorem qvi {w m0 m1 m2 m3 m4 m5 m6 m7 m8 m9 m10:Str} {e a g o s:List Str} (nd:[m0,m1,m2,m3,m4,m5,m6,m7,m8,m9,m10].Nodup) (nw:w ∉ [m0,m1,m2,m3,m4,m5,m6,m7,m8,m9,m10]) (he:e.Sublist [m1,m2,m3]) (ha:a.Sublist [m4,m5]) (hg:g.Sublist [m6,m7]) (ho:o.Sublist [m0]) (hs:s.Sublist [m8,m9]):(([w] ++ e ++ a ++ g) ++ o ++ s).Nodup/\∀ x ∈ (([w] ++ e ++ a ++ g) ++ o ++ s),x=w \/ x ∈ [m0,m1,m2,m3,m4,m5,m6,m7,m8,m9,m10]:=by
 have sb:(([w] ++ e ++ a ++ g) ++ o ++ s).Sublist (([w] ++ [m1,m2,m3] ++ [m4,m5] ++ [m6,m7]) ++ [m0] ++ [m8,m9]):=((((((BZ _).append he).append ha).append hg).append ho).append hs)
 constructor
 .refine sb.nodup ?_
  simp only [AY,Bd,AW,Ao,Ar,or_false,not_or] at nd nw |-
  obtain ⟨⟨a1,a2,a3,a4,a5,a6,a7,a8,a9,a10⟩,⟨b2,b3,b4,b5,b6,b7,b8,b9,b10⟩,⟨c3,c4,c5,c6,c7,c8,c9,c10⟩,⟨d4,d5,d6,d7,d8,d9,d10⟩,⟨e5,e6,e7,e8,e9,e10⟩,⟨f6,f7,f8,f9,f10⟩,⟨g7,g8,g9,g10⟩,⟨h8,h9,h10⟩,⟨i9,i10⟩,_⟩:=nd
  obtain ⟨w0,w1,w2,w3,w4,w5,w6,w7,w8,w9,w10⟩:=nw
  exact ⟨⟨w1,w2,w3,w4,w5,w6,w7,w0,w8,w9⟩,⟨b2,b3,b4,b5,b6,b7,Bc a1,b8,b9⟩,⟨c3,c4,c5,c6,c7,Bc a2,c8,c9⟩,⟨d4,d5,d6,d7,Bc a3,d8,d9⟩,⟨e5,e6,e7,Bc a4,e8,e9⟩,⟨f6,f7,Bc a5,f8,f9⟩,⟨g7,Bc a6,g8,g9⟩,⟨Bc a7,h8,h9⟩,⟨a8,a9⟩,i9,not_false,.nil⟩
 .intro x hx
  have:=sb.subset hx
  simp only [AY,Bd,Ao,Ar,or_false] at this |-
  rcases this with h | h | h | h | h | h | h | h | h | h | h <;> simp [h]
theorem useV {p G:Option V->Prop} {R:Prop} (m:(∀ x,p x->G x)->R) (l:∀ x,p x->G x):R:=m l
noncomputable def off (p:Addr) (H:Hp):Hp:=λb=>if b=p then none else H b
theorem qjb {p b:Addr} {H:Hp} {o:HO} (n:b ≠ p) (h:H b=some o):off p H b=some o:=by unfold off; rw [if_neg n]; exact h
theorem qo0 {p:Addr} {H:Hp}:Same (off p H) H:=λb o e=>by
 unfold off at e
 by_cases c:b=p
 .rw [if_pos c] at e; cases e
 .rw [if_neg c] at e; exact e
theorem qvj {p:Addr} {H H':Hp} (k:∀ b o,b ≠ p->H b=some o->H' b=some o):Same (off p H) (off p H'):=λb o e=>by
 unfold off at e |-
 by_cases c:b=p
 .rw [if_pos c] at e; cases e
 .rw [if_neg c] at e |-; exact k b o c e
theorem LR1.offp {H:Hp} {q:Addr} {r:RR} {pe pa pl py:Addr} {sv:V} {us:List V} (h:LR1 H q r pe pa pl py sv us) {p:Addr} {zs:List V} (hp:H p=some (.lst zs)) (n0:q ≠ p) (n1:pe ≠ p) (n2:pa ≠ p) (n3:pl ≠ p) (n4:py ≠ p):LR1 (off p H) q r pe pa pl py sv us:=by
 have tt:∀ {b:Addr} {t:List V},H b=some (.tup t)->off p H b=some (.tup t):=λ{b t} e=>qjb (λz=>by rw [z,hp] at e; cases e) e
 have tu:∀ {us:List V} {ts:List (List V)},Tups H us ts->Tups (off p H) us ts:=λ{us ts} t=>by
  induction t with
  | nil=>exact .nil
  | cons h _ ih=>exact .cons (tt h) ih
 refine ⟨qjb n0 h.hq,qjb n1 h.he,qjb n2 h.ha,qjb n3 h.hl,tu h.tl,?_,qjb n4 h.hy⟩
 have hs:=h.hs
 cases e:r.still with
 | none=>rw [e] at hs; exact hs
 | some s=>rw [e] at hs; obtain ⟨b,h1,h2⟩:=hs; exact ⟨b,h1,tt h2⟩
structure LRs (H0 H:Hp) (p:Addr) (qs:List Addr) (rs:List RR):Prop where
 sm:Same H0 H
 hp:H p=some (.lst (qs.map V.ref))
 ln:qs.length=rs.length
 nd:qs.Nodup
 np:∀ q ∈ qs,q ≠ p/\H0 q=none
 pn:H0 p=none
 lr:∀ (i:Nat) (q:Addr) (r:RR),qs[i]?=some q->rs[i]?=some r->LR H q r
theorem LRs.same {H0 H H':Hp} {p:Addr} {qs:List Addr} {rs:List RR} (b:LRs H0 H p qs rs) (s:Same H H'):LRs H0 H' p qs rs:=⟨b.sm.trans s,s _ _ b.hp,b.ln,b.nd,b.np,b.pn,λi q r h1 h2=>(b.lr i q r h1 h2).same s⟩
theorem LRs.put {H0 H:Hp} {p:Addr} {qs:List Addr} {rs:List RR} {j:Nat} {q:Addr} {r r':RR} {pe pa pl py:Addr} {sv:V} {o:HO} (b:LRs H0 H p qs rs) (hj:qs[j]?=some q) (old:H q=some (.lst (qfs r pe pa pl sv py))) (x:LR (upd H q o) q r'):LRs H0 (upd H q o) p qs (rs.set j r'):=by
 obtain ⟨np,nf⟩:=b.np q (Aw hj)
 refine ⟨qam b.sm nf,(zd (Bc np)).trans b.hp,by rw [Cb]; exact b.ln,b.nd,b.np,b.pn,λi q2 r2 h1 h2 => ?_⟩
 rw [Ck] at h2
 by_cases c:j=i
 .subst c
  rw [if_pos rfl] at h2
  rw [hj] at h1
  cases h1
  split at h2
  .cases h2; exact x
  .cases h2
 .rw [if_neg c] at h2
  obtain ⟨pe',pa',pl',py',sv',us',h⟩:=b.lr i q2 r2 h1 h2
  refine ⟨pe',pa',pl',py',sv',us',h.upd old λz=>c ?_⟩
  rw [z] at h1
  have lj:=(Af.mp hj).1
  exact (List.getElem?_inj lj b.nd).mp (hj.trans h1.symm)
noncomputable def GRs (names:List Str) (ow:Nat->Nat) (rk:Nat->Int) (kinds:List Str) (rs:List RR):Prop:=∀ (k:Nat) (r:RR),rs[k]?=some r->GR names ow rk kinds k r
structure Fewer (r r':RR):Prop where
 nm:r'.name=r.name
 wh:r'.who=r.who
 os:r'.owes=r.owes
 op:r'.opens=r.opens
 ba:r'.base=r.base
 mn:r'.many=r.many
 un:r'.unit=r.unit
 en:r'.ends.Sublist r.ends
 an:r'.anew.Sublist r.anew
 lg:r'.longer.Sublist r.longer
 st:r'.still=r.still \/ r'.still=none
 yl:r'.yields.Sublist r.yields
theorem GR.fewer {names:List Str} {ow:Nat->Nat} {rk:Nat->Int} {kinds:List Str} {k:Nat} {r r':RR} (g:GR names ow rk kinds k r) (f:Fewer r r'):GR names ow rk kinds k r':=by
 have sb:(qao r').Sublist (qao r):=by
  unfold qao
  rw [f.os,f.op]
  refine ((((((BZ _).append f.en).append f.an).append (f.lg.map _)).append (BZ _)).append ?_)
  rcases f.st with e | e
  .rw [e]; exact BZ _
  .rw [e]; exact List.nil_sublist _
 refine ⟨f.nm.trans g.nm,by rw [f.wh]; exact g.wh,f.os.trans g.os,sb.nodup g.kd,λx hx=>g.kn x (sb.subset hx),λx hx=>g.ks x (sb.subset hx),by rw [f.ba,f.op]; exact g.bo,by rw [f.mn]; exact g.mn,by rw [f.un]; exact g.un,⟨Au f.lg.length_le g.lg.1,λt ht=>g.lg.2 t (f.lg.subset ht)⟩,⟨Au f.en.length_le g.ln.1,Au f.an.length_le g.ln.2⟩,⟨f.yl.nodup g.yl.nd,λy hy=>g.yl.ok y (f.yl.subset hy)⟩⟩
noncomputable def stN:Option (Str × Str)->Nat
 | none=>0
 | some _=>1
noncomputable def exR (r:RR):Nat:=r.ends.length + r.anew.length + r.longer.length + r.yields.length + stN r.still
noncomputable def qdt (t:Nat) (n:Nat) (r:RR):RR:=match t with
 | 0=>{ r with ends:=r.ends.take n }
 | 1=>{ r with anew:=r.anew.take n }
 | 2=>{ r with longer:=r.longer.take n }
 | _=>{ r with yields:=r.yields.take n }
noncomputable def qim (t:Nat) (r:RR):Nat:=match t with
 | 0=>r.ends.length
 | 1=>r.anew.length
 | 2=>r.longer.length
 | _=>r.yields.length
noncomputable def qnn (t:Nat) (r:RR):Nat:=match t with
 | 0=>0
 | 1=>r.ends.length
 | 2=>r.ends.length + r.anew.length
 | 3=>r.ends.length + r.anew.length + r.longer.length
 | _=>r.ends.length + r.anew.length + r.longer.length + r.yields.length
theorem qin (t n:Nat) (r:RR):Fewer r (qdt t n r):=by
 have R:∀ {α:Type} (l:List α),l.Sublist l:=λl=>BZ l
 match t with
 | 0=>exact ⟨rfl,rfl,rfl,rfl,rfl,rfl,rfl,B1 _ _,R _,R _,.inl rfl,R _⟩
 | 1=>exact ⟨rfl,rfl,rfl,rfl,rfl,rfl,rfl,R _,B1 _ _,R _,.inl rfl,R _⟩
 | 2=>exact ⟨rfl,rfl,rfl,rfl,rfl,rfl,rfl,R _,R _,B1 _ _,.inl rfl,R _⟩
 | t + 3=>exact ⟨rfl,rfl,rfl,rfl,rfl,rfl,rfl,R _,R _,R _,.inl rfl,B1 _ _⟩
theorem qio {t n:Nat} (ht:t < 4) (r:RR):qnn (t + 1) (qdt t n r)=qnn t r + qim t (qdt t n r)/\qim t (qdt t n r) <= n:=by
 rcases (by lia:t=0 \/ t=1 \/ t=2 \/ t=3) with rfl | rfl | rfl | rfl
 .exact ⟨(Db _).symm,Dt _ _⟩
 .exact ⟨rfl,Dt _ _⟩
 .exact ⟨rfl,Dt _ _⟩
 .exact ⟨rfl,Dt _ _⟩
noncomputable def spLrs (K:Ae):Sp:=λvs H Q _=>∃ (l pn pk:Addr) (ns:List Int) (names kinds:List Str) (mo:Nat),vs=[.ref l,.ref pn,.ref pk,.int (mo:Int)]/\SqL K H l (ns.map V.int)/\H pn=some (.lst (names.map V.str))/\H pk=some (.lst (kinds.map V.str))/\names.Nodup/\names.length <= 6/\kinds.Nodup/\12 <= kinds.length/\kinds.length <= 60/\(∀ x ∈ kinds,qbt x)/\6 <= mo/\mo <= 100 /\
 ∀ (p:Addr) (H':Hp) (qs:List Addr) (rs:List RR),LRs H H' p qs rs->rs.length=names.length->GRs names (owA ns) (rkA ns) kinds rs->(rs.map exR).sum + names.length <= mo->Q (.ref p) H'
theorem qk5 {rs:List RR} {j:Nat} {r:RR} (h:rs[j]?=some r):((rs.take (j + 1)).map exR).sum=((rs.take j).map exR).sum + exR r:=by
 rw [qbs h,Ay,List.sum_append]; simp
theorem take_set' {rs:List RR} {j:Nat} {r:RR}:(rs.set j r).take j=rs.take j:=by
 rw [List.take_set_of_le (A1 _)]
theorem qo1 (vs:List V) (n:Nat):qfl vs none (some (n:Int))=vs.take n:=by
 by_cases h:n <= vs.length
 .exact qgk vs n h
 .rw [Bs (by lia)]
  unfold qfl
  have e2:HT.sIx vs.length vs.length (some (n:Int))=vs.length:=by
   simp only [HT.sIx]
   split <;> lia
  rw [show HT.sIx vs.length 0 none=0 from rfl,e2]
  simp
theorem qsv {H:Hp} {us:List V} {ts:List (List V)} (t:Tups H us ts):∀ n,Tups H (us.take n) (ts.take n):=by
 induction t with
 | nil=>intro n; rw [List.take_nil,List.take_nil]; exact .nil
 | cons h _ ih =>
  intro n
  cases n with
  | zero=>exact .nil
  | succ n=>exact .cons h (ih n)
theorem qip {names:List Str} {ow:Nat->Nat} {rk:Nat->Int} {kinds:List Str} {rs:List RR} {j:Nat} {r r':RR} (g:GRs names ow rk kinds rs) (h:rs[j]?=some r) (f:Fewer r r'):GRs names ow rk kinds (rs.set j r'):=λk r2 h2=>by
 rw [Ck] at h2
 by_cases c:j=k
 .subst c
  rw [if_pos rfl] at h2
  split at h2
  .cases h2; exact (g j r h).fewer f
  .cases h2
 .rw [if_neg c] at h2; exact g k r2 h2
noncomputable def nS (n:Int):Str:=Aa (toString n)
noncomputable def qax:Rw7->List Str
 | .term x w o d y m u=>[wS "term",x,wS "of",w,wS "due",o,fbS d,y,nS m,u]
 | .ends x k=>[wS "ends",x,k]
 | .anew x k=>[wS "anew",x,k]
 | .longer x k u t=>[wS "longer",x,k,nS u,wS "times",nS t]
 | .still x k l=>[wS "still",x,k,l]
 | .yields x y=>[wS "yields",x,y]
noncomputable def qak (row:Rw7):Str:=Dw ⟨#[32]⟩ (qax row)
noncomputable def qdb:Rw7->Prop
 | .term x w o _ y m u=>qbt x/\qbt w/\qbt o/\qbt y/\(1 <= m/\m <= 40)/\u ∈ qbv
 | .ends x k=>qbt x/\qbt k
 | .anew x k=>qbt x/\qbt k
 | .longer x k u t=>qbt x/\qbt k/\(1 <= u/\u <= 20)/\(1 <= t/\t <= 3)
 | .still x k l=>qbt x/\qbt k/\qbt l
 | .yields x y=>qbt x/\qbt y
theorem nS_all:∀ n:Fin 41,1 <= n.val->due (nS (n.val:Int)) 40=true/\nv (nS (n.val:Int))=(n.val:Int)/\((nS (n.val:Int)).cps.toList.all λd=>decide (d ≠ 32) && decide (d ≠ 10))=true/\(nS (n.val:Int)).cps.size <= 2/\(n.val <= 20->due (nS (n.val:Int)) 20=true)/\(n.val <= 3->due (nS (n.val:Int)) 3=true):=En
theorem qiq {m:Int} (h1:1 <= m) (h2:m <= 40):due (nS m) 40=true/\nv (nS m)=m/\(∀ c,c=32 \/ c=10->c ∉ (nS m).cps.toList)/\(nS m).cps.size <= 2/\(m <= 20->due (nS m) 20=true)/\(m <= 3->due (nS m) 3=true):=by
 have h:=nS_all ⟨m.toNat,by lia⟩ (by show 1 <= m.toNat; lia)
 have e:((m.toNat:Nat):Int)=m:=by lia
 dsimp only at h
 rw [e] at h
 obtain ⟨g1,g2,g3,g4,g5,g6⟩:=h
 refine ⟨g1,g2,λc hc z => ?_,g4,λh=>g5 (by lia),λh=>g6 (by lia)⟩
 have:=AQ.mp g3 c z
 simp only [AC,decide_eq_true_eq] at this
 rcases hc with rfl | rfl
 .exact this.1 rfl
 .exact this.2 rfl
theorem qno {u:Str} (h:u ∈ qbv):qbv.contains u=true/\(∀ c,c=32 \/ c=10->c ∉ u.cps.toList)/\u.cps.size <= 5:=by
 have d:∀ w ∈ qbv,(w.cps.toList.all λd=>decide (d ≠ 32) && decide (d ≠ 10))=true/\w.cps.size <= 5:=En
 obtain ⟨d1,d2⟩:=d u h
 refine ⟨BA.mpr h,λc hc z => ?_,d2⟩
 have:=AQ.mp d1 c z
 simp only [AC,decide_eq_true_eq] at this
 rcases hc with rfl | rfl
 .exact this.1 rfl
 .exact this.2 rfl
theorem qrh {w:Str} (h:w ∈ [wS "term",wS "of",wS "due",wS "from",wS "behind",wS "ends",wS "anew",wS "longer",wS "times",wS "still",wS "yields"]):(∀ c,c=32 \/ c=10->c ∉ w.cps.toList)/\w.cps.size <= 6:=by
 have d:∀ w ∈ [wS "term",wS "of",wS "due",wS "from",wS "behind",wS "ends",wS "anew",wS "longer",wS "times",wS "still",wS "yields"],(w.cps.toList.all λd=>decide (d ≠ 32) && decide (d ≠ 10))=true/\w.cps.size <= 6:=En
 obtain ⟨d1,d2⟩:=d w h
 refine ⟨λc hc z => ?_,d2⟩
 have:=AQ.mp d1 c z
 simp only [AC,decide_eq_true_eq] at this
 rcases hc with rfl | rfl
 .exact this.1 rfl
 .exact this.2 rfl
theorem qdh {x:Str} (h:qbt x):(∀ c,c=32 \/ c=10->c ∉ x.cps.toList)/\x.cps.size <= 8:=⟨λc hc=>qxh h (by lia),h.2.1⟩
theorem qgp {row:Rw7} (h:qdb row):∀ w ∈ qax row,(∀ c,c=32 \/ c=10->c ∉ w.cps.toList)/\w.cps.size <= 8:=by
 have kp:∀ {w:Str},w ∈ [wS "term",wS "of",wS "due",wS "from",wS "behind",wS "ends",wS "anew",wS "longer",wS "times",wS "still",wS "yields"]->(∀ c,c=32 \/ c=10->c ∉ w.cps.toList)/\w.cps.size <= 8:=λh=>⟨(qrh h).1,by have:=(qrh h).2; lia⟩
 intro w hw
 cases row with
 | term x w1 o d y m u =>
  obtain ⟨h1,h2,h3,h4,⟨h5,h6⟩,h7⟩:=h
  obtain ⟨_,_,n3,n4,_⟩:=qiq h5 h6
  obtain ⟨_,u2,u3⟩:=qno h7
  simp only [qax,Ao,Ar,or_false] at hw
  rcases hw with rfl | rfl | rfl | rfl | rfl | rfl | rfl | rfl | rfl | rfl
  .exact kp (by simp)
  .exact qdh h1
  .exact kp (by simp)
  .exact qdh h2
  .exact kp (by simp)
  .exact qdh h3
  .cases d <;> exact kp (by simp [fbS])
  .exact qdh h4
  .exact ⟨n3,by lia⟩
  .exact ⟨u2,by lia⟩
 | ends x k =>
  simp only [qax,Ao,Ar,or_false] at hw
  rcases hw with rfl | rfl | rfl
  .exact kp (by simp)
  .exact qdh h.1
  .exact qdh h.2
 | anew x k =>
  simp only [qax,Ao,Ar,or_false] at hw
  rcases hw with rfl | rfl | rfl
  .exact kp (by simp)
  .exact qdh h.1
  .exact qdh h.2
 | yields x k =>
  simp only [qax,Ao,Ar,or_false] at hw
  rcases hw with rfl | rfl | rfl
  .exact kp (by simp)
  .exact qdh h.1
  .exact qdh h.2
 | longer x k u t =>
  obtain ⟨h1,h2,⟨h3,h4⟩,h5,h6⟩:=h
  obtain ⟨_,_,n3,n4,_⟩:=qiq h3 (by lia)
  obtain ⟨_,_,m3,m4,_⟩:=qiq h5 (by lia)
  simp only [qax,Ao,Ar,or_false] at hw
  rcases hw with rfl | rfl | rfl | rfl | rfl | rfl
  .exact kp (by simp)
  .exact qdh h1
  .exact qdh h2
  .exact ⟨n3,by lia⟩
  .exact kp (by simp)
  .exact ⟨m3,by lia⟩
 | still x k l =>
  simp only [qax,Ao,Ar,or_false] at hw
  rcases hw with rfl | rfl | rfl | rfl
  .exact kp (by simp)
  .exact qdh h.1
  .exact qdh h.2.1
  .exact qdh h.2.2
theorem qvk (row:Rw7):qax row ≠ []:=by cases row <;> exact C3 _ _
theorem qsw (row:Rw7):(qax row).length <= 10:=by cases row <;> simp [qax]
theorem qfu {row:Rw7} (h:qdb row):BE (qak row) (wS " ")=qax row:=by
 rw [qha]; exact qki 32 (qvk row) λp hp=>(qgp h p hp).1 32 (.inl rfl)
theorem qp8 {row:Rw7} (h:qdb row):qdp (qax row)=some row:=by
 cases row with
 | term x w1 o d y m u =>
  obtain ⟨h1,h2,h3,h4,⟨h5,h6⟩,h7⟩:=h
  obtain ⟨n1,n2,_⟩:=qiq h5 h6
  show qdp [wS "term",x,wS "of",w1,wS "due",o,fbS d,y,nS m,u]=_
  rw [qjz,if_pos ⟨rfl,qdg.mpr h1,rfl,qdg.mpr h2,rfl,qdg.mpr h3,by cases d <;> simp [fbS],qdg.mpr h4,n1,(qno h7).1⟩,n2]
  cases d
  .rw [show decide (fbS false=wS "behind")=false by decide +kernel]
  .rw [show decide (fbS true=wS "behind")=true by decide +kernel]
 | ends x k =>
  show qdp [wS "ends",x,k]=_
  rw [qi9,if_pos ⟨qdg.mpr h.1,qdg.mpr h.2⟩,if_pos rfl]
 | anew x k =>
  show qdp [wS "anew",x,k]=_
  rw [qi9,if_pos ⟨qdg.mpr h.1,qdg.mpr h.2⟩,if_neg En,if_pos rfl]
 | yields x k =>
  show qdp [wS "yields",x,k]=_
  rw [qi9,if_pos ⟨qdg.mpr h.1,qdg.mpr h.2⟩,if_neg En,if_neg En,if_pos rfl]
 | longer x k u t =>
  obtain ⟨h1,h2,⟨h3,h4⟩,h5,h6⟩:=h
  obtain ⟨_,n2,_,_,n5,_⟩:=qiq h3 (by lia)
  obtain ⟨_,m2,_,_,_,m6⟩:=qiq h5 (by lia)
  show qdp [wS "longer",x,k,nS u,wS "times",nS t]=_
  rw [qnj,if_pos ⟨rfl,qdg.mpr h1,qdg.mpr h2,n5 h4,rfl,m6 h6⟩,n2,m2]
 | still x k l =>
  show qdp [wS "still",x,k,l]=_
  rw [qnk,if_pos ⟨rfl,qdg.mpr h.1,qdg.mpr h.2.1,qdg.mpr h.2.2⟩]
theorem qj1 {row:Rw7} (h:qdb row):opR (qak row)=some row:=by
 unfold opR
 rw [qfu h,qp8 h]
theorem jl9 {c n:Nat}:∀ {ps:List (List Nat)},(∀ p ∈ ps,p.length <= n)->(jl c ps).length <= (n + 1) * ps.length
 | [],_=>A1 _
 | [x],h=>by
  have:=h x Ak
  show x.length <= (n + 1) * 1
  lia
 | x :: y :: r,h=>by
  have h1:=h x Ak
  have h2:=jl9 (c:=c) (ps:=y :: r) λp hp=>h p (At _ hp)
  show (x ++ c :: jl c (y :: r)).length <= (n + 1) * ((y :: r).length + 1)
  rw [Ag,Aq,Nat.mul_succ]
  lia
theorem qvl {c d:Nat} (n:c ≠ d):∀ {ps:List (List Nat)},(∀ p ∈ ps,d ∉ p)->d ∉ jl c ps
 | [],_=>Ar
 | [x],h=>h x Ak
 | x :: y :: r,h=>by
  show d ∉ x ++ c :: jl c (y :: r)
  rw [Ax,Ao]
  rintro (z | z | z)
  .exact h x Ak z
  .exact n z.symm
  .exact qvl n (λp hp=>h p (At _ hp)) z
theorem qee {row:Rw7} (h:qdb row):(qak row).cps.size <= 90/\10 ∉ (qak row).cps.toList/\(qak row).cps.size ≠ 0:=by
 have e:(qak row).cps.toList=jl 32 ((qax row).map λp=>p.cps.toList):=qc4 32 _
 refine ⟨?_,?_,?_⟩
 .rw [<- AH,e]
  have:=jl9 (c:=32) (n:=8) (ps:=(qax row).map λp=>p.cps.toList) λp hp=>by
   obtain ⟨w,hw,rfl⟩:=AI.mp hp
   rw [AH]; exact (qgp h w hw).2
  rw [Ab] at this
  have:=qsw row
  lia
 .rw [e]
  refine qvl Ez λp hp => ?_
  obtain ⟨w,hw,rfl⟩:=AI.mp hp
  exact (qgp h w hw).1 10 (.inr rfl)
 .rw [<- AH,e]
  cases row <;> (simp only [qax,A6,B4,jl,Ag,Aq]; lia)
noncomputable def qbg (r:RR):Rw7:=match r.base with
 | some y=>.term r.name r.who r.owes true y r.many r.unit
 | none=>.term r.name r.who r.owes false (r.opens.getD "None") r.many r.unit
noncomputable def qgq (x:Str):Option (Str × Str)->List Rw7
 | none=>[]
 | some s=>[.still x s.1 s.2]
noncomputable def qhb (r:RR):List (List Rw7):=[[qbg r],r.ends.map (.ends r.name),r.anew.map (.anew r.name),r.longer.map (λt=>.longer r.name t.1 t.2.1 t.2.2),qgq r.name r.still,r.yields.map (.yields r.name)]
noncomputable def qcz (r:RR):List Rw7:=(qhb r).flatten
structure RrOk (r:RR):Prop where
 nm:qbt r.name
 wh:qbt r.who
 kn:∀ x ∈ qao r,qbt x
 ba:∀ y,r.base=some y->qbt y
 bo:r.base=none->∃ o,r.opens=some o
 bn:∀ y,r.base=some y->r.opens=none
 yl:∀ y ∈ r.yields,qbt y
 mn:1 <= r.many/\r.many <= 40
 un:r.unit ∈ qbv
 lg:∀ t ∈ r.longer,(1 <= t.2.1/\t.2.1 <= 20)/\1 <= t.2.2/\t.2.2 <= 3
 sz:r.ends.length <= 100/\r.anew.length <= 100/\r.longer.length <= 100/\r.yields.length <= 100
theorem RrOk.kin {r:RR} (h:RrOk r):qbt r.owes/\(∀ x ∈ r.ends,qbt x)/\(∀ x ∈ r.anew,qbt x)/\(∀ t ∈ r.longer,qbt t.1)/\(∀ x,r.opens=some x->qbt x)/\∀ s,r.still=some s->qbt s.1/\qbt s.2:=by
 have m:∀ x,x ∈ qao r ↔ x=r.owes \/ x ∈ r.ends \/ x ∈ r.anew \/ x ∈ r.longer.map (·.1) \/ x ∈ r.opens.toList \/ x ∈ stL r.still:=λx=>by
  unfold qao
  simp only [Ax,Ai,or_assoc]
 refine ⟨h.kn _ ((m _).mpr (.inl rfl)),λx hx=>h.kn _ ((m _).mpr (.inr (.inl hx))),λx hx=>h.kn _ ((m _).mpr (.inr (.inr (.inl hx)))),λt ht=>h.kn _ ((m _).mpr (.inr (.inr (.inr (.inl (AI.mpr ⟨t,ht,rfl⟩)))))),λx hx=>h.kn _ ((m _).mpr (.inr (.inr (.inr (.inr (.inl (by rw [hx]; simp))))))),λs hs => ?_⟩
 exact ⟨h.kn _ ((m _).mpr (.inr (.inr (.inr (.inr (.inr (by rw [hs]; simp [stL]))))))),h.kn _ ((m _).mpr (.inr (.inr (.inr (.inr (.inr (by rw [hs]; simp [stL])))))))⟩
theorem qxr {r:RR} (h:RrOk r):qdb (qbg r):=by
 unfold qbg
 cases eb:r.base with
 | some y=>exact ⟨h.nm,h.wh,h.kin.1,h.ba y eb,h.mn,h.un⟩
 | none =>
  obtain ⟨o,eo⟩:=h.bo eb
  dsimp only
  rw [eo]
  exact ⟨h.nm,h.wh,h.kin.1,h.kin.2.2.2.2.1 o eo,h.mn,h.un⟩
theorem qxs {r:RR} (h:RrOk r):∀ row ∈ qcz r,qdb row:=by
 obtain ⟨k1,k2,k3,k4,k5,k6⟩:=h.kin
 intro row hr
 unfold qcz qhb at hr
 simp only [List.flatten_cons,List.flatten_nil,Bw,Ax,AI,Ai] at hr
 rcases hr with rfl | ⟨k,hk,rfl⟩ | ⟨k,hk,rfl⟩ | ⟨t,ht,rfl⟩ | hs | ⟨y,hy,rfl⟩
 .exact qxr h
 .exact ⟨h.nm,k2 k hk⟩
 .exact ⟨h.nm,k3 k hk⟩
 .exact ⟨h.nm,k4 t ht,(h.lg t ht).1,(h.lg t ht).2⟩
 .cases es:r.still with
  | none=>rw [es] at hs; cases hs
  | some s =>
   rw [es] at hs
   rw [Ai.mp hs]
   exact ⟨h.nm,k6 s es⟩
 .exact ⟨h.nm,h.yl y hy⟩
theorem nd_sub {l m:List Str} (nd:l.Nodup) (h:∀ x ∈ l,x ∈ m):l.length <= m.length:=by
 induction l generalizing m with
 | nil=>exact Bt _
 | cons a l ih =>
  rw [AW] at nd
  have:=ih (m:=m.erase a) nd.2 λx hx=>(List.mem_erase_of_ne (show x ≠ a from λe=>nd.1 (by rw [<- e]; exact hx))).mpr (h x (At _ hx))
  rw [List.length_erase_of_mem (h a Ak)] at this
  have:1 <= m.length:=List.length_pos_of_mem (h a Ak)
  rw [Aq]; lia
theorem GR.rrok {names:List Str} {ow:Nat->Nat} {rk:Nat->Int} {kinds:List Str} {k:Nat} {r:RR} (g:GR names ow rk kinds k r) (no:∀ x ∈ names,qbt x) (hk:k < names.length) (l6:names.length <= 6):RrOk r:=by
 have nmk:∀ b,b < names.length->qbt (nm9 names b):=λb hb=>no _ (Aw (qg9 hb))
 have yn:r.yields.length <= names.length:=by
  refine nd_sub g.yl.nd λy hy => ?_
  obtain ⟨b,hb,e,_⟩:=g.yl.ok y hy
  rw [e]; exact Aw (qg9 hb)
 refine ⟨by rw [g.nm]; exact nmk k hk,g.wh,g.kn,λy hy => ?_,λhb => ?_,λy hy => ?_,λy hy => ?_,g.mn,g.un,g.lg.2,⟨by have:=g.ln.1; lia,by have:=g.ln.2; lia,by have:=g.lg.1; lia,by lia⟩⟩
 .rcases g.bo with ⟨b,hb,e,_⟩ | ⟨e,_⟩
  .rw [e] at hy; cases hy; exact nmk b hb
  .rw [e] at hy; cases hy
 .rcases g.bo with ⟨b,hb',e,_⟩ | ⟨_,e⟩
  .rw [e] at hb; cases hb
  .exact e
 .rcases g.bo with ⟨b,hb',e,_,e2⟩ | ⟨e,_⟩
  .exact e2
  .rw [e] at hy; cases hy
 .obtain ⟨b,hb,e,_⟩:=g.yl.ok y hy
  rw [e]; exact nmk b hb
theorem qg5:(wS "term ").cps.toList=(wS "term").cps.toList ++ [32]/\(wS " of ").cps.toList=32 :: ((wS "of").cps.toList ++ [32])/\(wS " due ").cps.toList=32 :: ((wS "due").cps.toList ++ [32])/\(wS "from ").cps.toList=(wS "from").cps.toList ++ [32]/\(wS "behind ").cps.toList=(wS "behind").cps.toList ++ [32]/\(wS " ").cps.toList=[32]/\(wS "ends ").cps.toList=(wS "ends").cps.toList ++ [32]/\(wS "anew ").cps.toList=(wS "anew").cps.toList ++ [32]/\(wS "longer ").cps.toList=(wS "longer").cps.toList ++ [32]/\(wS " times ").cps.toList=32 :: ((wS "times").cps.toList ++ [32])/\(wS "still ").cps.toList=(wS "still").cps.toList ++ [32]/\(wS "yields ").cps.toList=(wS "yields").cps.toList ++ [32]:=En
theorem hl0 {a b:Str} (ha:a.length <= 50000) (hb:b.length <= 50000):a.length + b.length <= 100000:=Nat.add_le_add ha hb
theorem hl {a b:Str} {n:Nat} (ha:a.length <= n / 2) (hb:b.length <= n / 2):(a ++ b).length <= n:=by rw [qfo]; lia
theorem fz {n:Nat} (h:n <= 100000:=by first | (refine hl0 ?_ ?_ <;> (repeat' refine hl ?_ ?_) <;> first | exact Au (by assumption) Ez | decide) | lia | (simp only [qfo]; lia)):n <= A0:=qae h
theorem t_lens:(Aa "term ").length=5/\(Aa " of ").length=4/\(Aa " due ").length=5/\(Aa "from ").length=5/\(Aa "behind ").length=7/\(Aa " ").length=1/\(Aa "ends ").length=5/\(Aa "anew ").length=5/\(Aa "longer ").length=7/\(Aa " times ").length=7/\(Aa "still ").length=6/\(Aa "yields ").length=7/\(Aa "None").length=4:=En
noncomputable def qk6 (r:RR):Str:=match r.base with
 | some y=>wS "behind " ++ y
 | none=>wS "from " ++ r.opens.getD "None"
theorem qmm (r:RR):wS "term " ++ r.name ++ wS " of " ++ r.who ++ wS " due " ++ r.owes ++ wS " " ++ qk6 r ++ wS " " ++ nS r.many ++ wS " " ++ r.unit=qak (qbg r):=by
 obtain ⟨t1,t2,t3,t4,t5,t6,_⟩:=qg5
 refine str_ext ?_
 rw [show (qak (qbg r)).cps.toList=jl 32 ((qax (qbg r)).map λp=>p.cps.toList) from qc4 32 _]
 unfold qk6 qbg
 cases r.base with
 | some y =>
  dsimp only
  simp only [qdo,t1,t2,t3,t5,t6,qax,fbS,if_pos,A6,B4,jl,AG,AY,Bd]
 | none =>
  dsimp only
  simp only [qdo,t1,t2,t3,t4,t6,qax,fbS,CZ,if_false,A6,B4,jl,AG,AY,Bd]
theorem qmn (x k:Str):wS "ends " ++ x ++ wS " " ++ k=qak (.ends x k):=by
 obtain ⟨_,_,_,_,_,t6,t7,_⟩:=qg5
 refine str_ext ?_
 rw [show (qak (.ends x k)).cps.toList=jl 32 ((qax (.ends x k)).map λp=>p.cps.toList) from qc4 32 _]
 simp only [qdo,t6,t7,qax,A6,B4,jl,AG,AY,Bd]
theorem qmo (x k:Str):wS "anew " ++ x ++ wS " " ++ k=qak (.anew x k):=by
 obtain ⟨_,_,_,_,_,t6,_,t8,_⟩:=qg5
 refine str_ext ?_
 rw [show (qak (.anew x k)).cps.toList=jl 32 ((qax (.anew x k)).map λp=>p.cps.toList) from qc4 32 _]
 simp only [qdo,t6,t8,qax,A6,B4,jl,AG,AY,Bd]
theorem qo2 (x k:Str):wS "yields " ++ x ++ wS " " ++ k=qak (.yields x k):=by
 obtain ⟨_,_,_,_,_,t6,_,_,_,_,_,t12⟩:=qg5
 refine str_ext ?_
 rw [show (qak (.yields x k)).cps.toList=jl 32 ((qax (.yields x k)).map λp=>p.cps.toList) from qc4 32 _]
 simp only [qdo,t6,t12,qax,A6,B4,jl,AG,AY,Bd]
theorem qjk (x k:Str) (u t:Int):wS "longer " ++ x ++ wS " " ++ k ++ wS " " ++ nS u ++ wS " times " ++ nS t=qak (.longer x k u t):=by
 obtain ⟨_,_,_,_,_,t6,_,_,t9,t10,_⟩:=qg5
 refine str_ext ?_
 rw [show (qak (.longer x k u t)).cps.toList=jl 32 ((qax (.longer x k u t)).map λp=>p.cps.toList) from qc4 32 _]
 simp only [qdo,t6,t9,t10,qax,A6,B4,jl,AG,AY,Bd]
theorem qp9 (x k l:Str):wS "still " ++ x ++ wS " " ++ k ++ wS " " ++ l=qak (.still x k l):=by
 obtain ⟨_,_,_,_,_,t6,_,_,_,_,t11,_⟩:=qg5
 refine str_ext ?_
 rw [show (qak (.still x k l)).cps.toList=jl 32 ((qax (.still x k l)).map λp=>p.cps.toList) from qc4 32 _]
 simp only [qdo,t6,t11,qax,A6,B4,jl,AG,AY,Bd]
noncomputable def qbh (rows:List Rw7):List V:=(rows.map qak).map V.str
noncomputable def spSo:Sp:=λvs H Q _=>∃ (p:Addr) (r:RR),vs=[.ref p]/\LR H p r/\RrOk r/\∀ (q:Addr) (H':Hp) (us:List V),H q=none->Same H H'->H' q=some (.lst us)->us.length=6->(∀ (i:Nat) (v:V) (rw:List Rw7),us[i]?=some v->(qhb r)[i]?=some rw->∃ b,v=.ref b/\H' b=some (.lst (qbh rw)))->Q (.ref q) H'
noncomputable def spRws:Sp:=λvs H Q _=>∃ (p:Addr) (r:RR),vs=[.ref p]/\LR H p r/\RrOk r/\∀ (q:Addr) (H':Hp),H q=none->Same H H'->H' q=some (.lst (qbh (qcz r)))->Q (.ref q) H'
theorem qnp {n:Int} (h:n.natAbs <= 100):n.natAbs.log2 < 1920:=Nat.lt_of_le_of_lt (Nat.log2_le_self _) (by lia)
theorem qvm {r:RR} (h:RrOk r):∀ rw ∈ qhb r,rw.length <= 100:=by
 obtain ⟨z1,z2,z3,z4⟩:=h.sz
 intro rw hr
 simp only [qhb,Ao,Ar,or_false] at hr
 rcases hr with rfl | rfl | rfl | rfl | rfl | rfl
 .simp
 .rw [Ab]; exact z1
 .rw [Ab]; exact z2
 .rw [Ab]; exact z3
 .cases r.still <;> simp [qgq]
 .rw [Ab]; exact z4
noncomputable def qxt:RR->List Rw7->Prop
 | _,[]=>True
 | r,row :: t=>isT row=false/\qa3 row=r.name/\qg7 r row=false/\qxt (qc6 r row) t
theorem qvn {rs0:List RR} {r:RR} (h:qar rs0 r.name=none):qar (rs0 ++ [r]) r.name=some rs0.length:=by
 rw [qil,h]; dsimp only; rw [if_pos rfl]
theorem qsx {rs0:List RR} {r r':RR}:(rs0 ++ [r]).set rs0.length r'=rs0 ++ [r']:=by
 rw [List.set_append_right _ _ (A1 _),Dn]; rfl
theorem qsy {rs0:List RR} {r:RR}:(rs0 ++ [r])[rs0.length]?=some r:=by
 rw [AL (A1 _),Dn]; rfl
theorem qhc:∀ {rows:List Rw7} {rs0:List RR} {r:RR} {i:Nat} {t:List (Option Rw7)},qar rs0 r.name=none->qxt r rows->i + rows.length <= 40->qai (rs0 ++ [r]) i (rows.map some ++ t)=qai (rs0 ++ [rows.foldl qc6 r]) (i + rows.length) t
 | [],_,_,_,_,_,_,_=>rfl
 | row :: rows,rs0,r,i,t,hp,f,hi=>by
  obtain ⟨f1,f2,f3,f4⟩:=f
  rw [Aq] at hi
  have h:qbz (rs0 ++ [r]) i row=.ok (rs0 ++ [qc6 r row]):=by
   rw [qfh f1,qij (by rw [f2]; exact qvn hp) qsy f3,qsx]
  show qai (rs0 ++ [r]) i (some row :: (rows.map some ++ t))=_
  rw [qhs (by lia) h,qhc (by rw [qfq]; exact hp) f4 (by lia),Aq,show i + 1 + rows.length=i + (rows.length + 1) by lia]
  rfl
noncomputable def nLg:List Rw7->Nat
 | []=>0
 | .longer _ _ _ _ :: t=>nLg t + 1
 | _ :: t=>nLg t
noncomputable def nSt:List Rw7->Nat
 | []=>0
 | .still _ _ _ :: t=>nSt t + 1
 | _ :: t=>nSt t
theorem qmp (r:RR) {row:Rw7} (h:isT row=false) (hs:nSt [row] + stN r.still <= 1):(qao (qc6 r row)).Perm (qao r ++ kin row):=by
 refine List.perm_iff_count.mpr λx => ?_
 cases row with
 | term=>cases h
 | ends y k=>simp only [qao,qc6,kin,CH]; lia
 | anew y k=>simp only [qao,qc6,kin,CH]; lia
 | longer y k u t=>simp only [qao,qc6,kin,CH,Ay,A6,B4]; lia
 | still y k l =>
  have e:r.still=none:=by
   cases es:r.still with
   | none=>rfl
   | some s=>rw [es] at hs; have hs:1 + 1 <= 1:=hs; lia
  simp only [qao,qc6,kin,CH,e,stL,List.count_nil]; lia
 | yields y k=>simp only [qao,qc6,kin,CH,List.count_nil]; lia
theorem qk7 (row:Rw7) (t:List Rw7):nLg (row :: t)=nLg [row] + nLg t:=by cases row <;> simp [nLg] <;> lia
theorem qk8 (row:Rw7) (t:List Rw7):nSt (row :: t)=nSt [row] + nSt t:=by cases row <;> simp [nSt] <;> lia
theorem qxu (r:RR) (row:Rw7):(qc6 r row).longer.length=r.longer.length + nLg [row]:=by cases row <;> simp [qc6,nLg]
theorem qxv (r:RR) (row:Rw7) (h:nSt [row] + stN r.still <= 1):stN (qc6 r row).still=stN r.still + nSt [row]:=by
 cases row with
 | still y k l =>
  show 1=stN r.still + 1
  have h:1 + stN r.still <= 1:=h
  lia
 | _=>rfl
theorem qri:∀ {rows:List Rw7} {r:RR},(∀ row ∈ rows,isT row=false/\qa3 row=r.name)->(qao r ++ rows.flatMap kin).Nodup->r.longer.length + nLg rows <= 2->stN r.still + nSt rows <= 1->qxt r rows
 | [],_,_,_,_,_=>trivial
 | row :: rows,r,ha,nd,hl,hs=>by
  obtain ⟨a1,a2⟩:=ha row Ak
  rw [qk7] at hl
  rw [qk8] at hs
  have pm:=qmp r a1 (by lia)
  rw [Bk,<- AG] at nd
  have nd1:=(AO.mp nd).1
  obtain ⟨n1,n2,n3⟩:=AO.mp nd1
  refine ⟨a1,a2,?_,qri (λrow' hr=>by rw [qfq]; exact ha row' (At _ hr)) ?_ (by rw [qxu]; lia) (by rw [qxv r row (by lia)]; lia)⟩
  .unfold qg7
   rw [Bool.or_eq_false_iff]
   constructor
   .rw [List.any_eq_false]
    intro k hk z
    exact n3 k (BA.mp z) k hk rfl
   .cases row with
    | still y k l =>
     show (r.still.isSome || decide (k=l))=false
     have e:r.still=none:=by
      cases es:r.still with
      | none=>rfl
      | some s=>rw [es] at hs; have hs:1 + (1 + nSt rows) <= 1:=hs; lia
     rw [e,decide_eq_false]
     .rfl
     .intro z
      rw [z] at n2
      simp [kin] at n2
    | longer y k u t =>
     show decide (r.longer.length=2)=false
     rw [decide_eq_false]
     intro z
     have hl:r.longer.length + (1 + nLg rows) <= 2:=hl
     lia
    | _=>rfl
  .exact (pm.append_right _).nodup_iff.mpr nd
noncomputable def noY (r:RR):RR:={ r with yields:=[] }
theorem qmq (x:Str):∀ (ks:List Str) (r:RR),(ks.map (.ends x)).foldl qc6 r={ r with ends:=r.ends ++ ks }
 | [],r=>by rw [Bw]; rfl
 | k :: ks,r=>by
  show (ks.map (.ends x)).foldl qc6 { r with ends:=r.ends ++ [k] }=_
  rw [qmq x ks]
  simp only [AG,AY,Bd]
theorem qmr (x:Str):∀ (ks:List Str) (r:RR),(ks.map (.anew x)).foldl qc6 r={ r with anew:=r.anew ++ ks }
 | [],r=>by rw [Bw]; rfl
 | k :: ks,r=>by
  show (ks.map (.anew x)).foldl qc6 { r with anew:=r.anew ++ [k] }=_
  rw [qmr x ks]
  simp only [AG,AY,Bd]
theorem qjl (x:Str):∀ (ks:List (Str × Int × Int)) (r:RR),(ks.map λt=>Rw7.longer x t.1 t.2.1 t.2.2).foldl qc6 r={ r with longer:=r.longer ++ ks }
 | [],r=>by rw [Bw]; rfl
 | k :: ks,r=>by
  show (ks.map λt=>Rw7.longer x t.1 t.2.1 t.2.2).foldl qc6 { r with longer:=r.longer ++ [(k.1,k.2.1,k.2.2)] }=_
  rw [qjl x ks]
  simp only [AG,AY,Bd]
theorem qjm (x:Str):∀ (ks:List Str) (r:RR),(ks.map (.yields x)).foldl qc6 r=r
 | [],r=>rfl
 | k :: ks,r=>qjm x ks r
theorem qqa (x:Str) (o:Option (Str × Str)) (r:RR) (h:r.still=none):(qgq x o).foldl qc6 r={ r with still:=o }:=by
 cases o with
 | none=>show r={ r with still:=none }; rw [<- h]
 | some s=>rfl
noncomputable def qce (r:RR):List Rw7:=r.ends.map (.ends r.name) ++ (r.anew.map (.anew r.name) ++ (r.longer.map (λt=>.longer r.name t.1 t.2.1 t.2.2) ++ (qgq r.name r.still ++ r.yields.map (.yields r.name))))
theorem qfj (r:RR):qcz r=qbg r :: qce r:=by
 unfold qcz qhb qce
 simp only [List.flatten_cons,List.flatten_nil,Bw,AY,Bd]
noncomputable def qgr (r:RR):RR:=⟨r.name,r.who,r.owes,r.opens,r.base,r.many,r.unit,[],[],[],none,[]⟩
theorem qsz (r:RR):(qce r).foldl qc6 (qgr r)=noY r:=by
 unfold qce
 rw [DE,qmq,DE,qmr,DE,qjl,DE,qqa _ _ _ rfl,qjm]
 simp only [qgr,noY,Bd]
theorem qxw (r:RR):∀ row ∈ qce r,isT row=false/\qa3 row=r.name:=by
 intro row h
 unfold qce at h
 simp only [Ax,AI] at h
 rcases h with ⟨k,_,rfl⟩ | ⟨k,_,rfl⟩ | ⟨k,_,rfl⟩ | h | ⟨k,_,rfl⟩
 .exact ⟨rfl,rfl⟩
 .exact ⟨rfl,rfl⟩
 .exact ⟨rfl,rfl⟩
 .cases es:r.still with
  | none=>rw [es] at h; cases h
  | some s=>rw [es] at h; rw [Ai.mp h]; exact ⟨rfl,rfl⟩
 .exact ⟨rfl,rfl⟩
theorem qvo (r:RR):(qce r).flatMap kin=r.ends ++ (r.anew ++ (r.longer.map (·.1) ++ stL r.still)):=by
 have e1:∀ ks:List Str,(ks.map (Rw7.ends r.name)).flatMap kin=ks:=λks=>by induction ks with | nil=>rfl | cons k ks ih=>rw [A6,Bk,ih]; rfl
 have e2:∀ ks:List Str,(ks.map (Rw7.anew r.name)).flatMap kin=ks:=λks=>by induction ks with | nil=>rfl | cons k ks ih=>rw [A6,Bk,ih]; rfl
 have e3:∀ ks:List (Str × Int × Int),(ks.map λt=>Rw7.longer r.name t.1 t.2.1 t.2.2).flatMap kin=ks.map (·.1):=λks=>by induction ks with | nil=>rfl | cons k ks ih=>rw [A6,Bk,ih]; rfl
 have e4:∀ ks:List Str,(ks.map (Rw7.yields r.name)).flatMap kin=[]:=λks=>by induction ks with | nil=>rfl | cons k ks ih=>rw [A6,Bk,ih]; rfl
 unfold qce
 rw [Bp,Bp,Bp,Bp,e1,e2,e3,e4,Bw]
 cases r.still <;> rfl
theorem qir:∀ a b:List Rw7,nLg (a ++ b)=nLg a + nLg b
 | [],b=>(Db _).symm
 | x :: a,b=>by rw [AY,qk7,qk7 x a,qir a b]; lia
theorem qis:∀ a b:List Rw7,nSt (a ++ b)=nSt a + nSt b
 | [],b=>(Db _).symm
 | x :: a,b=>by rw [AY,qk8,qk8 x a,qis a b]; lia
theorem n_rest (r:RR):nLg (qce r)=r.longer.length/\nSt (qce r)=stN r.still:=by
 have a:∀ ks:List Str,nLg (ks.map (Rw7.ends r.name))=0/\nSt (ks.map (Rw7.ends r.name))=0/\nLg (ks.map (Rw7.anew r.name))=0/\nSt (ks.map (Rw7.anew r.name))=0/\nLg (ks.map (Rw7.yields r.name))=0/\nSt (ks.map (Rw7.yields r.name))=0:=λks=>by
  induction ks with
  | nil=>exact ⟨rfl,rfl,rfl,rfl,rfl,rfl⟩
  | cons k ks ih=>exact ih
 have b:∀ ks:List (Str × Int × Int),nLg (ks.map λt=>Rw7.longer r.name t.1 t.2.1 t.2.2)=ks.length/\nSt (ks.map λt=>Rw7.longer r.name t.1 t.2.1 t.2.2)=0:=λks=>by
  induction ks with
  | nil=>exact ⟨rfl,rfl⟩
  | cons k ks ih=>exact ⟨congrArg (· + 1) ih.1,ih.2⟩
 have c:∀ o:Option (Str × Str),nLg (qgq r.name o)=0/\nSt (qgq r.name o)=stN o:=λo=>by cases o <;> exact ⟨rfl,rfl⟩
 unfold qce
 rw [qir,qir,qir,qir,qis,qis,qis,qis,(a r.ends).1,(a r.ends).2.1,(a r.anew).2.2.1,(a r.anew).2.2.2.1,(b r.longer).1,(b r.longer).2,(c r.still).1,(c r.still).2,(a r.yields).2.2.2.2.1,(a r.yields).2.2.2.2.2]
 lia
theorem qs0 {r:RR} (nd:(qao r).Nodup) (l2:r.longer.length <= 2):qxt (qgr r) (qce r):=by
 obtain ⟨n1,n2⟩:=n_rest r
 refine qri (qxw r) ?_ (by rw [n1]; show 0 + _ <= 2; lia) (by rw [n2]; show 0 + _ <= 1; cases r.still <;> simp [stN])
 rw [qvo]
 refine (List.Perm.nodup_iff (List.perm_iff_count.mpr λx => ?_)).mpr nd
 simp only [qao,qgr,CH,B4,List.count_nil,stL]
 lia
theorem qo3 {rs0:List RR} {r:RR} {i:Nat} (ok:RrOk r) (nd:(qao r).Nodup) (hp:qar rs0 r.name=none) (h6:rs0.length ≠ 6):qbz rs0 i (qbg r)=.ok (rs0 ++ [qgr r]):=by
 unfold qbg
 cases eb:r.base with
 | some y =>
  show qe4 rs0 i r.name r.who r.owes true y r.many r.unit=_
  rw [qfg (d:=true) hp (λz=>z.elim h6 λz=>nomatch z.1)]
  unfold qnl qgr
  rw [eb,ok.bn y eb]; rfl
 | none =>
  obtain ⟨o,eo⟩:=ok.bo eb
  show qe4 rs0 i r.name r.who r.owes false (r.opens.getD "None") r.many r.unit=_
  rw [eo]
  have ne:r.owes ≠ o:=λz=>by
   unfold qao at nd
   rw [eo,z] at nd
   simp at nd
  show qe4 rs0 i r.name r.who r.owes false o r.many r.unit=_
  rw [qfg hp (λz=>z.elim h6 λz=>ne z.2)]
  unfold qnl qgr
  rw [eb,eo]; rfl
theorem qlt {rs0:List RR} {r:RR} {i:Nat} {t:List (Option Rw7)} (ok:RrOk r) (nd:(qao r).Nodup) (l2:r.longer.length <= 2) (hp:qar rs0 r.name=none) (h6:rs0.length ≠ 6) (h40:i + (qcz r).length <= 40):qai rs0 i ((qcz r).map some ++ t)=qai (rs0 ++ [noY r]) (i + (qcz r).length) t:=by
 rw [qfj] at h40 |-
 rw [Aq] at h40 |-
 show qai rs0 i (some (qbg r) :: ((qce r).map some ++ t))=_
 rw [qhs (by lia) (qo3 ok nd hp h6),qhc (r:=qgr r) hp (qs0 nd l2) (by lia),qsz,show i + 1 + (qce r).length=i + ((qce r).length + 1) by lia]
noncomputable def qaa (rs:List RR):List Rw7:=rs.flatMap qcz
structure GT (rs:List RR):Prop where
 ok:∀ r ∈ rs,RrOk r
 kd:∀ r ∈ rs,(qao r).Nodup
 l2:∀ r ∈ rs,r.longer.length <= 2
 nn:(rs.map RR.name).Nodup
 l6:rs.length <= 6
 ba:qja rs
 yl:∀ r ∈ rs,r.yields.Nodup/\∀ y ∈ r.yields,y ≠ r.name/\∃ s ∈ rs,s.name=y/\s.owes=r.owes
 ln:(qaa rs).length <= 40
theorem qit:∀ {rs rs0:List RR} {i:Nat} {t:List (Option Rw7)},(∀ r ∈ rs,RrOk r/\(qao r).Nodup/\r.longer.length <= 2)->((rs0 ++ rs).map RR.name).Nodup->(rs0 ++ rs).length <= 6->i + (qaa rs).length <= 40->qai rs0 i ((qaa rs).map some ++ t)=qai (rs0 ++ rs.map noY) (i + (qaa rs).length) t
 | [],rs0,i,t,_,_,_,_=>by
  show qai rs0 i t=qai (rs0 ++ []) (i + 0) t
  rw [Bw]; rfl
 | r :: rs,rs0,i,t,ok,nn,l6,h40=>by
  have el:qaa (r :: rs)=qcz r ++ qaa rs:=Bk
  rw [el,Ag] at h40
  obtain ⟨o1,o2,o3⟩:=ok r Ak
  have hp:qar rs0 r.name=none:=qdx.mpr λz=>by
   rw [Ay,AO] at nn
   exact nn.2.2 _ z r.name (by simp) rfl
  have nn':(((rs0 ++ [noY r]) ++ rs).map RR.name).Nodup:=by
   rw [AG]
   have:((rs0 ++ ([noY r] ++ rs)).map RR.name)=(rs0 ++ r :: rs).map RR.name:=by simp [noY]
   rw [this]; exact nn
  rw [Ag,Aq] at l6
  rw [el,Ay,AG,qlt o1 o2 o3 hp (by lia) (by lia),qit (λs hs=>ok s (At _ hs)) nn' (by rw [Ag,Ag]; show _ + 1 + _ <= 6; lia) (by lia),Ag,AG,Nat.add_assoc]
  rfl
theorem qo4 {rs:List RR} (g:GT rs):qai [] 0 ((qaa rs).map some)=.ok (rs.map noY):=by
 have:=qit (rs:=rs) (rs0:=[]) (i:=0) (t:=[]) (λr hr=>⟨g.ok r hr,g.kd r hr,g.l2 r hr⟩) g.nn g.l6 (by have:=g.ln; lia)
 rw [Bw,Bd] at this
 rw [this]; rfl
theorem qvp {xs ys:List (Option Rw7)} {rs0 rs:List RR} {i:Nat} (h:qai rs0 i (xs ++ ys)=.ok rs):∃ rs',qai rs0 i xs=.ok rs':=by
 rw [qds] at h
 cases e:qai rs0 i xs with
 | error e'=>rw [e] at h; cases h
 | ok rs'=>exact ⟨rs',rfl⟩
theorem qjn:∀ {rows:List Rw7} {rs:List RR} {i:Nat} {t:List Rw7},(∀ row ∈ rows,isT row=false/\∀ x y,row ≠ .yields x y)->qau rs i (rows ++ t)=qau rs (i + rows.length) t
 | [],_,_,_,_=>rfl
 | row :: rows,rs,i,t,h=>by
  obtain ⟨h1,h2⟩:=h row Ak
  show qau rs i (row :: (rows ++ t))=_
  rw [qfi (qve h1 h2),qjn λrow' hr=>h row' (At _ hr),Aq,show i + 1 + rows.length=i + (rows.length + 1) by lia]
theorem qk9:∀ {ys:List Str} {rs:List RR} {r:RR} {i j:Nat} {t:List Rw7},(rs.map RR.name).Nodup->rs[j]?=some r->(r.yields ++ ys).Nodup->(∀ y ∈ ys,y ≠ r.name/\∃ s ∈ rs,s.name=y/\s.owes=r.owes)->qau rs i (ys.map (.yields r.name) ++ t)=qau (rs.set j { r with yields:=r.yields ++ ys }) (i + ys.length) t
 | [],rs,r,i,j,t,_,hj,_,_=>by
  show qau rs i t=qau (rs.set j { r with yields:=r.yields ++ [] }) (i + 0) t
  rw [Bw]
  have:rs.set j r=rs:=by
   apply BY
   intro k
   rw [Ck]
   by_cases c:j=k
   .subst c
    rw [if_pos rfl,if_pos (Af.mp hj).1,hj]
   .rw [if_neg c]
  rw [this]; rfl
 | y :: ys,rs,r,i,j,t,nn,hj,nd,hy=>by
  obtain ⟨y1,s,hs,sn,so⟩:=hy y Ak
  obtain ⟨l,hl⟩:=Bj hs
  have pl:qar rs y=some l:=by rw [<- sn]; exact qg3 nn hl
  have ny:y ∉ r.yields:=λz=>by
   rw [AO] at nd
   exact nd.2.2 y z y Ak rfl
  have h:qb6 rs i (.yields r.name y)=.ok (rs.set j { r with yields:=r.yields ++ [y] }):=by
   rw [qk2 (qg3 nn hj),qhq pl hj hl λz=>z.elim y1 λz=>z.elim ny λz=>z so]
  have en:({ r with yields:=r.yields ++ [y] }:RR).name=r.name:=rfl
  show qau rs i (.yields r.name y :: (ys.map (.yields r.name) ++ t))=_
  have ih:=qk9 (ys:=ys) (rs:=rs.set j { r with yields:=r.yields ++ [y] }) (r:={ r with yields:=r.yields ++ [y] }) (i:=i + 1) (j:=j) (t:=t) (by rw [qg4 hj en]; exact nn) (Bq (Af.mp hj).1) (by show ((r.yields ++ [y]) ++ ys).Nodup; rw [AG]; exact nd) (λy' hy'=>by
   obtain ⟨a1,s',hs',a2,a3⟩:=hy y' (At _ hy')
   obtain ⟨l',hl'⟩:=Bj hs'
   by_cases c:l'=j
   .subst c
    rw [hj] at hl'; cases hl'
    exact absurd a2.symm a1
   .exact ⟨a1,s',Aw (i:=l') (by rw [Ck,if_neg (Bc c)]; exact hl'),a2,a3⟩)
  rw [qfi h]
  refine ih.trans ?_
  rw [List.set_set,Aq,show i + 1 + ys.length=i + (ys.length + 1) by lia]
  simp only [AG,AY,Bd]
theorem qo5 (r:RR):∃ x w o d y m u,qbg r=.term x w o d y m u/\x=r.name:=by
 unfold qbg
 cases r.base with
 | some y=>exact ⟨_,_,_,_,_,_,_,rfl,rfl⟩
 | none=>exact ⟨_,_,_,_,_,_,_,rfl,rfl⟩
theorem qo6 {rs:List RR} {r r':RR} {i j:Nat} (nn:(rs.map RR.name).Nodup) (hj:rs[j]?=some r') (en:r'.name=r.name) (ba:∀ y,r'.base=some y->(qar rs y).isSome=true):qb6 rs i (qbg r)=.ok rs:=by
 obtain ⟨x,w,o,d,y,m,u,e,ex⟩:=qo5 r
 rw [e,qik (j:=j) (r:=r') (by rw [ex,<- en]; exact qg3 nn hj) hj]
 cases eb:r'.base with
 | none=>rfl
 | some z=>dsimp only; rw [if_pos (ba z eb)]
theorem qnq {rs:List RR} {r:RR} {i j:Nat} {t:List Rw7} (nn:(rs.map RR.name).Nodup) (hj:rs[j]?=some (noY r)) (ba:∀ y,r.base=some y->(qar rs y).isSome=true) (nd:r.yields.Nodup) (hy:∀ y ∈ r.yields,y ≠ r.name/\∃ s ∈ rs,s.name=y/\s.owes=r.owes):qau rs i (qcz r ++ t)=qau (rs.set j r) (i + (qcz r).length) t:=by
 have e:qcz r=qbg r :: ((r.ends.map (.ends r.name) ++ (r.anew.map (.anew r.name) ++ (r.longer.map (λt=>.longer r.name t.1 t.2.1 t.2.2) ++ qgq r.name r.still))) ++ r.yields.map (.yields r.name)):=by
  rw [qfj]; unfold qce; simp only [AG]
 rw [e]
 show qau rs i (qbg r :: (_ ++ t))=_
 refine (qfi (qo6 (r:=r) (r':=noY r) nn hj rfl ba) _).trans ?_
 rw [AG]
 refine (qjn λrow h => ?_).trans ((qk9 (ys:=r.yields) (r:=noY r) nn hj nd hy).trans ?_)
 .simp only [Ax,AI] at h
  rcases h with ⟨k,_,rfl⟩ | ⟨k,_,rfl⟩ | ⟨k,_,rfl⟩ | h
  .exact ⟨rfl,λ_ _ z=>nomatch z⟩
  .exact ⟨rfl,λ_ _ z=>nomatch z⟩
  .exact ⟨rfl,λ_ _ z=>nomatch z⟩
  .cases es:r.still with
   | none=>rw [es] at h; cases h
   | some s=>rw [es] at h; rw [Ai.mp h]; exact ⟨rfl,λ_ _ z=>nomatch z⟩
 .have:({ noY r with yields:=(noY r).yields ++ r.yields }:RR)=r:=rfl
  rw [this]
  congr 1
  simp only [Aq,Ag,Ab]
  lia
theorem qs1 (rs:List RR):(rs.map noY).map RR.name=rs.map RR.name:=by rw [AR]; rfl
theorem qo7 {rs:List RR} (g:GT rs):qau (rs.map noY) 0 (qaa rs)=.ok rs:=by
 have w:∀ k,k <= rs.length->qau (rs.map noY) 0 (qaa rs)=qau (rs.take k ++ (rs.drop k).map noY) (qaa (rs.take k)).length (qaa (rs.drop k)):=by
  intro k
  induction k with
  | zero=>intro _; rw [DD,List.drop_zero,Bd]; rfl
  | succ k ih =>
   intro hk
   rw [ih (by lia)]
   have lk:k < rs.length:=by lia
   have hr:rs[k]?=some rs[k]:=Aj lk
   have hm:rs[k] ∈ rs:=Bv lk
   have ed:rs.drop k=rs[k] :: rs.drop (k + 1):=Cp lk
   have lt:(rs.take k).length=k:=by rw [Ap]; lia
   have nms:(rs.take k ++ (rs.drop k).map noY).map RR.name=rs.map RR.name:=by
    rw [Ay,qs1,<- Ay,Bl]
   have nn:((rs.take k ++ (rs.drop k).map noY).map RR.name).Nodup:=by rw [nms]; exact g.nn
   have hj:(rs.take k ++ (rs.drop k).map noY)[k]?=some (noY rs[k]):=by
    rw [AL (by lia),lt,Dn,ed]; rfl
   have ea:qaa (rs.drop k)=qcz rs[k] ++ qaa (rs.drop (k + 1)):=by rw [ed]; exact Bk
   rw [ea,qnq nn hj (λy hy=>by rw [qch y nms]; exact g.ba _ hm y hy) (g.yl _ hm).1 (λy hy => ?_)]
   .have e1:(rs.take k ++ (rs.drop k).map noY).set k rs[k]=rs.take (k + 1) ++ (rs.drop (k + 1)).map noY:=by
     rw [List.set_append_right _ _ (by lia),lt,Dn,ed,qbs hr,AG]; rfl
    have e2:(qaa (rs.take k)).length + (qcz rs[k]).length=(qaa (rs.take (k + 1))).length:=by
     rw [qbs hr]; unfold qaa; rw [Bp,Ag]; simp
    rw [e1,e2]
   .obtain ⟨y1,s,hs,y2,y3⟩:=(g.yl _ hm).2 y hy
    refine ⟨y1,?_⟩
    rw [<- Bl k rs] at hs
    rcases Ax.mp hs with z | z
    .exact ⟨s,Bi _ z,y2,y3⟩
    .exact ⟨noY s,AE _ (AI.mpr ⟨s,z,rfl⟩),y2,y3⟩
 rw [w _ (A1 _),B0,List.drop_length]
 show qau (rs ++ []) _ []=_
 rw [Bw]; rfl
theorem qms {rows:List Rw7} (h:∀ row ∈ rows,qdb row):qgn (rows.map qak)=rows.map some:=by
 unfold qgn
 rw [AR]
 exact List.map_congr_left λrow hr=>qj1 (h row hr)
theorem qla {rs:List RR} (g:∀ r ∈ rs,RrOk r):∀ row ∈ qaa rs,qdb row:=λrow hr=>by
 obtain ⟨r,h1,h2⟩:=BS.mp hr
 exact qxs (g r h1) row h2
theorem qmt {rs:List RR} (g:GT rs):qda ((qaa rs).map qak)=.ok rs:=by
 unfold qda
 rw [qms (qla g.ok),qo4 g]
 dsimp only
 rw [qrf,qo7 g]
theorem qrj {f:Nat->Option Nat} {n:Nat} {rk:Nat->Int} (h:∀ k b,f k=some b->rk b < rk k) {r:List Nat} (rg:Rg f n r):False:=by
 have l1:1 <= r.length:=Ed.mpr rg.ne
 have w:∀ i,(hi:i < r.length)->rk (r[i]) + (i:Int) <= rk (r[0]'(by lia)):=by
  intro i
  induction i with
  | zero=>intro hi; lia
  | succ i ih =>
   intro hi
   have h1:=ih (by lia)
   have h2:=rg.nx i r[i] (Aj (by lia))
   rw [Nat.mod_eq_of_lt hi,Aj hi] at h2
   have:=h _ _ h2
   lia
 have h1:=w (r.length - 1) (by lia)
 have h2:=rg.nx (r.length - 1) r[r.length - 1] (Aj (by lia))
 rw [show r.length - 1 + 1=r.length by lia,Nat.mod_self,Aj (by lia)] at h2
 have:=h _ _ h2
 lia
theorem gt_of {names kinds:List Str} {ow:Nat->Nat} {rk:Nat->Int} {rs:List RR} (g:GRs names ow rk kinds rs) (ln:rs.length=names.length) (no:∀ x ∈ names,qbt x) (nn:names.Nodup) (l6:names.length <= 6) {mo:Nat} (hm:mo <= 40) (hs:(rs.map exR).sum + names.length <= mo):GT rs:=by
 have ri:∀ r ∈ rs,∃ k,k < names.length/\rs[k]?=some r/\GR names ow rk kinds k r:=λr hr=>by
  obtain ⟨k,hk⟩:=Bj hr
  exact ⟨k,by rw [<- ln]; exact (Af.mp hk).1,hk,g k r hk⟩
 have en:rs.map RR.name=names:=by
  apply BY
  intro k
  rw [An]
  by_cases c:k < names.length
  .have hr:rs[k]?=some (rs[k]'(by lia)):=Aj (by lia)
   rw [hr,qg9 c]
   show some (rs[k]'(by lia)).name=_
   rw [(g k _ hr).nm]
  .rw [By (by lia),By (by lia)]; rfl
 have at_:∀ b,b < names.length->∃ s ∈ rs,s.name=nm9 names b/\s.owes=nm9 kinds (ow b):=λb hb=>by
  have hr:rs[b]?=some (rs[b]'(by lia)):=Aj (by lia)
  exact ⟨_,Aw hr,(g b _ hr).nm,(g b _ hr).os⟩
 refine ⟨λr hr => ?_,λr hr => ?_,λr hr => ?_,by rw [en]; exact nn,by lia,λr hr y hy => ?_,λr hr => ?_,?_⟩
 .obtain ⟨k,hk,_,gr⟩:=ri r hr; exact gr.rrok no hk l6
 .obtain ⟨k,hk,_,gr⟩:=ri r hr; exact gr.kd
 .obtain ⟨k,hk,_,gr⟩:=ri r hr; exact gr.lg.1
 .obtain ⟨k,hk,_,gr⟩:=ri r hr
  rcases gr.bo with ⟨b,hb,e,_⟩ | ⟨e,_⟩
  .rw [e] at hy
   cases hy
   cases ep:qar rs (nm9 names b) with
   | some j=>rfl
   | none =>
    have:=qdx.mp ep
    rw [en] at this
    exact absurd (Aw (qg9 hb)) this
  .rw [e] at hy; cases hy
 .obtain ⟨k,hk,_,gr⟩:=ri r hr
  refine ⟨gr.yl.nd,λy hy => ?_⟩
  obtain ⟨b,hb,e,bk,ob⟩:=gr.yl.ok y hy
  refine ⟨λz=>bk ?_,?_⟩
  .rw [e,gr.nm] at z
   exact qi8 nn hb hk z
  .obtain ⟨s,hs1,hs2,hs3⟩:=at_ b hb
   exact ⟨s,hs1,by rw [hs2,e],by rw [hs3,ob,gr.os]⟩
 .have el:∀ l:List RR,(qaa l).length=(l.map exR).sum + l.length:=by
   intro l
   induction l with
   | nil=>rfl
   | cons r l ih =>
    have:qaa (r :: l)=qcz r ++ qaa l:=Bk
    rw [this,Ag,ih,A6,List.sum_cons,Aq,qfj,Aq]
    have:(qce r).length=exR r:=by
     unfold qce exR
     simp only [Ag,Ab]
     have:(qgq r.name r.still).length=stN r.still:=by cases r.still <;> rfl
     lia
    lia
  rw [el,ln]; lia
theorem ranked {names kinds:List Str} {ow:Nat->Nat} {rk:Nat->Int} {rs:List RR} (g:GRs names ow rk kinds rs) (ln:rs.length=names.length) (nn:names.Nodup):∀ k b,bo (bsR rs) k=some b->rk b < rk k:=λk b e=>by
 unfold bo bsR at e
 rw [AU,An] at e
 cases er:rs[k]? with
 | none=>rw [er] at e; cases e
 | some r =>
  rw [er] at e
  have e:r.base.bind (qar rs)=some b:=e
  rcases (g k r er).bo with ⟨b',hb',eb,hr,_⟩ | ⟨eb,_⟩
  .rw [eb] at e
   have e:qar rs (nm9 names b')=some b:=e
   obtain ⟨s,hs,sn⟩:=qb2 e
   have:s.name=nm9 names b:=(g b s hs).nm
   have hb:b < names.length:=by rw [<- ln]; exact (Af.mp hs).1
   have:=qi8 nn hb hb' (this.symm.trans sn)
   rw [this]; exact hr
  .rw [eb] at e; cases e
theorem qgs {K:Ae} {c:Value} {suite qbl:TH} {D:Ends} {σ:L2.St} {x C:Addr} {od:Option Addr} {H:Hp} (e:Ac K (.ref C) c=some true) (h:suite D σ x C od H):hCl K c suite qbl D σ x C od H:=by
 unfold hCl; rw [e]; exact h
theorem qcn {K:Ae} {c:Value} {suite qbl:TH} {D:Ends} {σ:L2.St} {x C:Addr} {od:Option Addr} {H:Hp} (e:Ac K (.ref C) c=some false) (h:qbl D σ x C od H):hCl K c suite qbl D σ x C od H:=by
 unfold hCl; rw [e]; exact h
noncomputable def erW:Er->Str
 | .rule _=>wS "rule"
 | .term _=>wS "term"
 | .twice _=>wS "twice"
 | .unfit _=>wS "unfit"
noncomputable def spTo (a:Adr):Sp:=λvs H Q _=>∃ ls:List Str,vs=[.str (qev ls)]/\Lng ls/\(∀ rs,qda ls=.ok rs->(∀ (t:Addr) (H':Hp),Same H H'->H' t=some (.tup [.str (wS "read"),.non,.bl true])->Q (.ref t) H')/\∀ (t l:Addr) (H':Hp) (r:List Nat),Same H H'->H' t=some (.tup [.str (wS "ring"),.ref l,.bl true])->H' l=some (.lst ((r.map (nm (rs.map RR.name))).map V.str))->Rg (bo (bsR rs)) (rs.map RR.name).length r->Q (.ref t) H') /\
 ∀ e,qda ls=.error e->∀ (t:Addr) (H':Hp),Same H H'->H' t=some (.tup [.str (erW e),(erF e).2,.bl true])->Q (.ref t) H'
noncomputable def spRi:Sp:=λvs H Q _=>∃ (ls:List Str) (e:Er),vs=[.str (qev ls),.str (erW e),(erF e).2]/\Lng ls/\qda ls=.error e/\∀ H',Same H H'->Q (.bl true) H'
noncomputable def tk:Rw7->List Str
 | .term _ _ o d y _ _=>o :: (if d=true then [] else [y])
 | row=>kin row
structure Jn (rows:List Rw7) (S:List RR):Prop where
 nm:∀ x,x ∈ S.map RR.name ↔ ∃ row ∈ rows,isT row=true/\qa3 row=x
 nd:(S.map RR.name).Nodup
 l6:S.length <= 6
 hs:∀ row ∈ rows,qa3 row ∈ S.map RR.name
 kd:∀ row ∈ rows,∀ k ∈ tk row,∀ s ∈ S,s.name=qa3 row->k ∈ qao s
theorem tk_m {row:Rw7} (h:isT row=false):tk row=kin row:=by cases row <;> first | rfl | cases h
theorem unf_st {r:RR} {row:Rw7} (h:qg7 r row=false):nSt [row] + stN r.still <= 1:=by
 have s1:stN r.still <= 1:=by cases r.still <;> simp [stN]
 cases row with
 | still x k l =>
  unfold qg7 qvc at h
  cases e:r.still with
  | none=>simp [nSt,stN]
  | some z=>rw [e] at h; simp at h
 | _=>simp only [nSt]; lia
theorem qxx {rows:List Rw7} {S S':List RR} {i:Nat} {row:Rw7} (j:Jn rows S) (h:qbz S i row=.ok S'):Jn (rows ++ [row]) S':=by
 cases ht:isT row with
 | true =>
  cases row with
  | term x w o d y m u =>
   have h:qe4 S i x w o d y m u=.ok S':=h
   cases pn:qar S x with
   | some j=>rw [qkz (by rw [pn]; rfl)] at h; cases h
   | none =>
    by_cases c:S.length=6 \/ (d=false/\o=y)
    .rw [qgm pn c] at h; cases h
    .rw [qfg pn c] at h
     cases h
     have nx:=qdx.mp pn
     refine ⟨λz => ?_,?_,?_,λrow hr => ?_,λrow hr k hk s hs en => ?_⟩
     .rw [Ay,Ax,j.nm z]
      constructor
      .rintro (⟨row,hr,e⟩ | hz)
       .exact ⟨row,Bi _ hr,e⟩
       .exact ⟨_,AE _ (Ai.mpr rfl),rfl,(Ai.mp hz).symm⟩
      .rintro ⟨row,hr,e1,e2⟩
       rcases Ax.mp hr with hr | hr
       .exact .inl ⟨row,hr,e1,e2⟩
       .cases Ai.mp hr
        exact .inr (Ai.mpr e2.symm)
     .rw [Ay]
      refine AO.mpr ⟨j.nd,AW.mpr ⟨Ar,List.nodup_nil⟩,λa ha b hb e => ?_⟩
      cases Ai.mp hb
      rw [e] at ha
      exact nx ha
     .rw [Ag]; have:=j.l6; show _ + 1 <= 6; lia
     .rw [Ay]
      rcases Ax.mp hr with hr | hr
      .exact Bi _ (j.hs _ hr)
      .cases Ai.mp hr; exact AE _ (Ai.mpr rfl)
     .rcases Ax.mp hr with hr | hr
      .rcases Ax.mp hs with hs | hs
       .exact j.kd row hr k hk s hs en
       .cases Ai.mp hs
        exact absurd (by rw [show x=qa3 row from en]; exact j.hs _ hr) nx
      .cases Ai.mp hr
       rcases Ax.mp hs with hs | hs
       .exact absurd (by rw [show x=s.name from en.symm]; exact List.mem_map_of_mem hs) nx
       .cases Ai.mp hs
        unfold tk at hk
        rcases Ao.mp hk with rfl | hk
        .unfold qao qnl; simp
        .cases d with
         | true=>simp at hk
         | false=>simp at hk; subst hk; unfold qao qnl; simp
  | _=>cases ht
 | false =>
  rw [qfh ht] at h
  cases pn:qar S (qa3 row) with
  | none=>rw [qk0 pn] at h; cases h
  | some q =>
   obtain ⟨r,hr,en⟩:=qb2 pn
   cases u:qg7 r row with
   | true=>rw [qii pn hr u] at h; cases h
   | false =>
    rw [qij pn hr u] at h
    cases h
    have pm:=qmp r ht (unf_st u)
    have nms:(S.set q (qc6 r row)).map RR.name=S.map RR.name:=qg4 hr (qfq r row)
    have inr:qa3 row ∈ S.map RR.name:=by rw [<- en]; exact List.mem_map_of_mem (Aw hr)
    refine ⟨λz => ?_,by rw [nms]; exact j.nd,by rw [Cb]; exact j.l6,λrow2 h2 => ?_,λrow2 h2 k hk s hs e2 => ?_⟩
    .rw [nms,j.nm z]
     constructor
     .rintro ⟨row,hr,e⟩; exact ⟨row,Bi _ hr,e⟩
     .rintro ⟨row2,hr,e1,e2⟩
      rcases Ax.mp hr with hr | hr
      .exact ⟨row2,hr,e1,e2⟩
      .cases Ai.mp hr; rw [ht] at e1; cases e1
    .rw [nms]
     rcases Ax.mp h2 with h2 | h2
     .exact j.hs _ h2
     .cases Ai.mp h2; exact inr
    .rcases Ax.mp h2 with h2 | h2
     .rcases C9 hs with hs | rfl
      .exact j.kd row2 h2 k hk s hs e2
      .exact pm.mem_iff.mpr (Bi _ (j.kd row2 h2 k hk r (Aw hr) (by rw [<- e2,qfq])))
     .cases Ai.mp h2
      rw [tk_m ht] at hk
      obtain ⟨i,hi⟩:=Bj hs
      have hp:=qg3 (by rw [nms]; exact j.nd) hi
      rw [qch s.name nms,e2,pn] at hp
      cases hp
      rw [Bq (Af.mp hr).1] at hi
      cases hi
      exact pm.mem_iff.mpr (AE _ hk)
theorem qvq:∀ {rows rows0:List Rw7} {S0 S:List RR} {i:Nat},Jn rows0 S0->qai S0 i (rows.map some)=.ok S->Jn (rows0 ++ rows) S
 | [],rows0,S0,S,i,j,h=>by cases h; rw [Bw]; exact j
 | row :: rows,rows0,S0,S,i,j,h=>by
  rw [A6,qbn] at h
  by_cases c:i=40
  .rw [if_pos c] at h; cases h
  .rw [if_neg c] at h
   dsimp only at h
   cases e:qbz S0 i row with
   | error er=>rw [e] at h; cases h
   | ok S1 =>
    rw [e] at h
    have:=qvq (qxx j e) h
    rw [AG] at this
    exact this
theorem jn_nil:Jn [] []:=⟨λx=>⟨(λh=>nomatch h),(λ⟨_,h,_⟩=>nomatch h)⟩,List.nodup_nil,Ez,(λ_ h=>nomatch h),(λ_ h=>nomatch h)⟩
theorem qvr {rs:List RR} (g:GT rs) (n:Nat):∃ S,qai [] 0 (((qaa rs).take n).map some)=.ok S/\Jn ((qaa rs).take n) S:=by
 have h:=qo4 g
 rw [<- Bl n (qaa rs),Ay] at h
 obtain ⟨S,hS⟩:=qvp h
 exact ⟨S,hS,qvq jn_nil hS⟩
theorem qnr (r:RR):isT (qbg r)=true/\qa3 (qbg r)=r.name:=by
 obtain ⟨x,w,o,d,y,m,u,e,ex⟩:=qo5 r
 rw [e]; exact ⟨rfl,ex⟩
noncomputable def hd (rs:List RR) (k:Nat):Nat:=(qaa (rs.take k)).length
theorem qvs {rs:List RR} {k:Nat} {r:RR} (h:rs[k]?=some r):qaa rs=qaa (rs.take k) ++ (qbg r :: (qce r ++ qaa (rs.drop (k + 1)))):=by
 have e:rs=rs.take k ++ r :: rs.drop (k + 1):=by
  obtain ⟨hk,rfl⟩:=Af.mp h
  rw [List.getElem_cons_drop,Bl]
 conv=>lhs; rw [e]
 unfold qaa
 rw [Bp,Bk,qfj]; rfl
theorem in_pre {rs:List RR} {k n:Nat} {r:RR} (h:rs[k]?=some r) (hn:hd rs k < n):qbg r ∈ (qaa rs).take n:=by
 rw [qvs h,DP]
 refine AE _ ?_
 unfold hd at hn
 obtain ⟨m,hm⟩:∃ m,n - (qaa (rs.take k)).length=m + 1:=⟨n - (qaa (rs.take k)).length - 1,by lia⟩
 rw [hm,List.take_succ_cons]
 exact Ak
theorem hd_le {rs:List RR} {j k:Nat} (h:j <= k):hd rs j <= hd rs k:=by
 unfold hd qaa
 obtain ⟨d,rfl⟩:∃ d,k=j + d:=⟨k - j,by lia⟩
 rw [List.take_add,Bp,Ag]; lia
noncomputable def Bad (rs:List RR) (n:Nat) (row:Rw7) (e:Er):Prop:=n <= (qaa rs).length/\qdb row/\∃ S,qai [] 0 (((qaa rs).take n).map some)=.ok S/\qbz S n row=.error e
section
variable {rs:List RR} (g:GT rs) {n:Nat} (hn:n <= (qaa rs).length)
include g hn
noncomputable def knO (r:RR) (rows:List Rw7):List Str:=r.owes :: (r.opens.toList ++ rows.flatMap λrow=>if qa3 row=r.name then kin row else [])
theorem qvt {k:Nat} {r:RR} (h:rs[k]?=some r) (hk:hd rs k < n) {row:Rw7} (t:isT row=false) (en:qa3 row=r.name) (ok:qdb row) (c:(∃ z ∈ kin row,z ∈ knO r ((qaa rs).take n)) \/ ∀ s,qvc s row=true):Bad rs n row (.unfit n):=by
 obtain ⟨S,hS,j⟩:=qvr g n
 have hm:=in_pre h hk
 cases pn:qar S r.name with
 | none=>exact absurd ((j.nm _).mpr ⟨_,hm,(qnr r).1,(qnr r).2⟩) (qdx.mp pn)
 | some q =>
  obtain ⟨s,hs,es⟩:=qb2 pn
  refine ⟨hn,ok,S,hS,(qfh t).trans (qii (by rw [en]; exact pn) hs ?_)⟩
  unfold qg7
  rcases c with ⟨z,hz,hz2⟩ | c
  .refine Bool.or_eq_true_iff.mpr (.inl (DK.mpr ⟨z,hz,BA.mpr ?_⟩))
   have sm:=Aw hs
   have tt:=j.kd _ hm
   unfold knO at hz2
   have ot:∀ z ∈ r.owes :: r.opens.toList,z ∈ tk (qbg r):=by
    intro z hz
    have rok:=g.ok r (Aw h)
    unfold qbg
    cases eb:r.base with
    | none =>
     obtain ⟨o,eo⟩:=rok.bo eb
     rw [eo] at hz |-
     simpa [tk] using hz
    | some y =>
     rw [rok.bn y eb] at hz
     simp [tk] at hz |-
     exact hz
   rw [<- AY] at hz2
   rcases Ax.mp hz2 with hz2 | hz2
   .exact tt z (ot z hz2) s sm (by rw [es,(qnr r).2])
   .obtain ⟨row2,h2,hz2⟩:=BS.mp hz2
    by_cases e2:qa3 row2=r.name
    .rw [if_pos e2] at hz2
     cases t2:isT row2 with
     | true =>
      cases row2 with
      | term _ _ _ _ _ _ _=>exact nomatch hz2
      | _=>cases t2
     | false=>exact j.kd _ h2 z (by rw [tk_m t2]; exact hz2) s sm (by rw [es,e2])
    .rw [if_neg e2] at hz2; exact nomatch hz2
  .exact Bool.or_eq_true_iff.mpr (.inr (c s))
omit hn in
end
theorem qs2 {names kinds:List Str} {ow:Nat->Nat} {rk:Nat->Int} {rs:List RR} (g:GRs names ow rk kinds rs) (ln:rs.length=names.length):rs.map RR.name=names:=by
 apply BY
 intro k
 rw [An]
 by_cases c:k < names.length
 .have hr:rs[k]?=some (rs[k]'(by lia)):=Aj (by lia)
  rw [hr,qg9 c]
  show some (rs[k]'(by lia)).name=_
  rw [(g k _ hr).nm]
 .rw [By (by lia),By (by lia)]; rfl
theorem qiu {ls:List Str} (h:Lng ls):JoinOk (wS "\n") ls=true/\Txt.join (wS "\n") ls=qev ls:=by
 constructor
 .unfold JoinOk
  rw [StrLaws.joinFits (B:=200) (λp hp=>(h.c p hp).1) (by
   have:=h.n
   rw [show (wS "\n").length=1 by decide +kernel]
   show ls.length * 200 + ls.length * 1 <= 16777216
   lia)]
  rfl
 .show AM.Str.glued _ _=_
  rw [StrLaws.glued_eq_join,newl]
  rfl
theorem qs3 {rows:List Rw7} (h:∀ row ∈ rows,qdb row) (n:rows.length <= 100):Lng (rows.map qak):=by
 refine ⟨by rw [Ab]; exact n,λl hl => ?_,λe => ?_⟩
 .obtain ⟨row,hr,rfl⟩:=AI.mp hl
  have:=qee (h row hr)
  exact ⟨by lia,this.2.1⟩
 .cases rows with
  | nil=>cases e
  | cons r t =>
   rw [A6] at e
   injection e with e1 _
   have:=(qee (h r Ak)).2.2
   rw [e1] at this
   exact this En
noncomputable def spNm9:Sp:=λvs H Q _=>∃ x:Str,vs=[.str x]/\x.length <= 2000/\Q (.bl (nmB x)) H
noncomputable def spWt9:Sp:=λvs H Q _=>∃ (x:Str) (m:Nat),vs=[.str x,.int (m:Int)]/\(m=40 \/ m=20 \/ m=3)/\∀ H',Same H H'->Q (.bl (due x (m:Int))) H'
noncomputable def spGd9:Sp:=λvs H Q _=>∃ (p:Addr) (ws:List Str),vs=[.ref p]/\H p=some (.lst (ws.map V.str))/\ws ≠ []/\ws.length <= 1000/\(∀ x ∈ ws,x.length <= 2000)/\∀ H',Same H H'->Q (.bl (qdp ws).isSome) H'
noncomputable def OkW (b:Nat) (z:Str):Prop:=z.cps.size <= b/\10 ∉ z.cps.toList
noncomputable def spSp9:Sp:=λvs H Q _=>∃ (p:Addr) (ws:List Str) (w:Nat) (c:Int),vs=[.ref p,.int (w:Int),.int c]/\H p=some (.lst (ws.map V.str))/\ws ≠ []/\ws.length <= 10/\(∀ z ∈ ws,OkW 8 z)/\w < 8/\∀ (q:Addr) (ss:List Str) (H':Hp),Same H H'->H' q=some (.lst (ss.map V.str))->ss.length <= 11->(∀ z ∈ ss,OkW 17 z)->Q (.ref q) H'
noncomputable def qqb (c d:Nat):Str:=⟨#[48 + c,48 + d]⟩
noncomputable def qqc (c:Nat):Str:=⟨#[48 + c]⟩
noncomputable def qci (m:Nat):List Str:=(Bh m).map λi:Nat=>nS (1 + (i:Int))
theorem qvu:∀ c d:Fin 10,(qci 40).contains (qqb c.val d.val)=due (qqb c.val d.val) 40/\(qci 20).contains (qqb c.val d.val)=due (qqb c.val d.val) 20/\(qci 3).contains (qqb c.val d.val)=due (qqb c.val d.val) 3:=En
theorem qvv:∀ c:Fin 10,(qci 40).contains (qqc c.val)=due (qqc c.val) 40/\(qci 20).contains (qqc c.val)=due (qqc c.val) 20/\(qci 3).contains (qqc c.val)=due (qqc c.val) 3:=En
theorem qns:((qci 40).all λx=>decide (x.cps.size=1 \/ x.cps.size=2) && x.cps.toList.all fig)=true/\((qci 20).all λx=>(qci 40).contains x)=true/\((qci 3).all λx=>(qci 40).contains x)=true:=En
theorem due_sz {x:Str} {m:Int} (h:due x m=true) (hm:((ts m).length:Int) <= 2):(x.cps.size=1 \/ x.cps.size=2)/\x.cps.toList.all fig=true:=by
 unfold due wnm at h
 simp only [AC,decide_eq_true_eq] at h
 obtain ⟨⟨⟨h1,h2⟩,h3,_⟩,_⟩:=h
 exact ⟨by lia,h3⟩
theorem num_in (x:Str) {m:Nat} (hm:m=40 \/ m=20 \/ m=3):(qci m).contains x=due x (m:Int):=by
 by_cases c:(x.cps.size=1 \/ x.cps.size=2)/\x.cps.toList.all fig=true
 .obtain ⟨c1,c2⟩:=c
  have fg:∀ n ∈ x.cps.toList,48 <= n/\n <= 57:=λn hn=>by
   have:=AQ.mp c2 n hn
   unfold fig at this
   simpa using this
  rw [<- AH] at c1
  rcases c1 with c1 | c1
  .obtain ⟨n,en⟩:=List.length_eq_one_iff.mp c1
   have:=fg n (by rw [en]; exact Ai.mpr rfl)
   have ex:x=qqc (n - 48):=str_ext (by rw [en]; show [n]=[48 + (n - 48)]; rw [show 48 + (n - 48)=n by lia])
   have h:=qvv ⟨n - 48,by lia⟩
   rw [ex]
   rcases hm with rfl | rfl | rfl
   .exact h.1
   .exact h.2.1
   .exact h.2.2
  .obtain ⟨n,n',en⟩:∃ n n',x.cps.toList=[n,n']:=by
    match h:x.cps.toList,c1 with
    | [n,n'],_=>exact ⟨n,n',rfl⟩
   have h1:=fg n (by rw [en]; exact Ak)
   have h2:=fg n' (by rw [en]; exact At _ (Ai.mpr rfl))
   have ex:x=qqb (n - 48) (n' - 48):=str_ext (by rw [en]; show [n,n']=[48 + (n - 48),48 + (n' - 48)]; rw [show 48 + (n - 48)=n by lia,show 48 + (n' - 48)=n' by lia])
   have h:=qvu ⟨n - 48,by lia⟩ ⟨n' - 48,by lia⟩
   rw [ex]
   rcases hm with rfl | rfl | rfl
   .exact h.1
   .exact h.2.1
   .exact h.2.2
 .have d0:due x (m:Int)=false:=by
   cases e:due x (m:Int) with
   | false=>rfl
   | true=>exact absurd (due_sz e (by rcases hm with rfl | rfl | rfl <;> decide +kernel)) c
  have i0:(qci 40).contains x=false:=by
   cases e:(qci 40).contains x with
   | false=>rfl
   | true =>
    have:=AQ.mp qns.1 x (BA.mp e)
    simp only [AC,decide_eq_true_eq] at this
    exact absurd this c
  rw [d0]
  rcases hm with rfl | rfl | rfl
  .exact i0
  .cases e:(qci 20).contains x with
   | false=>rfl
   | true=>rw [AQ.mp qns.2.1 x (BA.mp e)] at i0; cases i0
  .cases e:(qci 3).contains x with
   | false=>rfl
   | true=>rw [AQ.mp qns.2.2 x (BA.mp e)] at i0; cases i0
theorem qxy (c:Nat):(!(!(AM.Str.occurrences az ⟨#[c]⟩ 0 az.length 1).isEmpty)) = !low c:=by
 rw [PyProof.Rows.empty_one az c,qra,Bool.not_not]
 have e:(c ∈ (Bh 26).map (λj=>97 + j)) ↔ (97 <= c/\c <= 122):=by
  constructor
  .intro h
   obtain ⟨j,hj,rfl⟩:=AI.mp h
   have:=Ct.mp hj
   lia
  .intro h
   exact AI.mpr ⟨c - 97,Ct.mpr (by lia),by lia⟩
 unfold low
 rw [<- Eb,decide_eq_decide.mpr e]
noncomputable def strV:V->V
 | .int j=>.str (nS j)
 | _=>.non
noncomputable def nmV9:V->V
 | .str x=>.bl (nmB x)
 | _=>.non
theorem qmu {p G:Hp->Prop} {R:Prop} (m:(∀ x,p x->G x)->R) (l:∀ x,p x->G x):R:=m l
theorem qhd {p G:Hp->Option V->Prop} {R:Prop} (m:(∀ x y,p x y->G x y)->R) (l:∀ x y,p x y->G x y):R:=m l
theorem qvw {ws:List Str} (h:ws.length ≠ 10/\ws.length ≠ 3/\ws.length ≠ 6/\ws.length ≠ 4):qdp ws=none:=by
 have:=qdq h
 rw [qvb] at this
 cases e:qdp ws with
 | none=>rfl
 | some r=>rw [e] at this; cases this
theorem ten {ws:List Str} (h:ws.length=10):∃ a b c d e f g i j k,ws=[a,b,c,d,e,f,g,i,j,k]:=by
 match ws,h with
 | [a,b,c,d,e,f,g,i,j,k],_=>exact ⟨a,b,c,d,e,f,g,i,j,k,rfl⟩
theorem six {ws:List Str} (h:ws.length=6):∃ a b c d e f,ws=[a,b,c,d,e,f]:=by
 match ws,h with
 | [a,b,c,d,e,f],_=>exact ⟨a,b,c,d,e,f,rfl⟩
theorem four {ws:List Str} (h:ws.length=4):∃ a b c d,ws=[a,b,c,d]:=by
 match ws,h with
 | [a,b,c,d],_=>exact ⟨a,b,c,d,rfl⟩
theorem qyj {ws:List Str} (h:ws.length=3):∃ a b c,ws=[a,b,c]:=by
 match ws,h with
 | [a,b,c],_=>exact ⟨a,b,c,rfl⟩
theorem qnt {α:Type} {c:Prop} [Decidable c] (x:α):(if c then some x else none).isSome=decide c:=by by_cases h:c <;> simp [h]
theorem qqd {ws wt:List Str} {w0:Str} (e:ws=w0 :: wt) (h0:w0=wS "still") (h4:ws.length=4):(qdp ws).isSome=(ws.drop 1).all nmB:=by
 obtain ⟨a,b,c,d,rfl⟩:=four h4
 injection e with e1 _
 subst e1 h0
 rw [qnk,qnt]
 simp [Cr,and_assoc]
theorem qg6 {ws wt:List Str} {w0:Str} (e:ws=w0 :: wt) (nt:¬ (w0=wS "term" /\ ws.length=10)) (nl:¬ (w0=wS "longer" /\ ws.length=6)) (ns:¬ (w0=wS "still" /\ ws.length=4)) (n3:¬ ((w0=wS "ends" \/ w0=wS "anew" \/ w0=wS "yields")/\ws.length=3)):(qdp ws).isSome=false:=by
 by_cases h10:ws.length=10
 .obtain ⟨a,b,c,d,e',f,g,i,j,k,rfl⟩:=ten h10
  injection e with e1 _
  subst e1
  rw [qjz,if_neg (λz=>nt ⟨z.1,rfl⟩)]; rfl
 by_cases h6:ws.length=6
 .obtain ⟨a,b,c,d,e',f,rfl⟩:=six h6
  injection e with e1 _
  subst e1
  rw [qnj,if_neg (λz=>nl ⟨z.1,rfl⟩)]; rfl
 by_cases h4:ws.length=4
 .obtain ⟨a,b,c,d,rfl⟩:=four h4
  injection e with e1 _
  subst e1
  rw [qnk,if_neg (λz=>ns ⟨z.1,rfl⟩)]; rfl
 by_cases h3:ws.length=3
 .obtain ⟨a,b,c,rfl⟩:=qyj h3
  injection e with e1 _
  subst e1
  rw [qi9]
  split
  .rw [if_neg (λz=>n3 ⟨.inl z,rfl⟩),if_neg (λz=>n3 ⟨.inr (.inl z),rfl⟩),if_neg (λz=>n3 ⟨.inr (.inr z),rfl⟩)]; rfl
  .rfl
 rw [qvw ⟨h10,h3,h6,h4⟩]; rfl
theorem qlb {ws wt:List Str} {w0:Str} (e:ws=w0 :: wt) (h0:w0=wS "ends" \/ w0=wS "anew" \/ w0=wS "yields") (h3:ws.length=3):(qdp ws).isSome=(ws.drop 1).all nmB:=by
 obtain ⟨a,b,c,rfl⟩:=qyj h3
 injection e with e1 _
 subst e1
 rw [qi9]
 have:(if a=wS "ends" then some (Rw7.ends b c) else if a=wS "anew" then some (.anew b c) else if a=wS "yields" then some (.yields b c) else none).isSome=true:=by
  by_cases z1:a=wS "ends"
  .rw [if_pos z1]; rfl
  .rw [if_neg z1]
   by_cases z2:a=wS "anew"
   .rw [if_pos z2]; rfl
   .rw [if_neg z2]
    rcases h0 with z | z | z
    .exact absurd z z1
    .exact absurd z z2
    .rw [if_pos z]; rfl
 by_cases z:nmB b=true/\nmB c=true
 .rw [if_pos z,this]; simp [z.1,z.2]
 .rw [if_neg z]
  symm
  show ([b,c].all nmB)=false
  cases hb:nmB b with
  | false=>simp [hb]
  | true =>
   cases hc:nmB c with
   | false=>simp [hb,hc]
   | true=>exact absurd ⟨hb,hc⟩ z
theorem qs4 {b:Bool} (h:(!b)=true):b=false:=by cases b <;> simp_all
theorem qs5 {b:Bool} (h:¬ (!b)=true):b=true:=by cases b <;> simp_all
theorem nd_t {x y:Str} (h:(!decide (V.str x=V.str y))=true):¬ x=y:=λz=>by rw [z] at h; simp at h
theorem nd_f {x y:Str} (h:¬ (!decide (V.str x=V.str y))=true):x=y:=by
 by_cases z:x=y
 .exact z
 .rw [decide_eq_false (λq=>z (V.str.inj q))] at h; exact absurd rfl h
theorem qxz {d a b:Str}:inV (.str d) ([a,b].map V.str)=decide (d=a \/ d=b):=by
 rw [qcy,Dj]
 simp only [Ao,Ar,or_false]
theorem eq2S (a b c d:Str):qh0 [V.str a,V.str b] [V.str c,V.str d]=decide (a=c/\b=d):=by
 show (decide (a=c) && (decide (b=d) && true))=_
 rw [Bool.and_true,<- Eb]
theorem qo8 {ws wt:List Str} {w0 a b c d e f:Str} (e0:ws=w0 :: wt) (h0:w0=wS "longer") (e6:ws=[a,b,c,d,e,f]):(qdp ws).isSome=(due d 20 && decide (e=wS "times") && due f 3 && [b,c].all nmB):=by
 subst e6
 injection e0 with e1 _
 subst e1 h0
 rw [qnj,qnt]
 simp only [true_and,Cr,List.all_nil,Bool.and_true,Eb,Bool.decide_eq_true]
 cases due d 20 <;> cases due f 3 <;> cases nmB b <;> cases nmB c <;> simp
theorem qs6 {ws wt:List Str} {w0 a x b w c o d y m u:Str} (e0:ws=w0 :: wt) (h0:w0=wS "term") (e6:ws=[a,x,b,w,c,o,d,y,m,u]):(qdp ws).isSome=(decide (b=wS "of" /\ c=wS "due") && decide (d=wS "from" \/ d=wS "behind") && due m 40 && qbv.contains u && [x,w,o,y].all nmB):=by
 subst e6
 injection e0 with e1 _
 subst e1 h0
 rw [qjz,qnt]
 simp only [true_and,Cr,List.all_nil,Bool.and_true,Eb,Bool.decide_eq_true]
 cases due m 40 <;> cases qbv.contains u <;> cases nmB x <;> cases nmB w <;> cases nmB o <;> cases nmB y <;> simp [Bool.and_assoc]
theorem alg {H H1:Hp} {p:Addr} {o:HO} (h:upd H p o=H1) (n:H p=none):Same H H1/\H1 p=some o:=by subst h; exact ⟨zh n,qu⟩
theorem qs7 {x:Str} {l u:Option Int} {c:Nat} (h:c ∈ (Cw x l u).cps.toList):c ∈ x.cps.toList:=by
 unfold Cw at h
 split at h
 .exact h
 .have h:c ∈ List.filterMap (λi=>x.cps[i]?) (AM.Str.strSliceIndices l u 1 x.length):=by simpa using h
  obtain ⟨i,_,hi⟩:=Ej.mp h
  exact Array.mem_toList_iff.mpr (Array.mem_of_getElem? hi)
theorem OkW.slice {b:Nat} {x:Str} (h:OkW b x) (l u:Option Int):OkW b (Cw x l u):=⟨Au (Dm x l u) h.1,λz=>h.2 (qs7 z)⟩
theorem OkW.app {b d:Nat} {x y:Str} (h:OkW b x) (g:OkW d y):OkW (b + d) (x ++ y):=by
 refine ⟨?_,λz => ?_⟩
 .show (x ++ y).length <= _
  rw [qfo]; exact Nat.add_le_add h.1 g.1
 .rw [CS,Dq] at z
  rcases Ax.mp z with z | z
  .exact h.2 z
  .exact g.2 z
theorem OkW.up {b d:Nat} {x:Str} (h:OkW b x) (g:b <= d:=by decide):OkW d x:=⟨Au h.1 g,h.2⟩
noncomputable def okB (b:Nat) (x:Str):Bool:=decide (x.cps.size <= b) && !x.cps.toList.contains 10
theorem okB_ok {b:Nat} {x:Str} (h:okB b x=true):OkW b x:=by
 unfold okB at h
 rw [AC,decide_eq_true_eq,Bool.not_eq_true',Dj,decide_eq_false_iff_not] at h
 exact h
noncomputable def oddL:List Str:=[wS "0",wS "00",wS "41",wS "21",wS "4",wS "03",wS "+3",wS "-1",wS "1.0",wS "",wS "term",wS "due"] ++ [wS "behind",wS "Days",wS "day",wS "court",wS "times",wS "to",wS "end",wS "from"] ++ [wS "of",wS "weeks",wS "still",wS "longer",wS "abcdefghi",wS "99999999999999999"] ++ [wS "week"]
theorem odd_ok:oddL.all (okB 17)=true:=En
theorem qqe {L:List Str} {b:Nat} (h:L.all (okB b)=true) {j:Nat} (hj:j < L.length):∃ x,atI (L.map V.str) (j:Int)=some (.str x)/\OkW b x:=⟨L[j],qaz (by rw [An,Aj hj]; rfl),okB_ok (AQ.mp h _ (Bv hj))⟩
noncomputable def sgT:Str:=wS "AZ0 -_.\t`{/:"
theorem qvx:(sgT.cps.toList.all λc=>c != 10)=true/\sgT.cps.toList.length=12/\sgT.length <= 100000:=En
theorem sg_at {j:Nat} (hj:j < 12):∃ c,atI sgT.cps.toList (j:Int)=some c/\OkW 1 ⟨#[c]⟩:=by
 have l:j < sgT.cps.toList.length:=by rw [qvx.2.1]; exact hj
 refine ⟨sgT.cps.toList[j],qaz (Aj l),A1 1,λz => ?_⟩
 have h:=AQ.mp qvx.1 _ (Bv l)
 have z:(10:Nat)=sgT.cps.toList[j]:=by simpa using z
 rw [<- z] at h
 exact absurd h Ez
noncomputable def qlu (H H2:Hp) (y:Option V):Prop:=Same H H2/\∃ (q:Addr) (ss:List Str),y=some (.ref q)/\H2 q=some (.lst (ss.map V.str))/\ss.length <= 2/\∀ z ∈ ss,OkW 17 z
theorem qlc {b:Nat} {x:Str} (h:OkW b x):∀ z ∈ [x],OkW b z:=λz hz=>by rw [Ai.mp hz]; exact h
theorem useO {p G:Option V->Prop} {R:Prop} (m:(∀ y,p y->G y)->R) (l:∀ y,p y->G y):R:=m l
theorem six_at {k:Nat} (h:k < 6):∃ v:Nat,atI [V.int 8,.int 9,.int 2,.int 4,.int 6,.int 8] (k:Int)=some (.int (v:Int))/\v < 10:=by
 match k,h with
 | 0,_=>exact ⟨8,rfl,Ez⟩
 | 1,_=>exact ⟨9,rfl,Ez⟩
 | 2,_=>exact ⟨2,rfl,Ez⟩
 | 3,_=>exact ⟨4,rfl,Ez⟩
 | 4,_=>exact ⟨6,rfl,Ez⟩
 | 5,_=>exact ⟨8,rfl,Ez⟩
theorem qvy {b:Nat} {x y:Str} (h:OkW b x) (g:OkW b y):∀ z ∈ [x,y],OkW b z:=λz hz=>by
 rcases Ao.mp hz with e | e
 .rw [e]; exact h
 .rw [Ai.mp e]; exact g
theorem emp_ok {b:Nat}:OkW b (wS ""):=⟨Bt _,(show 10 ∉ (wS "").cps.toList by decide +kernel)⟩
structure Fk (ks:List Str) (t:Nat):Prop where
 l:ks.length=52
 nd:ks.Nodup
 ok:∀ x ∈ ks,qbt x
 t:t < 10
noncomputable def nAC (k:Str):Bool := !decide (k=wS "a" \/ k=wS "c")
noncomputable def fA (ks:List Str) (t:Nat):RR:=⟨wS "a",wS "b",nm ks t,some (nm ks (51 - t)),none,40,wS "weeks",(ks.take 40).drop 11,[],[],none,[]⟩
noncomputable def fC (n:Nat) (ks:List Str):RR:=⟨wS "c",wS "c",wS "a",some (wS "c"),none,1,wS "days",[],((ks.take 14).filter nAC).take n,[],none,[]⟩
theorem qgt:qbt (wS "a"):=⟨En,En,En⟩
theorem qld:qbt (wS "b"):=⟨En,En,En⟩
theorem qle:qbt (wS "c"):=⟨En,En,En⟩
theorem qx0 {L:List Str} (nd:L.Nodup) (h:∀ x ∈ L,x=wS "a" \/ x=wS "c"):L.length <= 2:=by
 match L,nd,h with
 | [],_,_=>exact Bt _
 | [_],_,_=>exact Cv _
 | [_,_],_,_=>exact A1 _
 | x :: y :: z :: r,nd,h =>
  have n1:=AW.mp nd
  have n2:=AW.mp n1.2
  have hxy:x ≠ y:=λe=>n1.1 (by rw [e]; exact Ak)
  have hxz:x ≠ z:=λe=>n1.1 (by rw [e]; exact At _ Ak)
  have hyz:y ≠ z:=λe=>n2.1 (by rw [e]; exact Ak)
  rcases h x (by simp) with a | a <;> rcases h y (by simp) with b | b <;> rcases h z (by simp) with c | c <;> simp_all
theorem qo9 (p:Str->Bool):∀ l:List Str,l.length=(l.filter p).length + (l.filter λx => !p x).length
 | []=>rfl
 | x :: l=>by
  have ih:=qo9 p l
  rw [DL,DL]
  cases p x <;> simp <;> lia
theorem Fk.anew {ks:List Str} {t:Nat} (f:Fk ks t):9 <= ((ks.take 14).filter nAC).length/\((ks.take 14).filter nAC).length <= 14:=by
 have l14:(ks.take 14).length=14:=by rw [Ap,f.l]; rfl
 have h1:=qo9 nAC (ks.take 14)
 have h2:((ks.take 14).filter λx => !nAC x).length <= 2:=qx0 ((f.nd.sublist (B1 _ _)).sublist List.filter_sublist) λx hx=>by
  have:=(Dx.mp hx).2
  unfold nAC at this
  rw [Bool.not_not] at this
  exact of_decide_eq_true this
 lia
theorem qs8 {T E D:List Str} {x y:Str} (h:(T ++ E ++ D).Nodup) (hx:x ∈ T) (hy:y ∈ D):([x] ++ E ++ [y]).Nodup:=by
 rw [AO] at h
 obtain ⟨h1,h2,h3⟩:=h
 rw [AO] at h1
 obtain ⟨h4,h5,h6⟩:=h1
 rw [AO,AO]
 refine ⟨⟨by simp,h5,λa ha b hb => ?_⟩,by simp,λa ha b hb => ?_⟩
 .rw [Ai.mp ha]; exact h6 x hx b hb
 .rw [Ai.mp hb]
  rcases Ax.mp ha with z | z
  .rw [Ai.mp z]; exact h3 x (Bi _ hx) y hy
  .exact h3 a (AE _ z) y hy
theorem Fk.at {ks:List Str} {t:Nat} (f:Fk ks t) {i:Nat} (h:i < 52):ks[i]?=some (nm ks i):=by
 unfold nm
 rw [AU,Aj (by rw [f.l]; exact h)]; rfl
theorem Fk.mem {ks:List Str} {t:Nat} (f:Fk ks t) {i:Nat} (h:i < 52):nm ks i ∈ ks:=Aw (f.at h)
theorem Fk.kA {ks:List Str} {t:Nat} (f:Fk ks t):(qao (fA ks t)).Nodup/\∀ x ∈ qao (fA ks t),qbt x:=by
 have ht:=f.t
 have e:qao (fA ks t)=[nm ks t] ++ (ks.take 40).drop 11 ++ [nm ks (51 - t)]:=by
  unfold qao fA
  simp [stL]
 have sp:ks=ks.take 11 ++ (ks.take 40).drop 11 ++ ks.drop 40:=by
  have h1:(ks.take 40).take 11=ks.take 11:=by rw [List.take_take]; rfl
  rw [<- h1,Bl,Bl]
 rw [e]
 refine ⟨qs8 (T:=ks.take 11) (D:=ks.drop 40) (by rw [<- sp]; exact f.nd) ?_ ?_,λx hx=>f.ok x ?_⟩
 .exact Aw (i:=t) (by rw [Du (by lia)]; exact f.at (by lia))
 .exact Aw (i:=11 - t) (by rw [D5,show 40 + (11 - t)=51 - t by lia]; exact f.at (by lia))
 .rcases Ax.mp hx with z | z
  .rcases Ax.mp z with z | z
   .rw [Ai.mp z]; exact f.mem (by lia)
   .exact Bu (B5 z)
  .rw [Ai.mp z]; exact f.mem (by lia)
theorem Fk.okA {ks:List Str} {t:Nat} (f:Fk ks t):RrOk (fA ks t):=⟨qgt,qld,f.kA.2,(λ_ h=>nomatch h),(λ_=>⟨_,rfl⟩),(λ_ h=>nomatch h),(λ_ h=>nomatch h),⟨(show (1:Int) <= 40 by decide),(show (40:Int) <= 40 by decide)⟩,At _ Ak,(λ_ h=>nomatch h),by
 refine ⟨?_,(show (0:Nat) <= 100 by decide),(show (0:Nat) <= 100 by decide),(show (0:Nat) <= 100 by decide)⟩
 show ((ks.take 40).drop 11).length <= 100
 rw [AB,Ap]; lia⟩
theorem Fk.kC {ks:List Str} {t:Nat} (f:Fk ks t) (n:Nat):(qao (fC n ks)).Nodup/\∀ x ∈ qao (fC n ks),qbt x:=by
 have e:qao (fC n ks)=[wS "a"] ++ ((ks.take 14).filter nAC).take n ++ [wS "c"]:=by
  unfold qao fC
  simp [stL]
 have hm:∀ x ∈ ((ks.take 14).filter nAC).take n,x ∈ ks/\x ≠ wS "a" /\ x ≠ wS "c" := λx hx=>by
  obtain ⟨h1,h2⟩:=Dx.mp (Bu hx)
  unfold nAC at h2
  rw [Bool.not_eq_true',decide_eq_false_iff_not] at h2
  exact ⟨Bu h1,λz=>h2 (.inl z),λz=>h2 (.inr z)⟩
 have ac:wS "a" ≠ wS "c" := by decide +kernel
 rw [e]
 refine ⟨?_,λx hx => ?_⟩
 .rw [AO,AO]
  refine ⟨⟨by simp,((f.nd.sublist (B1 _ _)).sublist List.filter_sublist).sublist (B1 _ _),λa ha b hb z => ?_⟩,by simp,λa ha b hb z => ?_⟩
  .rw [Ai.mp ha] at z; exact (hm b hb).2.1 z.symm
  .rw [Ai.mp hb] at z
   rcases Ax.mp ha with y | y
   .rw [Ai.mp y] at z; exact ac z
   .exact (hm a y).2.2 z
 .rcases Ax.mp hx with z | z
  .rcases Ax.mp z with z | z
   .rw [Ai.mp z]; exact qgt
   .exact f.ok x (hm x z).1
  .rw [Ai.mp z]; exact qle
theorem Fk.okC {ks:List Str} {t:Nat} (f:Fk ks t) (n:Nat):RrOk (fC n ks):=⟨qle,qle,(f.kC n).2,(λ_ h=>nomatch h),(λ_=>⟨_,rfl⟩),(λ_ h=>nomatch h),(λ_ h=>nomatch h),⟨(show (1:Int) <= 1 by decide),(show (1:Int) <= 40 by decide)⟩,Ak,(λ_ h=>nomatch h),by
 refine ⟨(show (0:Nat) <= 100 by decide),?_,(show (0:Nat) <= 100 by decide),(show (0:Nat) <= 100 by decide)⟩
 show (((ks.take 14).filter nAC).take n).length <= 100
 have:=f.anew
 rw [Ap]; lia⟩
theorem Fk.rows {ks:List Str} {t:Nat} (n:Nat):qaa [fA ks t,fC n ks]=(qbg (fA ks t) :: ((ks.take 40).drop 11).map (.ends (wS "a"))) ++ (qbg (fC n ks) :: (((ks.take 14).filter nAC).take n).map (.anew (wS "c"))):=by
 unfold qaa
 simp only [Bk,List.flatMap_nil,qfj,qce,fA,fC,qgq,B4,Bw,Bd]
theorem Fk.len {ks:List Str} {t:Nat} (f:Fk ks t):(qaa [fA ks t,fC 9 ks]).length=40:=by
 have:=f.anew
 rw [Fk.rows]
 simp only [Ag,Aq,Ab,AB,Ap,f.l]
 lia
theorem Fk.take {ks:List Str} {t:Nat} (f:Fk ks t):(qaa [fA ks t,fC 14 ks]).take 40=qaa [fA ks t,fC 9 ks]:=by
 have l:=f.l
 rw [Fk.rows,Fk.rows,DP]
 have l30:(qbg (fA ks t) :: ((ks.take 40).drop 11).map (Rw7.ends (wS "a"))).length=30:=by
  simp only [Aq,Ab,AB,Ap,l]; rfl
 rw [l30,Bs (by rw [l30]; decide),show 40 - 30=9 + 1 from rfl,List.take_succ_cons,<- B7,List.take_take]
 rfl
theorem Fk.gt {ks:List Str} {t:Nat} (f:Fk ks t):GT [fA ks t,fC 9 ks]:=by
 have two:∀ {p:RR->Prop},p (fA ks t)->p (fC 9 ks)->∀ r ∈ [fA ks t,fC 9 ks],p r:=λh1 h2 r hr=>by
  rcases Ao.mp hr with e | e
  .rw [e]; exact h1
  .rw [Ai.mp e]; exact h2
 refine ⟨two f.okA (f.okC 9),two f.kA.1 (f.kC 9).1,two (show (0:Nat) <= 2 by decide) (show (0:Nat) <= 2 by decide),(by show [wS "a",wS "c"].Nodup; decide +kernel),(show (2:Nat) <= 6 by decide),two (λ_ h=>nomatch h) (λ_ h=>nomatch h),two ⟨List.nodup_nil,λ_ h=>nomatch h⟩ ⟨List.nodup_nil,λ_ h=>nomatch h⟩,BQ f.len⟩
theorem Fk.okAll {ks:List Str} {t:Nat} (f:Fk ks t) (n:Nat):∀ row ∈ qaa [fA ks t,fC n ks],qdb row:=qla λr hr=>by
 rcases Ao.mp hr with e | e
 .rw [e]; exact f.okA
 .rw [Ai.mp e]; exact f.okC n
theorem qmv {rs:List RR} (g:GT rs) {n:Nat} (hn:n <= (qaa rs).length) {S:List RR} (h:qai [] 0 (((qaa rs).take n).map some)=.ok S) {tl:List Str} {e:Er} (he:qai S n (qgn tl)=.error e):qda (((qaa rs).take n).map qak ++ tl)=.error e:=by
 have oks:=qla g.ok
 have:qai [] 0 (qgn (((qaa rs).take n).map qak ++ tl))=.error e:=by
  unfold qgn
  rw [Ay,qds]
  rw [show (((qaa rs).take n).map qak).map opR=((qaa rs).take n).map some from qms λrow h=>oks row (Bu h),h]
  dsimp only
  rw [Ab,Ap,Nat.min_eq_left hn,Db]
  exact he
 unfold qda
 rw [this]
theorem qvz {rs:List RR} (g:GT rs) {n:Nat} (hn:n <= (qaa rs).length) {x:Str} (h:n=40 \/ opR x=none) (tl:List Str):qda (((qaa rs).take n).map qak ++ (x :: tl))=.error (.rule n):=by
 obtain ⟨S,h1,_⟩:=qvr g n
 refine qmv g hn h1 ?_
 show qai S n (opR x :: _)=_
 rw [qbn]
 by_cases c:n=40
 .rw [if_pos c]
 .rw [if_neg c]
  rcases h with z | z
  .exact absurd z c
  .rw [z]
theorem qx1 {rs:List RR} (g:GT rs) {n:Nat} {row:Rw7} {e:Er} (b:Bad rs n row e) (n40:n ≠ 40) (tl:List Str):qda (((qaa rs).take n).map qak ++ (qak row :: tl))=.error e:=by
 obtain ⟨hn,ok,S,hS,hr⟩:=b
 refine qmv g hn hS ?_
 show qai S n (opR (qak row) :: _)=_
 rw [qj1 ok]
 exact qk3 n40 hr _
theorem rr_nr {rs:List RR} {i j:Nat} (row:Rw7):qbz rs i row ≠ .error (.rule j):=by
 intro h
 cases row <;> simp only [qbz,qe4,qih] at h <;> (repeat' split at h) <;> cases h
theorem qrk:∀ {l:List (Option Rw7)} {rs:List RR} {i j:Nat},(∀ o ∈ l,o.isSome=true)->i + l.length <= 40->qai rs i l ≠ .error (.rule j)
 | [],_,_,_,_,_=>λh=>by cases h
 | o :: l,rs,i,j,hs,hl=>λh=>by
  rw [Aq] at hl
  rw [qbn,if_neg (by lia)] at h
  have ho:=hs o Ak
  cases o with
  | none=>cases ho
  | some row =>
   dsimp only at h
   cases e:qbz rs i row with
   | error e'=>rw [e] at h; cases h; exact rr_nr row e
   | ok rs'=>rw [e] at h; exact qrk (λo h=>hs o (At _ h)) (by lia) h
theorem st_nr {rs:List RR} {i j:Nat} (row:Rw7):qb6 rs i row ≠ .error (.rule j):=by
 intro h
 cases row <;> simp only [qb6,qdc] at h <;> (repeat' split at h) <;> cases h
theorem qv0:∀ {l:List Rw7} {rs:List RR} {i j:Nat},qau rs i l ≠ .error (.rule j)
 | [],_,_,_=>λh=>by cases h
 | row :: l,rs,i,j=>λh=>by
  rw [qdr] at h
  cases e:qb6 rs i row with
  | error e'=>rw [e] at h; cases h; exact st_nr row e
  | ok rs'=>rw [e] at h; exact qv0 h
theorem qx2 {ls:List Str} (hs:∀ x ∈ ls,(opR x).isSome=true) (hl:ls.length <= 40) {j:Nat}:qda ls ≠ .error (.rule j):=by
 intro h
 unfold qda at h
 cases e:qai [] 0 (qgn ls) with
 | error e' =>
  rw [e] at h; cases h
  refine qrk (λo ho => ?_) (by unfold qgn; rw [Ab]; lia) e
  obtain ⟨x,hx,rfl⟩:=AI.mp ho
  exact hs x hx
 | ok rs=>rw [e] at h; exact qv0 h
theorem Fk.early {ks:List Str} {t:Nat} (f:Fk ks t) {n:Nat} (h1:1 <= n) (h39:n <= 39) (tl:List Str):qda (((qaa [fA ks t,fC 14 ks]).take n).map qak ++ (qak (.longer (wS "a") (nm ks t) 7 1) :: tl))=.error (.unfit n):=by
 have e:(qaa [fA ks t,fC 14 ks]).take n=(qaa [fA ks t,fC 9 ks]).take n:=by
  rw [<- f.take,List.take_take,Nat.min_eq_left (by lia)]
 rw [e]
 refine qx1 f.gt (qvt (row:=.longer (wS "a") (nm ks t) 7 1) f.gt (k:=0) (r:=fA ks t) (by rw [f.len]; lia) rfl ?_ rfl rfl ⟨qgt,f.ok _ (f.mem (by have:=f.t; lia)),Ez,Ez⟩ (.inl ⟨nm ks t,Ak,Ak⟩)) (by lia) tl
 exact h1
theorem qa2 (rows:List Rw7):(qbh rows).length=rows.length:=by unfold qbh; rw [Ab,Ab]
theorem qmw (a b c:Str):a ++ b ++ c=a ++ (b ++ c):=str_ext (by simp only [qdo,AG])
theorem lineE (k:Str):wS "ends a " ++ k=qak (.ends (wS "a") k):=by
 rw [<- qmn,show wS "ends a " = wS "ends " ++ wS "a" ++ wS " " by decide +kernel]
theorem lineN (k:Str):wS "anew c " ++ k=qak (.anew (wS "c") k):=by
 rw [<- qmo,show wS "anew c " = wS "anew " ++ wS "c" ++ wS " " by decide +kernel]
theorem lineL (k:Str):wS "longer a " ++ k ++ wS " 7 times 1" = qak (.longer (wS "a") k 7 1):=by
 rw [<- qjk,show wS "longer a " = wS "longer " ++ wS "a" ++ wS " " by decide +kernel,show wS " 7 times 1" = wS " " ++ nS 7 ++ wS " times " ++ nS 1 by decide +kernel]
 simp only [qmw]
theorem lineA (ks:List Str) (t:Nat):wS "term a of b due " ++ nm ks t ++ wS " from " ++ nm ks (51 - t) ++ wS " 40 weeks" = qak (qbg (fA ks t)):=by
 rw [<- qmm,show wS "term a of b due " = wS "term " ++ wS "a" ++ wS " of " ++ wS "b" ++ wS " due " by decide +kernel,show wS " from " = wS " " ++ wS "from " by decide +kernel,show wS " 40 weeks" = wS " " ++ nS 40 ++ wS " " ++ wS "weeks" by decide +kernel]
 unfold fA qk6
 simp only [qmw,Option.getD_some]
theorem lineC (n:Nat) (ks:List Str):wS "term c of c due a from c 1 days" = qak (qbg (fC n ks)):=by
 show _=qak (.term (wS "c") (wS "c") (wS "a") false (wS "c") 1 (wS "days"))
 decide +kernel
noncomputable def spFo9 (K:Ae):Sp:=λvs H Q _=>∃ (l:Addr) (ns:List Int),vs=[.ref l]/\SqL K H l (ns.map V.int)/\∀ (q:Addr) (H':Hp) (ks:List Str) (t:Nat),Same H H'->H' q=some (.lst (qbh (qaa [fA ks t,fC 14 ks])))->Fk ks t->Q (.ref q) H'
theorem qlf (rows:List Rw7) (n:Nat) (y:Str):((rows.take n).map qak ++ [y] ++ (rows.drop n).map qak).map V.str=(qbh rows).take n ++ [V.str y] ++ (qbh rows).drop n:=by
 unfold qbh
 rw [Ay,Ay,B7,B7,Cs,Cs]; rfl
theorem qnu {rows:List Rw7} (ok:∀ row ∈ rows,qdb row) (l:rows.length <= 90) (n:Nat) {x:Str} (hx:OkW 200 x) (ne:rows=[]->x ≠ wS ""):Lng ((rows.take n).map qak ++ [x] ++ (rows.drop n).map qak):=by
 have ln:((rows.take n).map qak ++ [x] ++ (rows.drop n).map qak).length=rows.length + 1:=by
  rw [Ag,Ag,Ab,Ab,Ap,AB]
  show _ + 1 + _=_
  lia
 refine ⟨by rw [ln]; lia,λy hy => ?_,λz => ?_⟩
 .rcases Ax.mp hy with hy | hy
  .rcases Ax.mp hy with hy | hy
   .obtain ⟨r,hr,rfl⟩:=AI.mp hy
    have:=qee (ok r (Bu hr))
    exact ⟨by lia,this.2.1⟩
   .rw [Ai.mp hy]; exact hx
  .obtain ⟨r,hr,rfl⟩:=AI.mp hy
   have:=qee (ok r (B5 hr))
   exact ⟨by lia,this.2.1⟩
 .rw [z] at ln
  have l0:rows.length=0:=(CF ln).symm
  have e:=List.length_eq_zero_iff.mp l0
  rw [e] at z
  exact ne e (by simpa using z)
noncomputable def spEa9 (K:Ae):Sp:=λvs H Q _=>∃ (l:Addr) (ns:List Int),vs=[.ref l]/\SqL K H l (ns.map V.int)/\∀ H',Same H H'->Q (.bl true) H'
theorem Fk.lenAll {ks:List Str} {t:Nat} (f:Fk ks t):(qaa [fA ks t,fC 14 ks]).length <= 50:=by
 rw [Fk.rows]
 simp only [Ag,Aq,Ab,AB,Ap]
 lia
theorem jl17 {c:Nat}:∀ {ps:List (List Nat)},(∀ p ∈ ps,p.length <= 17)->(jl c ps).length <= 18 * ps.length
 | [],_=>A1 _
 | [x],h=>by
  have:=h x Ak
  show x.length <= 18 * 1
  lia
 | x :: y :: r,h=>by
  have h1:=h x Ak
  have h2:=jl17 (c:=c) (ps:=y :: r) λp hp=>h p (At _ hp)
  show (x ++ c :: jl c (y :: r)).length <= 18 * (r.length + 1 + 1)
  rw [Ag,Aq]
  rw [Aq] at h2
  lia
theorem qyk {c d:Nat} (ne:d ≠ c):∀ {ps:List (List Nat)},(∀ p ∈ ps,d ∉ p)->d ∉ jl c ps
 | [],_=>by show d ∉ ([]:List Nat); exact Ar
 | [x],h=>h x Ak
 | x :: y :: r,h=>by
  have h2:=qyk ne (ps:=y :: r) λp hp=>h p (At _ hp)
  show d ∉ x ++ c :: jl c (y :: r)
  intro z
  rcases Ax.mp z with z | z
  .exact h x Ak z
  .rcases Ao.mp z with z | z
   .exact ne z
   .exact h2 z
theorem qv1 {ws:List Str} (l:ws.length <= 11) (h:∀ z ∈ ws,OkW 17 z):JoinOk (wS " ") ws=true/\OkW 200 (Txt.join (wS " ") ws):=by
 constructor
 .unfold JoinOk
  rw [StrLaws.joinFits (B:=17) (λp hp=>(h p hp).1) (by
   rw [show (wS " ").length=1 by decide +kernel]
   show ws.length * 17 + ws.length * 1 <= 16777216
   lia)]
  rfl
 .have e:Txt.join (wS " ") ws=Dw ⟨#[32]⟩ ws:=by
   show AM.Str.glued _ _=_
   rw [StrLaws.glued_eq_join,qha]
  rw [e]
  have e2:(Dw ⟨#[32]⟩ ws).cps.toList=jl 32 (ws.map λp=>p.cps.toList):=qc4 32 _
  refine ⟨?_,?_⟩
  .rw [<- AH,e2]
   have:=jl17 (c:=32) (ps:=ws.map λp=>p.cps.toList) λp hp=>by
    obtain ⟨z,hz,rfl⟩:=AI.mp hp
    rw [AH]; exact (h z hz).1
   rw [Ab] at this
   lia
  .rw [e2]
   refine qyk Ez λp hp => ?_
   obtain ⟨z,hz,rfl⟩:=AI.mp hp
   exact (h z hz).2
theorem qrl {row:Rw7} (h:qdb row):qax row ≠ []/\(qax row).length <= 10/\∀ z ∈ qax row,OkW 8 z :=
 ⟨by cases row <;> exact C3 _ _,by cases row <;> exact Bz rfl,λz hz=>⟨(qgp h z hz).2,(qgp h z hz).1 10 (.inr rfl)⟩⟩
noncomputable def qhe:List Rw7:=[.ends (wS "zz") (wS "zz"),.term (wS "a") (wS "b") (wS "c") false (wS "d") 40 (wS "court"),.longer (wS "a") (wS "b") 20 3,.still (wS "a") (wS "b") (wS "c"),.yields (wS "a") (wS "b")]
theorem nmok_d:qbt (wS "d"):=⟨En,En,En⟩
theorem qv2:qbt (wS "zz"):=⟨En,En,En⟩
theorem qx3:∀ row ∈ qhe,qdb row:=λrow h=>by
 unfold qhe at h
 simp only [Ao,Ar,or_false] at h
 rcases h with rfl | rfl | rfl | rfl | rfl
 .exact ⟨qv2,qv2⟩
 .exact ⟨qgt,qld,qle,nmok_d,Ez,En⟩
 .exact ⟨qgt,qld,Ez,Ez⟩
 .exact ⟨qgt,qld,qle⟩
 .exact ⟨qgt,qld⟩
theorem qqf:qbh qhe=[V.str (wS "ends zz zz"),.str (wS "term a of b due c from d 40 court"),.str (wS "longer a b 20 times 3"),.str (wS "still a b c"),.str (wS "yields a b")]:=by
 have:qhe.map qak=[wS "ends zz zz",wS "term a of b due c from d 40 court",wS "longer a b 20 times 3",wS "still a b c",wS "yields a b"]:=En
 unfold qbh
 rw [this]; rfl
structure BkT (rs:List RR):Prop where
 gt:GT rs
 rk:∃ rk:Nat->Int,∀ k b,bo (bsR rs) k=some b->rk b < rk k
theorem Fk.bk {ks:List Str} {t:Nat} (f:Fk ks t):BkT [fA ks t,fC 9 ks]:=⟨f.gt,λ_=>0,λk b e=>by
 unfold bo bsR at e
 rw [AU,An] at e
 match k with
 | 0=>cases e
 | 1=>cases e
 | k + 2=>cases e⟩
theorem qv3 {rows:List Rw7} {i:Nat} (h:i < rows.length) (ok:∀ row ∈ rows,qdb row):∃ row,atI (qbh rows) (i:Int)=some (.str (qak row))/\qdb row:=⟨rows[i],qaz (by unfold qbh; rw [An,An,Aj h]; rfl),ok _ (Bv h)⟩
noncomputable def PW (H0 H:Hp) (y:Option V) (b n:Nat):Prop:=Same H0 H/\∃ (q:Addr) (ws:List Str),y=some (.ref q)/\H q=some (.lst (ws.map V.str))/\ws.length <= n/\∀ z ∈ ws,OkW b z
theorem qx4 {rs:List RR} {k:Nat} {r:RR} (h:rs[k]?=some r):hd rs (k + 1)=hd rs k + (qcz r).length:=by
 unfold hd qaa
 rw [qbs h,Bp,Ag]
 simp [Bk]
noncomputable def P3 (H0 J:Hp) (y2 y4:Option V):Prop:=Same H0 J/\∃ (rs:List RR) (pn qr:Addr),y2=some (.ref pn)/\y4=some (.ref qr)/\J pn=some (.lst ((rs.map RR.name).map V.str))/\J qr=some (.lst (qbh (qaa rs)))/\BkT rs
noncomputable def PW8 (H0 J:Hp) (y:Option V):Prop:=Same H0 J/\∃ (q:Addr) (ws:List Str),y=some (.ref q)/\J q=some (.lst (ws.map V.str))/\ws ≠ []/\ws.length <= 10/\∀ z ∈ ws,OkW 8 z
noncomputable def PW17 (H0 J:Hp) (y:Option V):Prop:=Same H0 J/\∃ (q:Addr) (ws:List Str),y=some (.ref q)/\J q=some (.lst (ws.map V.str))/\ws.length <= 11/\∀ z ∈ ws,OkW 17 z
theorem spf {x:Str} (h:x.length <= 300):x.length <= A0/\(BE x (wS " ")).length <= A0/\(AM.Str.partsBetween x (AM.Str.occurrences x (wS " ") 0 x.length (x.length + 1)) (wS " ").length).length <= A0:=by
 obtain ⟨sl1,sl2⟩:=qgx x 32
 rw [<- qha] at sl1 sl2
 have eb:=qe2 x 32
 rw [<- qha] at eb
 exact ⟨qae (Au h Ez),qae (Au sl1 (by lia)),qae (Au eb (by lia))⟩
theorem qv4 (x:Str):BE x (wS " ") ≠ []:=by rw [qha]; exact qh6 x 32
theorem qx5:Lng []:=⟨Ez,(λ_ h=>nomatch h),(λz=>nomatch z)⟩
theorem qv5:wS "" = qev []:=En
noncomputable def PAt (N:Nat) (row:Str) (H0 J:Hp) (y:Option V):Prop:=Same H0 J/\∃ n:Nat,y=some (.int (n:Int))/\n <= N/\(n=40 \/ opR row=none)
theorem sp_sm {x:Str} (h:OkW 200 x):(BE x (wS " ")).length <= 1000/\∀ z ∈ BE x (wS " "),z.length <= 2000:=by
 obtain ⟨sl1,sl2⟩:=qgx x 32
 rw [<- qha] at sl1 sl2
 have l:x.length <= 200:=h.1
 exact ⟨by lia,λz hz=>by have:=sl2 z hz; lia⟩
theorem useH2 {p G:Hp->Option V->Option V->Prop} {R:Prop} (m:(∀ x y z,p x y z->G x y z)->R) (l:∀ x y z,p x y z->G x y z):R:=m l
section
variable {P:AN} {w:World} {K:Ae} {mg:Str->Option Value} {base:Heap} {a:Adr}
set_option maxHeartbeats 4000000
theorem qqg (T:Txt K mg a):FnOk P w K mg base CX0 1 a.nO a.nG ["sign"] spFig:=by
 refine T.bC.fn.ok qpz (λvs H Q E h => ?_) (λcdv A outer s H vs Q E hr h => ?_)
 .obtain ⟨_,rfl,_⟩:=h
  all_goals rfl
 .obtain ⟨c,rfl,k⟩:=h
  refine ⟨_,(qt (zb (qnz qgv qgv zp (pv 0) zp))),?_⟩
  refine ⟨_,rfl,_,_,rfl,rfl,_,rfl,?_⟩
  have k':Q (.bl (fig c)) H:=k
  unfold fig at k'
  show if (!decide ((⟨#[c]⟩:Str).cps.toList < (Aa "0").cps.toList))=true then _ else _
  rw [le_0]
  by_cases h1:48 <= c
  .rw [decide_eq_true h1,C2] at k'
   rw [decide_eq_true h1]
   refine qb7 ⟨_,_,rfl,rfl,?_⟩
   show Q (.bl (!decide ((Aa "9").cps.toList < (⟨#[c]⟩:Str).cps.toList))) H
   rw [le_9]; exact k'
  .rw [decide_eq_false h1,BP] at k'
   rw [decide_eq_false h1]
   exact qbp k'
theorem qiv (T:Txt K mg a):FnOk P w K mg base CX0 2 a.lQ a.mE ["text", "most_figures"] spWn:=by
 refine T.bJ.fn.ok qid (λvs H Q E h => ?_) (λcdv A outer s H vs Q E hr h => ?_)
 .obtain ⟨_,_,rfl,_⟩:=h
  all_goals rfl
 .obtain ⟨x,m,rfl,hx,k⟩:=h
  refine ⟨_,(qk (zj (qd6 (qj6 qly qly qp (zn qav (by rfl) T.kI qat (qh (pv 0) qm qj)) (pv 1))) (qt (zb qd0)) qaf)
   (qk (zj (qd6 (zo (zn (qix rfl) (by rfl) T.dU qkt (qh (qe0 (N:=["sign"]) (js:=[none]) (XN:=["text", "most_figures"]) (xs:=qab qc5) rfl rfl rfl En (qm8 (pv 0)) (λ_ _ _ _ _ _=>(qap (i:=0) (show Cd (["sign"]:List Str) from by decide +kernel) rfl (Az rfl) (CK rfl))) (λ_ _ _ _ _ _=>qc2) (λ_ _ _ _ _ _=>(zm (qqg T) (hr.mono Ez) rfl T.bC.mgx T.bC.fn.kp T.bC.bd .nil qan (qh (pv 0) qm qj)))) qm qh1)))) (qt (zb qd0)) qaf)
   (qt (zb (qx7 (qc0 qay (pv 0) zp (qad _)) (qe6 (qj3 (qca Bb PySem.F.slot_str_startswith PySem.F.type_str_startswith qln (pv 0) (qh zp qm qz))))))))),?_⟩
  have hz:x.length <= A0:=qae (by lia)
  refine ⟨_,rfl,_,_,rfl,⟨hz,rfl⟩,_,_,rfl,rfl,_,rfl,?_⟩
  have k0:=k H (Same.refl H)
  unfold wnm at k0
  refine qa6 (λc => ?_) (λc => ?_)
  .have c':1 <= (x.cps.size:Int):=of_decide_eq_true c
   refine ⟨_,rfl,_,_,rfl,rfl,_,rfl,?_⟩
   refine qa6 (λd => ?_) (λd => ?_)
   .have d1:decide ((x.cps.size:Int) <= m)=false:=nbF d
    have d':=of_decide_eq_false d1
    rw [decide_eq_false d',CQ,BP] at k0
    exact k0
   .have d1:decide ((x.cps.size:Int) <= m)=true:=nbT d
    have d':=of_decide_eq_true d1
    refine ⟨_,rfl,_,rfl,?_⟩
    refine qcb (λv=>match v with | .str y=>.bl (fig (y.cps.getD 0 0)) | _=>.non) (λσ'=>∃ v,σ'=[v]) qkf ?_ ?_ (λv σ' H' R hv sm s1 q => ?_) qcq λp hp => ?_
    .rw [Ab,AH]; exact hz
    .exact ⟨none,rfl⟩
    .obtain ⟨c,hc,rfl⟩:=AI.mp hv
     obtain ⟨v0,rfl⟩:=s1
     exact ⟨_,rfl,c,rfl,q _ ⟨_,rfl⟩⟩
    refine ⟨p,x.cps.toList.map fig,rfl,SqL.of (by rw [qu,AR,AR]; rfl),_,rfl,?_⟩
    have k1:=k _ (zh (o:=.lst ((x.cps.toList.map λc=>V.str ⟨#[c]⟩).map λv=>match v with | .str y=>.bl (fig (y.cps.getD 0 0)) | _=>.non)) hp)
    unfold wnm at k1
    rw [decide_eq_true (show 1 <= x.cps.size by lia),decide_eq_true d',C2,C2] at k1
    show if (!((x.cps.toList.map fig).all λb=>b))=true then _ else _
    rw [CY]
    show if (!(x.cps.toList.all fig))=true then _ else _
    cases e:x.cps.toList.all fig with
    | false =>
     rw [e] at k1
     exact qb7 k1
    | true =>
     rw [e,C2] at k1
     refine qbp ⟨_,rfl,rfl,_,rfl,?_⟩
     show if decide (V.str x=V.str (Aa "0"))=true then _ else _
     unfold Wri.plain at k1
     by_cases h0:x=Aa "0"
     .rw [decide_eq_true h0,Bool.true_or] at k1
      rw [decide_eq_true (congrArg V.str h0)]
      exact qb7 k1
     .rw [decide_eq_false h0,Bool.false_or] at k1
      rw [decide_eq_false λz=>h0 (V.str.inj z)]
      refine qbp ⟨_,rfl,rfl,_,_,rfl,rfl,_,rfl,?_⟩
      show Q (.bl (!Txt.startswith x (Aa "0"))) _
      rw [qxg]
      exact k1
  .have c':¬ 1 <= (x.cps.size:Int):=λz=>c (decide_eq_true z)
   rw [decide_eq_false (show ¬ 1 <= x.cps.size by lia),BP,BP] at k0
   exact ⟨_,rfl,qb7 k0⟩
theorem qv6 (T:Txt K mg a):FnOk P w K mg base CX0 3 a.lT a.nW ["text", "most"] qu5:=by
 refine T.gY.fn.ok qor (λvs H Q E h => ?_) (λcdv A outer s H vs Q E hr h => ?_)
 .obtain ⟨_,_,rfl,_⟩:=h
  all_goals rfl
 .obtain ⟨x,m,rfl,hx,m1,m2,k,kn⟩:=h
  refine ⟨_,(qk (zj (qd6 (zo (zm (qiv T) (hr.mono Ez) rfl T.bJ.mgx T.bJ.fn.kp T.bJ.bd .nil qan (qh (pv 0) (qh (zn qav (by rfl) T.kI qat (qh (qb9 qdk (by rfl) T.kX qd5 (qh (pv 1) qm qj)) qm zt)) qm zt) qj)))) (qt (zb qbu)) qaf)
   (qk (zf (i:=2) qor.nd rfl (Az rfl) (qb9 qr9 (by rfl) T.bP qic (qh (pv 0) qm qj)))
   (qt (zb (qd1 (qj6 qly qly qp (pv 2) (pv 1)) (pv 2) qbu))))),?_⟩
  have hL:(ts m).length <= 62:=ts_len (by lia) Ez m2
  refine ⟨_,rfl,_,rfl,_,rfl,log_ok 62 En (by lia) m2,_,_,rfl,⟨qae (Au hL Ez),rfl⟩,x,_,rfl,by lia,λH1 s1 => ?_⟩
  refine ⟨_,rfl,?_⟩
  show if (!wnm x ((ts m).length:Nat))=true then _ else _
  cases e:wnm x ((ts m).length:Nat) with
  | false=>exact qb7 (kn (by unfold due; rw [e]; rfl) H1 s1)
  | true =>
   have e':=e
   unfold wnm at e'
   simp only [AC,decide_eq_true_eq] at e'
   obtain ⟨⟨g1,g2⟩,g3,g4⟩:=e'
   refine qbp ⟨_,rfl,_,_,rfl,int_of g3 g1 (by lia),(by show x.cps.size <= 640; lia),_,rfl,_,_,rfl,rfl,_,rfl,?_⟩
   refine qa6 (λc1 => ?_) (λc1 => ?_)
   .refine ⟨_,rfl,_,_,rfl,rfl,_,rfl,?_⟩
    refine qa6 (λc2 => ?_) (λc2 => ?_)
    .exact ⟨_,rfl,k (by unfold due; rw [e,c1,c2]; rfl) H1 s1⟩
    .exact kn (by unfold due; rw [e,c1,DB.mpr c2]; rfl) H1 s1
   .exact ⟨_,rfl,qbp (kn (by unfold due; rw [e,DB.mpr c1]; rfl) H1 s1)⟩
theorem qqh (T:Txt K mg a):FnOk P w K mg base CX0 1 a.fJ a.mB ["self", "names"] (spIL K):=by
 refine T.fG.fn.ok qp0 (λvs H Q E h => ?_) (λcdv A outer s H vs Q E hr h => ?_)
 .obtain ⟨_,_,_,_,_,rfl,_⟩:=h
  all_goals rfl
 .obtain ⟨x,C,l,zs,ini,rfl,hx,hl,xa,n1,k⟩:=h
  refine ⟨_,(qk (zi (qge T.gW rfl T.kS (qh (pv 0) (qh (qb9 qhy (by rfl) T.gI qeh (qh (pv 1) qm qj)) qm zt) qj)))
   (qt (qh4 (pv 0) (qb9 qhy (by rfl) T.gI qeh (qh (pv 1) qm qj)) rfl))),?_⟩
  have nl:∀ {p:Addr},H p=none->p ≠ x:=λhp z=>by rw [z,hx] at hp; cases hp
  refine ⟨_,rfl,_,rfl,l,zs,rfl,.inl hl,λp1 h1 => ?_⟩
  have hx1:upd H p1 (.lst zs) x=some (exO x C none true):=by rw [zd (Bc (nl h1))]; exact hx
  refine ⟨x,C,none,[.ref p1],ini,rfl,hx1,xa.xc,qae (show 1 <= 100000 by decide),?_⟩
  have hl2:SqL K (upd H p1 (.lst zs)) l zs:=(zh h1).seq hl
  refine ⟨_,rfl,l,zs,rfl,.inl hl2,λp3 h3 => ?_⟩
  have h30:H p3=none:=(zh h1).free h3
  have n31:p3 ≠ p1:=λz=>by rw [z,qu] at h3; cases h3
  have hx3:upd (upd H p1 (.lst zs)) p3 (.lst zs) x=some (exO x C none true):=by rw [zd (Bc (nl h30))]; exact hx1
  refine ⟨_,rfl,x,C,true,rfl,xa.set n1,.inl ⟨hx3,λdx hd => ?_⟩⟩
  have hd0:H dx=none:=((zh h1).trans (zh h3)).free hd
  have nd3:p3 ≠ dx:=λz=>by rw [<- z,qu] at hd; cases hd
  exact k dx p3 _ hd0 h30 (λb o hb e=>by rw [zd hb,zd (qag e hd0),zd (qag e h30),zd (qag e h1)]; exact e) qu (by rw [zd (nl hd0)]; exact qu) (by rw [zd (nl h30),zd nd3]; exact qu)
theorem qs9 (T:Txt K mg a):FnOk P w K mg base (CX1 P w) 3 a.nR a.fX ["name", "bases", "taken"] (spUn7 a):=by
 refine okX T.bE.fn qgz (λvs H Q E h => ?_) (λcdv A outer s H vs Q E hr h => ?_)
 .obtain ⟨_,_,_,_,_,_,_,rfl,_⟩:=h
  all_goals rfl
 .obtain ⟨d,t,kvs,nms,bs,os,k0,rfl,hd,ht,wr,lto,hk,dic,k,kx⟩:=h
  refine ⟨_,(qk (zf (i:=3) qgz.nd rfl (Az rfl) (zq qm))
   (qk (zf (i:=4) qgz.nd rfl (Az rfl) (pv 0))
   (qk (qtm BM.leaving (PW.pt (qc7 (ze qea (pv 4) qbu (qad _)) (qcp (ze qc1 (pv 4) (pv 2) (by with_unfolding_all rfl))))) (qk (zj (ze qef (pv 4) (pv 3) (by with_unfolding_all rfl)) (qt (qdl rfl (Takes.at qbo) (qec T.gL.xc T.fG.ty (qqh T) (hr.mono Ez) rfl T.gM T.gL.kp T.fG.bd .nil qan (qh (qas qbe (pv 3) (qaq (qca AT PySem.F.slot_list_index PySem.F.type_list_index qsi (pv 3) (qh (pv 4) qm qj))) qbd) qm zw)))) qaf)
   (qk (zi (qca AT AZ Ba qbw (pv 3) (qh (pv 4) qm qj)))
   (qt (zf (i:=4) qgz.nd rfl (Az rfl) (qjv (qf5 hr) (pv 1) (pv 4) (λ_ _=>rfl)))))))
   (qt (zb (pv 3)))))),?_⟩
  refine ⟨qfe,λq hq => ?_⟩
  obtain ⟨s0,h0⟩:=alc (o:=.lst []) hq
  generalize upd H q _=H0 at s0 h0 |-
  refine ⟨_,rfl,?_⟩
  refine ⟨λm σ' H'=>Same H H'/\∃ (is:List Nat) (o:Option Nat),σ'=[some (.str (nm nms k0)),some (.ref d),some (.ref t),some (.ref q),some (qie nms o)]/\H' q=some (.lst ((is.map (nm nms)).map V.str))/\Ch (bo bs) is o/\is.Nodup/\(∀ j ∈ is,j < nms.length/\j ∉ os)/\(∀ j,o=some j->j < nms.length)/\(is ++ o.toList)[0]?=some k0/\m + is.length=7,⟨7,s0,[],some k0,rfl,h0,(λi k e=>by cases e),.nil,(λj hj=>absurd hj Ar),(λj e=>by cases e; exact hk),rfl,rfl⟩,?_⟩
  rintro m σ' H' ⟨s1,is,o,rfl,h1,ch,nd,lt,lo,st,hm⟩
  cases o with
  | none=>exact ⟨_,rfl,rfl,_,rfl,qd9 rfl (qbp ⟨_,rfl,k q H' is none hq s1 h1 ch nd lt st (λj z=>nomatch z)⟩)⟩
  | some j =>
   have hj:=lo j rfl
   dsimp only [qie]
   refine ⟨_,rfl,rfl,_,rfl,qgl (λz=>nomatch z) ⟨_,rfl,_,rfl,_,_,rfl,.inl (SqL.of (s1 _ _ ht)),rfl,qff _,_,rfl,?_⟩⟩
   show if (!inV (.str (nm nms j)) ((os.map (nm nms)).map V.str))=true then _ else _
   rw [qcy]
   cases ec:(os.map (nm nms)).contains (nm nms j) with
   | true=>exact qbp ⟨_,rfl,k q H' is (some j) hq s1 h1 ch nd lt st (λi z=>by cases z; exact (qni wr.nd lto hj).mp ec)⟩
   | false =>
    have nj:j ∉ os:=λz=>by rw [(qni wr.nd lto hj).mpr z] at ec; cases ec
    have ln:=qu4 nd λk hk=>(lt k hk).1
    have sm:=wr.sm
    obtain ⟨m,rfl⟩:∃ f,m=f + 1:=⟨m - 1,by lia⟩
    have lti:∀ k ∈ is,k < nms.length:=λk hk=>(lt k hk).1
    refine qb7 ⟨λσ' H'=>Same H H'/\∃ (is:List Nat) (o:Option Nat),σ'=[some (.str (nm nms k0)),some (.ref d),some (.ref t),some (.ref q),some (qie nms o)]/\H' q=some (.lst ((is.map (nm nms)).map V.str))/\Ch (bo bs) is o/\is.Nodup/\(∀ j ∈ is,j < nms.length/\j ∉ os)/\(∀ j,o=some j->j < nms.length)/\(is ++ o.toList)[0]?=some k0/\m + is.length=7,λσ2 H2 z=>⟨m,CO m,z⟩,?_⟩
    refine ⟨_,rfl,_,rfl,_,_,rfl,.inl (SqL.of h1),rfl,qff _,_,rfl,?_⟩
    show if (inV (.str (nm nms j)) ((is.map (nm nms)).map V.str))=true then _ else _
    rw [qcy]
    cases ep:(is.map (nm nms)).contains (nm nms j) with
    | true =>
     have mj:=(qni wr.nd lti hj).mp ep
     obtain ⟨i0,g1,g2,g3⟩:=nm_ix wr.nd lti hj nd mj
     have ld:((is.map (nm nms)).map V.str).drop i0=((is.drop i0).map (nm nms)).map V.str:=by rw [Cs,Cs]
     refine qb7 ⟨_,rfl,_,rfl,.inl ⟨rfl,_,SqL.of h1⟩,_,rfl,q,_,_,i0,rfl,rfl,h1,g2,g3,_,rfl,_,_,rfl,SqL.of h1,λp5 h5 => ?_⟩
     have li:i0 < is.length:=(Af.mp g1).1
     rw [qeu _ _ (by rw [Ab,Ab]; lia),ld]
     obtain ⟨s5,e5⟩:=alc (o:=.lst (((is.drop i0).map (nm nms)).map V.str)) h5
     generalize upd H' p5 _=H5 at s5 e5 |-
     refine ⟨qae (show 1 <= 100000 by decide),λx1 n1=>⟨x1,a.kB,p5,_,_,rfl,qu,SqL.of (zh n1 _ _ e5),T.gL,zc T.fO Ez,λd1 l1 H6 hd1 hl1 kp o1 od1 ol1=>⟨rfl,?_⟩⟩⟩
     have s6:Same H5 H6:=qbk n1 kp
     have nx1:d1 ≠ x1:=λz=>by rw [z,qu] at hd1; cases hd1
     have nl1:l1 ≠ x1:=λz=>by rw [z,qu] at hl1; cases hl1
     exact ⟨x1,_,some d1,rfl,o1,⟨_,od1⟩,T.rZ,kx x1 d1 l1 _ _ (qam (s1.trans (s5.trans s6)) ((s1.trans s5).free n1)) qu ((zd nx1).trans od1) ((zd nl1).trans ol1) (ch_rg ch nd lti g1)⟩
    | false =>
     have mj:j ∉ is:=λz=>by rw [(qni wr.nd lti hj).mpr z] at ep; cases ep
     have lz:((is.map (nm nms)).map V.str).length <= 90000:=by rw [Ab,Ab]; lia
     refine qbp ⟨_,rfl,.inl ⟨rfl,_,SqL.of h1⟩,_,rfl,_,_,_,rfl,rfl,h1,qdn lz,?_⟩
     have s2:Same H (upd H' q (.lst ((is.map (nm nms)).map V.str ++ [V.str (nm nms j)]))):=qam s1 hq
     have h2:upd H' q (.lst ((is.map (nm nms)).map V.str ++ [V.str (nm nms j)])) q=some (.lst (((is ++ [j]).map (nm nms)).map V.str)):=by rw [qu,Ay,Ay]; rfl
     generalize upd H' q _=H2 at s2 h2 |-
     refine ⟨_,rfl,_,rfl,d,_,rfl,(dic j hj) ▸ DGet.k (k:=.inr (nm nms j)) (s2 _ _ hd),?_⟩
     refine ⟨s2,is ++ [j],bo bs j,rfl,h2,ch.snoc,?_,λi hi => ?_,λi e=>wr.ok j i e,?_,by rw [Ag,B9]; lia⟩
     .rw [AO]
      exact ⟨nd,AW.mpr ⟨Ar,.nil⟩,λa ha b hb e=>mj (by rw [<- Ai.mp hb,<- e]; exact ha)⟩
     .rcases Ax.mp hi with z | z
      .exact lt i z
      .rw [Ai.mp z]; exact ⟨hj,nj⟩
     .have e:(is ++ [j])[0]?=some k0:=st
      rw [AS (by rw [Ag,B9]; lia)]
      exact e
theorem qlg (T:Txt K mg a):FnOk P w K mg base (CX1 P w) 4 a.mM a.nZ ["rules"] (spHa7 a):=by
 refine okX T.bK.fn qcc (λvs H Q E h => ?_) (λcdv A outer s H vs Q E hr h => ?_)
 .obtain ⟨_,_,_,_,rfl,_⟩:=h
  all_goals rfl
 .obtain ⟨pr,us,nms,bs,rfl,hp,hrl,wr,k,kx⟩:=h
  refine ⟨_,(qk (zf (i:=1) qcc.nd rfl (Az rfl) qkb)
   (qk (qcr BM.leaving rfl (qb8 (pv 0)) (qap (i:=2) qcc.nd rfl (Az rfl)) (qt (qm6 (qf5 hr) (pv 1) (qbc (pv 2) rfl) (qbc (pv 2) rfl) rfl)))
   (qk (zf (i:=3) qcc.nd rfl (Az rfl) (zq qm))
   (qk (qcr BM.leaving rfl (qb8 (pv 0)) (qap (i:=2) qcc.nd rfl (Az rfl)) (qt (qys (i:=3) qcc.nd rfl (Az rfl) (qkj rfl (by rfl) T.gI (by rfl) T.lA qeh (qh (qd3 (qs9 T) (hr.mono Ez) rfl T.bE.mgx T.bE.fn.kp T.bE.bd .nil (Takes.at qbo) (qh (qbc (pv 2) rfl) (qh (pv 1) (qh (pv 3) qm qj) qj) qcl)) qm zt)) ip_ext)))
   (qt (zb (pv 3))))))),?_⟩
  refine λd hd => ?_
  obtain ⟨s0,h0⟩:=alc (o:=.dK []) hd
  generalize upd H d _=H0 at s0 h0 |-
  have sm:=wr.sm
  refine ⟨_,rfl,_,rfl,⟨_,SqL.of (s0 _ _ hp)⟩,qd2 (K:=K) (a:=pr) (xs:=us) (λi σ H'=>Same H H'/\∃ (v2:Option V) (kvs:List (Key × V)),σ=[some (.ref pr),some (.ref d),v2,none]/\H' d=some (.dK kvs)/\kvs.length <= i/\∀ k < i,qdv kvs (.inr (nm nms k))=some (qie nms (bo bs k)))
   ⟨s0,none,[],rfl,h0,A1 _,λk hk=>absurd hk (DZ _)⟩ (λi σ H' _ h=>SqL.of (h.1 _ _ hp)) ?_ ?_⟩
  .rintro i x σ H' hx ⟨s1,v2,kvs,rfl,h1,hl,hv⟩
   have hi:i < nms.length:=by rw [<- hrl.1]; exact (Af.mp hx).1
   obtain ⟨p,dx,fs,rfl,r1,r2,r3⟩:=(hrl.2 i x hx).same s1
   refine ⟨_,rfl,_,_,_,_,_,rfl,r1,T.kD,zc T.kE Ez,r3,_,rfl,_,rfl,_,_,_,_,_,rfl,r1,T.kD,zc T.kE Ez,r2,d,_,rfl,DPut.k (k:=.inr (nm nms i)) h1 (by rw [Bf]; lia),?_⟩
   exact ⟨qam s1 hd,_,_,rfl,qu,Au (qf7 _ _ _) (Do hl),qxb wr.nd hi hv⟩
  .rintro σ H1 ⟨s1,v2,kvs,rfl,h1,hl,hv⟩
   rw [hrl.1] at hv
   refine ⟨qfe,λt ht => ?_⟩
   have s2:=s1.trans (zh (o:=.lst []) ht)
   have h2:=zh (o:=.lst []) ht _ _ h1
   have h3:=qu (H:=H1) (a:=t) (o:=.lst [])
   have nt:=s1.free ht
   have ntd:d ≠ t:=λz=>by rw [<- z,h1] at ht; cases ht
   generalize upd H1 t _=H2 at s2 h2 h3 |-
   refine ⟨_,rfl,_,rfl,⟨_,SqL.of (s2 _ _ hp)⟩,qd2 (K:=K) (a:=pr) (xs:=us) (λi σ H'=>Same H H'/\H' d=some (.dK kvs)/\(∃ os:List Nat,H' t=some (.lst ((os.map (nm nms)).map V.str))/\os.Nodup/\(∀ j ∈ os,j < nms.length)/\Od (bo bs) os/\∀ j,j < i->j ∈ os)/\∃ v2:Option V,σ=[some (.ref pr),some (.ref d),v2,some (.ref t)])
    ⟨s2,h2,⟨[],h3,.nil,(λj hj=>absurd hj Ar),(λp k e=>by cases e),λj hj=>absurd hj (DZ _)⟩,_,rfl⟩ (λi σ H' _ h=>SqL.of (h.1 _ _ hp)) ?_ ?_⟩
   .rintro i x σ H' hx ⟨s1,h1,⟨os,h3,nd,lto,od,al⟩,v2,rfl⟩
    have hi:i < nms.length:=by rw [<- hrl.1]; exact (Af.mp hx).1
    obtain ⟨p,dx,fs,rfl,r1,r2,r3⟩:=(hrl.2 i x hx).same s1
    refine ⟨_,rfl,_,rfl,_,_,_,_,_,rfl,r1,T.kD,zc T.kE Ez,r2,_,rfl,_,rfl,_,_,_,nms,bs,os,i,rfl,h1,h3,wr,lto,hi,hv,λq1 H3 is o n1 z1 e1 ch nd1 lt1 st1 ho => ?_,kx.same s1⟩
    refine ⟨_,_,rfl,SqL.of e1,λq2 hq2 => ?_⟩
    have er:((is.map (nm nms)).map V.str).reverse=((is.reverse.map (nm nms)).map V.str):=by rw [List.map_reverse,List.map_reverse]
    rw [er]
    have z2:=z1.trans (zh (o:=.lst ((is.reverse.map (nm nms)).map V.str)) hq2)
    have e2:=qu (H:=H3) (a:=q2) (o:=.lst ((is.reverse.map (nm nms)).map V.str))
    generalize upd H3 q2 _=H4 at z2 e2 |-
    have lo:=qu4 nd lto
    have li:=qu4 nd1 λk hk=>(lt1 k hk).1
    refine ⟨_,_,_,_,rfl,rfl,z2 _ _ h3,e2,qae (by rw [Ab,Ab,Ab,Ab,Dr]; lia),?_⟩
    refine ⟨qam (s1.trans z2) nt,(zd ntd).trans (z2 _ _ h1),⟨os ++ is.reverse,?_,?_,λj hj => ?_,od_app od ch ho,λj hj => ?_⟩,_,rfl⟩
    .rw [qu,Ay,Ay]
    .rw [AO]
     exact ⟨nd,List.pairwise_reverse.mpr (nd1.imp Bc),λa ha b hb e=>(lt1 b (DQ.mp hb)).2 (e ▸ ha)⟩
    .rcases Ax.mp hj with z | z
     .exact lto j z
     .exact (lt1 j (DQ.mp z)).1
    .by_cases c:j=i
     .rw [c]; exact ch_hd st1 ho
     .exact Ax.mpr (.inl (al j (by lia)))
   .rintro σ H' ⟨s1,h1,⟨os,h3,nd,lto,od,al⟩,v2,rfl⟩
    rw [hrl.1] at al
    exact ⟨_,rfl,k t H' os nt s1 h3 nd lto od al⟩
theorem qjs (T:Txt K mg a):FnOk P w K mg base CX0 1 a.pA a.lD ["sign"] spLow:=by
 refine T.bI.fn.ok qjq (λvs H Q E h => ?_) (λcdv A outer s H vs Q E hr h => ?_)
 .obtain ⟨_,rfl,_⟩:=h
  all_goals rfl
 .obtain ⟨c,rfl,k⟩:=h
  refine ⟨_,(qt (zb (qnz qgv qgv zp (pv 0) zp))),?_⟩
  refine ⟨_,rfl,_,_,rfl,rfl,_,rfl,?_⟩
  have k':Q (.bl (low c)) H:=k
  unfold low at k'
  show if (!decide ((⟨#[c]⟩:Str).cps.toList < (Aa "a").cps.toList))=true then _ else _
  rw [le_a]
  by_cases h1:97 <= c
  .rw [decide_eq_true h1,C2] at k'
   rw [decide_eq_true h1]
   refine qb7 ⟨_,_,rfl,rfl,?_⟩
   show Q (.bl (!decide ((Aa "z").cps.toList < (⟨#[c]⟩:Str).cps.toList))) H
   rw [le_z]; exact k'
  .rw [decide_eq_false h1,BP] at k'
   rw [decide_eq_false h1]
   exact qbp k'
theorem qv7 (T:Txt K mg a):FnOk P w K mg base CX0 2 a.fM a.lU ["thing"] spNmG:=by
 refine T.bQ.fn.ok qu1 (λvs H Q E h => ?_) (λcdv A outer s H vs Q E hr h => ?_)
 .obtain ⟨_,rfl,_⟩:=h
  all_goals rfl
 .obtain ⟨x,rfl,hx,k⟩:=h
  refine ⟨_,(qk (zj (qd6 (zo (zn qf9 (by rfl) T.kJ qaj (qh (pv 0) (qh (qdy (v:=.ty "str") rfl T.kX qd5 rfl) qm qj) qj)))) (qt (zb qd0)) qaf)
   (qk (zj (qd6 (qj6 qly qly qp (zn qav (by rfl) T.kI qat (qh (pv 0) qm qj)) (qbm (v:=.int 8) rfl T.tT.choose_spec ⟨_,rfl⟩))) (qt (zb qd0)) qaf)
   (qt (zb (zn (qix rfl) (by rfl) T.dU qkt (qh (qe0 (N:=["sign"]) (js:=[none]) (XN:=["thing"]) (xs:=qab qjx) rfl rfl rfl En (qm8 (pv 0)) (λ_ _ _ _ _ _=>(qap (i:=0) (show Cd (["sign"]:List Str) from by decide +kernel) rfl (Az rfl) (CK rfl))) (λ_ _ _ _ _ _=>qc2) (λ_ _ _ _ _ _=>(zm (qjs T) (hr.mono Ez) rfl T.bI.mgx T.bI.fn.kp T.bI.bd .nil qan (qh (pv 0) qm qj)))) qm qh1)))))),?_⟩
  have hz:x.length <= A0:=qae (Au hx Ez)
  refine ⟨_,rfl,_,_,_,_,rfl,.str _,qgb,_,rfl,qbp ?_⟩
  refine ⟨_,rfl,_,_,rfl,⟨hz,rfl⟩,_,_,rfl,rfl,_,rfl,?_⟩
  have k0:=k H (Same.refl H)
  unfold nmB at k0
  refine qa6 (λc => ?_) (λc => ?_)
  .have c':1 <= (x.cps.size:Int):=of_decide_eq_true c
   refine ⟨_,_,rfl,rfl,_,rfl,?_⟩
   refine qa6 (λd => ?_) (λd => ?_)
   .have d1:decide ((x.cps.size:Int) <= 8)=false:=by
     cases q:decide ((x.cps.size:Int) <= 8) with
     | false=>rfl
     | true =>
      have d2:(!decide ((x.cps.size:Int) <= 8))=true:=d
      rw [q] at d2; cases d2
    have d':=of_decide_eq_false d1
    rw [decide_eq_false (show ¬ x.cps.size <= 8 by lia),CQ,BP] at k0
    exact k0
   .have d1:decide ((x.cps.size:Int) <= 8)=true:=by
     cases q:decide ((x.cps.size:Int) <= 8) with
     | true=>rfl
     | false =>
      have d2:¬ (!decide ((x.cps.size:Int) <= 8))=true:=d
      rw [q] at d2; exact absurd rfl d2
    have d':=of_decide_eq_true d1
    refine ⟨_,rfl,_,rfl,?_⟩
    refine qcb (λv=>match v with | .str y=>.bl (low (y.cps.getD 0 0)) | _=>.non) (λσ'=>∃ v,σ'=[v]) qkf ?_ ?_ (λv σ' H' R hv sm s1 q => ?_) qcq λp hp => ?_
    .rw [Ab,AH]; exact hz
    .exact ⟨none,rfl⟩
    .obtain ⟨c,hc,rfl⟩:=AI.mp hv
     obtain ⟨v0,rfl⟩:=s1
     exact ⟨_,rfl,c,rfl,q _ ⟨_,rfl⟩⟩
    refine ⟨p,x.cps.toList.map low,rfl,SqL.of (by rw [qu,AR,AR]; rfl),?_⟩
    have k1:=k _ (zh (o:=.lst ((x.cps.toList.map λc=>V.str ⟨#[c]⟩).map λv=>match v with | .str y=>.bl (low (y.cps.getD 0 0)) | _=>.non)) hp)
    unfold nmB at k1
    rw [decide_eq_true (show 1 <= x.cps.size by lia),decide_eq_true (show x.cps.size <= 8 by lia),C2,C2] at k1
    show Q (.bl ((x.cps.toList.map low).all λb=>b)) _
    rw [CY]
    exact k1
  .have c':¬ 1 <= (x.cps.size:Int):=λz=>c (decide_eq_true z)
   rw [decide_eq_false (show ¬ 1 <= x.cps.size by lia),BP,BP] at k0
   exact ⟨_,rfl,qb7 k0⟩
theorem qqi (T:Txt K mg a):FnOk P w K mg base (CX1 P w) 5 a.dQ a.mI ["self", "rules"] (spBIG a):=by
 refine okX T.mW.fn qku (λvs H Q E h => ?_) (λcdv A outer s H vs Q E hr h => ?_)
 .obtain ⟨_,_,_,_,_,rfl,_⟩:=h
  all_goals rfl
 .obtain ⟨x,dx,pr,rs,As,rfl,hx,hp,ln,nn,l6,bok,ru,k,kx⟩:=h
  refine ⟨_,(qk (qdd (pv 0) (qd3 (qlg T) (hr.mono Ez) rfl T.bK.mgx T.bK.fn.kp T.bK.bd .nil (Takes.at qbo) (qh (pv 1) qm qj)) rfl)
   (qk (qdd (pv 0) qkb rfl)
   (qt (qcr BM.leaving rfl (qb8 (pv 1)) (qap (i:=2) qku.nd rfl (Az rfl)) (qt (qm6 (qf5 hr) (qbc (pv 0) rfl) (qbc (pv 2) rfl) (pv 2) rfl)))))),?_⟩
  have wr:=wr_of nn l6
  have sm:=l6
  have hrl:=rus_of ln bok ru
  refine ⟨_,rfl,_,_,_,_,rfl,hp,hrl,wr,λpo H1 os no s1 e1 nd lto od al => ?_,kx⟩
  have x1:=s1 _ _ hx
  refine ⟨_,rfl,_,_,_,_,rfl,x1,T.gK,zc T.dD Ez,Ez,?_⟩
  rw [put1]
  have npo:po ≠ x:=λz=>by rw [z,hx] at no; cases no
  have b2:SameBut x H (upd H1 x (.ins a.kL dx [(Aa "order",.ref po)])):=(SameBut.of s1).set
  have x2:=qu (H:=H1) (a:=x) (o:=.ins a.kL dx [(Aa "order",.ref po)])
  have o2:=(zd (o:=.ins a.kL dx [(Aa "order",.ref po)]) npo).trans e1
  generalize upd H1 x _=H2 at b2 x2 o2 |-
  refine λd hd => ?_
  obtain ⟨s3,d3⟩:=alc (o:=.dK []) hd
  have x3:=s3 _ _ x2
  have ndx:d ≠ x:=λz=>by rw [z,x2] at hd; cases hd
  have ndo:po ≠ d:=λz=>by rw [<- z,o2] at hd; cases hd
  have ndH:=b2.free ndx hd
  refine ⟨_,rfl,_,_,_,_,rfl,x3,T.gK,zc T.dD Ez,(show 1 < 1000 by decide),?_⟩
  rw [put2 _ _ En]
  have b4:SameBut x H (upd (upd H2 d (.dK [])) x (.ins a.kL dx (bfs po d))):=(b2.trans (SameBut.of s3)).set
  have x4:=qu (H:=upd H2 d (.dK [])) (a:=x) (o:=.ins a.kL dx (bfs po d))
  have o4:=(zd (o:=.ins a.kL dx (bfs po d)) npo).trans (s3 _ _ o2)
  have d4:=(zd (o:=.ins a.kL dx (bfs po d)) ndx).trans d3
  generalize upd (upd H2 d (.dK [])) x _=H4 at b4 x4 o4 d4 |-
  have npx:pr ≠ x:=λz=>by rw [z,hx] at hp; cases hp
  have rule:∀ {H':Hp} {i:Nat} {y:V},SameBut x H H'->(As.map λA=>V.ref A.p)[i]?=some y->∃ r A,rs[i]?=some r/\As[i]?=some A/\y=.ref A.p/\∃ v,H' A.p=some (.ins a.k7 A.dx (rlR A r v)):=λ{H' i y} b e=>by
   rw [An] at e
   cases eA:As[i]? with
   | none=>rw [eA] at e; cases e
   | some A =>
    rw [eA] at e
    cases e
    have lj:=(Af.mp eA).1
    rw [ln] at lj
    obtain ⟨v,us,h⟩:=ru _ _ A (Aj lj) eA
    refine ⟨_,A,Aj lj,rfl,rfl,v,b _ _ (λz => ?_) h.hx⟩
    have h1:=h.hx
    rw [z,hx] at h1
    injection h1 with h1
    injection h1 with _ _ h5
    cases h5
  refine ⟨_,rfl,_,rfl,⟨_,SqL.of (b4 _ _ npx hp)⟩,qd2 (K:=K) (a:=pr) (xs:=As.map λA=>.ref A.p) (λi σ H'=>SameBut x H H'/\H' x=some (.ins a.kL dx (bfs po d))/\H' po=some (.lst ((os.map (nm (rs.map RR.name))).map V.str))/\H' d=some (.dK (dcR (rs.take i) (As.take i)))/\∃ v2:Option V,σ=[some (.ref x),some (.ref pr),v2])
   ⟨b4,x4,o4,(by rw [DD,DD]; exact d4),none,rfl⟩ (λi σ H' _ h=>SqL.of (h.1 _ _ npx hp)) ?_ ?_⟩
  .rintro i y σ H' hy ⟨b5,x5,o5,d5,v2,rfl⟩
   obtain ⟨r,A,hr',hA,rfl,v,r1⟩:=rule b5 hy
   have hi:i < rs.length:=(Af.mp hr').1
   have lt:(As.take i).length=(rs.take i).length:=by rw [Ap,Ap,ln]
   have ep:qfm (dcR (rs.take i) (As.take i)) (.inr r.name) (.ref A.p)=dcR (rs.take (i + 1)) (As.take (i + 1)):=by
    rw [qbs hr',qbs hA,qky r A lt]
    refine qj9 _ ?_
    rw [qg2 _ lt,qdx.mpr]
    .rfl
    .intro z
     rw [B7] at z
     have nd2:=nn
     rw [<- Bl i (rs.map RR.name),AO] at nd2
     refine nd2.2.2 _ z r.name ?_ rfl
     rw [<- Cs,Cp hi,A6]
     rw [Aj hi] at hr'
     cases hr'
     exact Ak
   refine ⟨_,rfl,_,rfl,_,_,_,_,_,rfl,x5,T.gK,zc T.dD Ez,rfl,_,rfl,_,_,_,_,_,rfl,r1,T.kD,zc T.kE Ez,rfl,d,_,rfl,DPut.k (k:=.inr r.name) d5 (by rw [Bf,qj0 lt,Ap]; lia),?_⟩
   rw [ep]
   exact ⟨λb o n e=>by rw [zd (qag e ndH)]; exact b5 b o n e,(zd ndx.symm).trans x5,(zd ndo).trans o5,qu,_,rfl⟩
  .rintro σ H' ⟨b5,x5,o5,d5,v2,rfl⟩
   rw [Ab,ln,B0,Bs (BQ ln)] at d5
   rw [Ab] at lto
   exact k H' os b5 ⟨dx,po,d,x5,o5,d5⟩ ⟨nd,lto,od,by rw [Ab] at al; exact al⟩
theorem qta (T:Txt K mg a):FnOk P w K mg base CX0 1 a.nU a.fW ["text"] spLnG:=by
 refine T.bU.fn.ok qsp (λvs H Q E h => ?_) (λcdv A outer s H vs Q E hr h => ?_)
 .obtain ⟨_,rfl,_⟩:=h
  all_goals rfl
 .obtain ⟨ls,rfl,hl,k⟩:=h
  refine ⟨_,(qt (zb (qd1 (qw9 (pv 0)) (qca Bb BU BV qep (pv 0) (qh zp qm qz)) (zq qm)))),?_⟩
  have ll:(qev ls).length <= 20100:=qvg hl
  refine ⟨_,rfl,_,rfl,qae (by lia),?_⟩
  by_cases c:ls=[]
  .subst c
   refine iteF' En ⟨qfe,λq hq => ?_⟩
   exact k q _ hq (zh hq) qu
  .have es:BE (qev ls) (wS "\n")=ls:=by rw [newl]; exact qki 10 c λp hp=>(hl.c p hp).2
   have eb:=qe2 (qev ls) 10
   rw [<- newl] at eb
   have hn:=hl.n
   refine iteT' (decide_eq_true (qxo hl c)) ⟨_,rfl,rfl,_,_,rfl,rfl,rfl,qae (by lia),qae (by rw [es]; lia),qae (Au eb (by lia)),λp hp => ?_⟩
   rw [es]
   exact k p _ hp (zh hp) qu
theorem qtb (T:Txt K mg a):FnOk P w K mg base CX0 4 a.nX a.nC ["word", "asked"] spValG:=by
 refine T.bB.fn.ok qsq (λvs H Q E h => ?_) (λcdv A outer s H vs Q E hr h => ?_)
 .obtain ⟨_,_,rfl,_⟩:=h
  all_goals rfl
 .obtain ⟨w1,q,rfl,ok,hw,k⟩:=h
  refine ⟨_,(qk (zj (zo (zn qf9 (by rfl) T.kJ qaj (qh (pv 1) (qh (qdy (v:=.ty "int") rfl T.bP qic rfl) qm qj) qj))) (qt (zb (zm (qv6 T) (hr.mono Ez) rfl T.gY.mgx T.gY.fn.kp T.gY.bd .nil qan (qh (pv 0) (qh (pv 1) qm qj) qj)))) qaf)
   (qk (zj (ze qay (pv 1) zp (qad _)) (qt (zb (qd1 (zo (zm (qv7 T) (hr.mono Ez) rfl T.bQ.mgx T.bQ.fn.kp T.bQ.bd .nil qan (qh (pv 0) qm qj))) (pv 0) qbu))) qaf)
   (qk (zj (ze qay (pv 1) zp (qad _)) (qt (zb (qd1 (ze qef (pv 0) (qbm (v:=.ref a.dO) rfl T.rX rfl) (by with_unfolding_all rfl)) (pv 0) qbu))) qaf)
   (qt (zb (qd1 (ze qay (pv 0) (pv 1) (qad _)) (pv 0) qbu)))))),?_⟩
  cases q with
  | num m =>
   obtain ⟨m1,m2⟩:=ok
   unfold qc9 at k
   dsimp only at k
   refine ⟨_,rfl,_,_,_,_,rfl,.int _,qf8,_,rfl,qb7 ⟨_,rfl,_,rfl,_,_,rfl,Au hw Ez,m1,m2,λe H1 s1 => ?_,λe H1 s1 => ?_⟩⟩
   .have:=k H1 s1
    rw [if_pos e] at this
    exact this
   .have:=k H1 s1
    rw [if_neg (by rw [e]; decide)] at this
    exact this
  | name =>
   unfold qc9 at k
   dsimp only at k
   refine ⟨_,rfl,_,_,_,_,rfl,.str _,qgc,_,rfl,qbp ⟨_,rfl,rfl,_,rfl,qfd rfl ?_⟩⟩
   refine ⟨_,rfl,_,rfl,hw,λH1 s1=>⟨_,rfl,?_⟩⟩
   have:=k H1 s1
   refine qa6 (λc => ?_) (λc => ?_)
   .rw [if_pos c] at this
    exact ⟨_,rfl,this⟩
   .rw [if_neg c] at this
    exact this
  | unit =>
   unfold qc9 at k
   dsimp only at k
   refine ⟨_,rfl,_,_,_,_,rfl,.str _,qgc,_,rfl,qbp ⟨_,rfl,rfl,_,rfl,qa4 En ⟨_,rfl,rfl,_,rfl,qfd rfl ⟨_,rfl,_,_,rfl,.inr (T.rS H),rfl,rfl,_,rfl,?_⟩⟩⟩⟩
   show if inV (.str w1) (qbv.map V.str)=true then _ else _
   rw [qcy]
   have:=k H (Same.refl H)
   refine qa6 (λc => ?_) (λc => ?_)
   .rw [if_pos c] at this
    exact ⟨_,rfl,this⟩
   .rw [if_neg c] at this
    exact this
  | lit c =>
   obtain ⟨h1,h2⟩:=ok
   unfold qc9 at k
   dsimp only at k
   refine ⟨_,rfl,_,_,_,_,rfl,.str _,qgc,_,rfl,qbp ⟨_,rfl,rfl,_,rfl,qa4 (λz=>h1 (V.str.inj z)) ⟨_,rfl,rfl,_,rfl,qa4 (λz=>h2 (V.str.inj z)) ?_⟩⟩⟩
   have:=k H (Same.refl H)
   refine ⟨_,rfl,_,rfl,rfl,_,rfl,qa6 (λc1 => ?_) (λc1 => ?_)⟩
   .rw [if_pos (V.str.inj (of_decide_eq_true c1))] at this
    exact ⟨_,rfl,this⟩
   .rw [if_neg (λz=>c1 (decide_eq_true (by rw [z]; rfl)))] at this
    exact this
theorem qx6 (T:Txt K mg a):FnOk P w K mg base CX0 5 a.fU a.mL ["line"] spRowG:=by
 refine T.dB.fn.ok qjy (λvs H Q E h => ?_) (λcdv A outer s H vs Q E hr h => ?_)
 .obtain ⟨_,rfl,_⟩:=h
  all_goals rfl
 .obtain ⟨l,rfl,hl,k,kn⟩:=h
  refine ⟨_,(qk (zf (i:=1) qjy.nd rfl (Az rfl) (qca Bb BU BV qep (pv 0) (qh zp qm qz)))
   (qk (qcr BL rfl (qyu (qbm (v:=.ref a.gZ) rfl T.rN rfl)) (qap (i:=2) qjy.nd rfl (Az rfl)) (qt (zj (ze qay (zn qav (by rfl) T.kI qat (qh (pv 1) qm qj)) (zn qav (by rfl) T.kI qat (qh (pv 2) qm qj)) (qad _)) (qk (qde (i:=3) qjy.nd rfl rfl (N:=["word", "asked"]) (js:=[none,none]) (XN:=["line", "words", "form", "row"]) (xs:=qab qnd) rfl rfl rfl En (pi_zip rfl T.rE (qh (pv 1) (qh (pv 2) qm qj) qj)) (λ_ _ _ _ _ _=>(qw0 (K:=K) rfl (n:=2) rfl (qdj (qap (i:=0) (show Cd (["word", "asked"]:List Str) from by decide +kernel) rfl (Az rfl) (CK rfl)) (qdj (qap (i:=1) (show Cd (["word", "asked"]:List Str) from by decide +kernel) rfl (Az rfl) (CK rfl)) qjt)))) (λ_ _ _ _ _ _=>qc2) (λ_ _ _ _ _ _=>(zm (qtb T) (hr.mono Ez) rfl T.bB.mgx T.bB.fn.kp T.bB.bd .nil qan (qh (pv 0) (qh (pv 1) qm qj) qj))))
   (qt (zj (ze qc1 qbu (pv 3) (by with_unfolding_all rfl)) (qt (zb (pv 3))) qaf))) qaf)))
   (qt (zb qbu)))),?_⟩
  obtain ⟨sl1,sl2⟩:=qgx l 32
  rw [<- qha] at sl1 sl2
  have eb:=qe2 l 32
  rw [<- qha] at eb
  refine ⟨_,rfl,rfl,_,_,rfl,rfl,rfl,qae (Au hl Ez),qae (Au sl1 (by lia)),qae (Au eb (by lia)),λp hp => ?_⟩
  generalize BE l (wS " ")=ws at sl1 sl2 k kn hp |-
  obtain ⟨s1,e1⟩:=alc (o:=.lst (ws.map V.str)) hp
  generalize upd H p _=H1 at s1 e1 |-
  have ft:∀ (i:Nat) (v:V),[.ref a.bM,.ref a.dL,.ref a.bG,.ref a.bH,.ref a.bT,.ref a.bN,.ref a.dE][i]?=some v->∃ (f:List Ask) (t:Addr),qkx[i]?=some f/\v=.ref t/\∀ H,SqT K H t (f.map askV):=λi v e=>by
   have hi:i < 7:=(Af.mp e).1
   rcases (by lia:i=0 \/ i=1 \/ i=2 \/ i=3 \/ i=4 \/ i=5 \/ i=6) with rfl | rfl | rfl | rfl | rfl | rfl | rfl
   .cases e; exact ⟨_,_,rfl,rfl,λH=>T.sY H⟩
   .cases e; exact ⟨_,_,rfl,rfl,λH=>T.sO H⟩
   .cases e; exact ⟨_,_,rfl,rfl,λH=>T.tF H⟩
   .cases e; exact ⟨_,_,rfl,rfl,λH=>T.sG H⟩
   .cases e; exact ⟨_,_,rfl,rfl,λH=>T.pL H⟩
   .cases e; exact ⟨_,_,rfl,rfl,λH=>T.sM H⟩
   .cases e; exact ⟨_,_,rfl,rfl,λH=>T.rB H⟩
  refine ⟨_,rfl,⟨_,T.mG _⟩,qwb (K:=K) (a:=a.gZ) (xs:=[.ref a.bM,.ref a.dL,.ref a.bG,.ref a.bH,.ref a.bT,.ref a.bN,.ref a.dE]) (λi σ H'=>Same H1 H'/\(∀ j f,j < i->qkx[j]?=some f->qcf ws f=none)/\∃ v2 v3:Option V,σ=[some (.str l),some (.ref p),v2,v3]) ⟨Same.refl H1,λj f hj=>absurd hj (DZ _),none,none,rfl⟩ (λi σ H' _ h=>T.mG _) ?_ ?_⟩
  .rintro i v σ H' hv ⟨sH,al,v2,v3,rfl⟩
   obtain ⟨f,t,hf,rfl,ht⟩:=ft i v hv
   have e2:=sH _ _ e1
   have next:qcf ws f=none->∀ j g,j < i + 1->qkx[j]?=some g->qcf ws g=none:=λe j g hj hg=>by
    by_cases c:j=i
    .rw [c,hf] at hg; cases hg; exact e
    .exact al j g (by lia) hg
   refine ⟨_,rfl,_,_,rfl,.inl ⟨_,SqL.of e2,rfl⟩,_,rfl,_,_,rfl,.inr ⟨_,ht _,rfl⟩,rfl,_,rfl,?_⟩
   rw [Ab,Ab]
   by_cases cl:ws.length=f.length
   .refine qfd (by rw [cl]) ?_
    refine ⟨_,rfl,_,rfl,_,_,_,_,rfl,e2,ht _,qux (zsG ws f) (λσ'=>∃ v v',σ'=[v,v']) (SqL.of e2) (ht _) (by rw [Ab,Ab,cl]) (by rw [qxj cl,Ab]) (qae (by rw [Ab]; lia)) ⟨none,none,rfl⟩ (λj y av z t' σ' J RR h1 h2 h3 sm ht' s4 qq => ?_) (gk_tup λxs σ' H' RR RR' hh z => ?_) λq H2 nq s2 eq2 => ?_⟩
    .obtain ⟨v,v',rfl⟩:=s4
     rw [An] at h1 h2
     cases ew:ws[j]? with
     | none=>rw [ew] at h1; cases h1
     | some w1 =>
      cases ef:f[j]? with
      | none=>rw [ef] at h2; cases h2
      | some qa =>
       rw [ew] at h1
       rw [ef] at h2
       cases h1
       cases h2
       have hz:z=(qc9 w1 qa).getD .non:=by
        unfold zsG at h3
        rw [An,show (ws.zip f)[j]?=some (w1,qa) from List.getElem?_zip_eq_some.mpr ⟨ew,ef⟩] at h3
        exact (AF h3).symm
       subst hz
       exact ⟨_,_,rfl,SqT.of ht',rfl,_,_,rfl,_,_,rfl,rfl,_,rfl,_,rfl,w1,qa,rfl,qu8 f (Aw hf) qa (Aw ef),Au (sl2 _ (Aw ew)) (by lia),λJ2 s2=>qq _ _ ⟨_,_,rfl⟩ s2⟩
    .obtain ⟨x1,y1,e1,x2,y2,e2,z⟩:=z
     exact ⟨x1,y1,e1,x2,y2,e2,⟨z.1,hh _ _ z.2⟩⟩
    .refine ⟨_,rfl,_,_,rfl,.inl (SqL.of eq2),rfl,qu7 ws f,_,rfl,?_⟩
     have ev:=qrc cl
     show if (!inV .non (zsG ws f))=true then _ else _
     cases ec:inV .non (zsG ws f) with
     | true =>
      rw [ec] at ev
      exact qbp ⟨sH.trans s2,next ev,_,_,rfl⟩
     | false =>
      rw [ec] at ev
      have er:qif ws=some (zsG ws f):=by
       unfold qif
       exact qrd hf ev al
      exact qb7 ⟨_,rfl,k q H2 _ ((s1.trans sH).free nq) ((s1.trans sH).trans s2) er eq2⟩
   .exact qa4 (λz=>cl (DT (V.int.inj z))) ⟨sH,next (qa0 cl),_,_,rfl⟩
  .rintro σ H' ⟨sH,al,v2,v3,rfl⟩
   have er:qif ws=none:=by
    unfold qif
    rw [List.findSome?_eq_none_iff]
    intro f hf
    obtain ⟨j,hj⟩:=Bj hf
    exact al j f (by have:=(Af.mp hj).1; exact this) hj
   exact kn er H' (s1.trans sH)
theorem qqj (T:Txt K mg a):FnOk P w K mg base CX0 1 a.dP a.dN ["self", "name", "who", "owes", "opens", "base", "many", "unit", "still"] (spRlG a):=by
 refine T.r9.fn.ok qp1 (λvs H Q E h => ?_) (λcdv A outer s H vs Q E hr h => ?_)
 .obtain ⟨_,_,_,_,_,_,_,_,_,_,rfl,_⟩:=h
  all_goals rfl
 .obtain ⟨x,dx,vn,vw,vo,vp,vb,vm,vu,vs',rfl,hx,k⟩:=h
  refine ⟨_,(qk (qdd (pv 0) (pv 1) rfl)
   (qk (qdd (pv 0) (pv 2) rfl)
   (qk (qdd (pv 0) (pv 3) rfl)
   (qk (qdd (pv 0) (pv 4) rfl)
   (qk (qdd (pv 0) (pv 5) rfl)
   (qk (qdd (pv 0) (pv 6) rfl)
   (qk (qdd (pv 0) (pv 7) rfl)
   (qk (qdd (pv 0) (pv 8) rfl)
   (qk (qdd (pv 0) (zq qm) rfl)
   (qk (qdd (pv 0) (zq qm) rfl)
   (qk (qdd (pv 0) (zq qm) rfl)
   (qt (qdd (pv 0) (zq qm) rfl))))))))))))),?_⟩
  have b0:SameBut x H H:=λ_ _ _ e=>e
  have x0:=hx
  refine ⟨_,rfl,_,rfl,_,_,_,_,rfl,x0,T.kD,zc T.kE Ez,(show 0 < 1000 by decide),?_⟩
  rw [show qcs (Aa "name") vn []=(rq1 vn) by with_unfolding_all rfl]
  have b1:SameBut x H (upd H x (.ins a.k7 dx (rq1 vn))):=b0.set
  have x1:=qu (H:=H) (a:=x) (o:=.ins a.k7 dx (rq1 vn))
  generalize upd H x _=H1 at b1 x1 |-
  refine ⟨_,rfl,_,rfl,_,_,_,_,rfl,x1,T.kD,zc T.kE Ez,(show 1 < 1000 by decide),?_⟩
  rw [show qcs (Aa "who") vw (rq1 vn)=(rq2 vn vw) by with_unfolding_all rfl]
  have b2:SameBut x H (upd H1 x (.ins a.k7 dx (rq2 vn vw))):=b1.set
  have x2:=qu (H:=H1) (a:=x) (o:=.ins a.k7 dx (rq2 vn vw))
  generalize upd H1 x _=H2 at b2 x2 |-
  refine ⟨_,rfl,_,rfl,_,_,_,_,rfl,x2,T.kD,zc T.kE Ez,(show 2 < 1000 by decide),?_⟩
  rw [show qcs (Aa "owes") vo (rq2 vn vw)=(rq3 vn vw vo) by with_unfolding_all rfl]
  have b3:SameBut x H (upd H2 x (.ins a.k7 dx (rq3 vn vw vo))):=b2.set
  have x3:=qu (H:=H2) (a:=x) (o:=.ins a.k7 dx (rq3 vn vw vo))
  generalize upd H2 x _=H3 at b3 x3 |-
  refine ⟨_,rfl,_,rfl,_,_,_,_,rfl,x3,T.kD,zc T.kE Ez,(show 3 < 1000 by decide),?_⟩
  rw [show qcs (Aa "opens") vp (rq3 vn vw vo)=(rq4 vn vw vo vp) by with_unfolding_all rfl]
  have b4:SameBut x H (upd H3 x (.ins a.k7 dx (rq4 vn vw vo vp))):=b3.set
  have x4:=qu (H:=H3) (a:=x) (o:=.ins a.k7 dx (rq4 vn vw vo vp))
  generalize upd H3 x _=H4 at b4 x4 |-
  refine ⟨_,rfl,_,rfl,_,_,_,_,rfl,x4,T.kD,zc T.kE Ez,(show 4 < 1000 by decide),?_⟩
  rw [show qcs (Aa "base") vb (rq4 vn vw vo vp)=(rq5 vn vw vo vp vb) by with_unfolding_all rfl]
  have b5:SameBut x H (upd H4 x (.ins a.k7 dx (rq5 vn vw vo vp vb))):=b4.set
  have x5:=qu (H:=H4) (a:=x) (o:=.ins a.k7 dx (rq5 vn vw vo vp vb))
  generalize upd H4 x _=H5 at b5 x5 |-
  refine ⟨_,rfl,_,rfl,_,_,_,_,rfl,x5,T.kD,zc T.kE Ez,(show 5 < 1000 by decide),?_⟩
  rw [show qcs (Aa "many") vm (rq5 vn vw vo vp vb)=(rq6 vn vw vo vp vb vm) by with_unfolding_all rfl]
  have b6:SameBut x H (upd H5 x (.ins a.k7 dx (rq6 vn vw vo vp vb vm))):=b5.set
  have x6:=qu (H:=H5) (a:=x) (o:=.ins a.k7 dx (rq6 vn vw vo vp vb vm))
  generalize upd H5 x _=H6 at b6 x6 |-
  refine ⟨_,rfl,_,rfl,_,_,_,_,rfl,x6,T.kD,zc T.kE Ez,(show 6 < 1000 by decide),?_⟩
  rw [show qcs (Aa "unit") vu (rq6 vn vw vo vp vb vm)=(rq7 vn vw vo vp vb vm vu) by with_unfolding_all rfl]
  have b7:SameBut x H (upd H6 x (.ins a.k7 dx (rq7 vn vw vo vp vb vm vu))):=b6.set
  have x7:=qu (H:=H6) (a:=x) (o:=.ins a.k7 dx (rq7 vn vw vo vp vb vm vu))
  generalize upd H6 x _=H7 at b7 x7 |-
  refine ⟨_,rfl,_,rfl,_,_,_,_,rfl,x7,T.kD,zc T.kE Ez,(show 7 < 1000 by decide),?_⟩
  rw [show qcs (Aa "still") vs' (rq7 vn vw vo vp vb vm vu)=(rq8 vn vw vo vp vb vm vu vs') by with_unfolding_all rfl]
  have b8:SameBut x H (upd H7 x (.ins a.k7 dx (rq8 vn vw vo vp vb vm vu vs'))):=b7.set
  have x8:=qu (H:=H7) (a:=x) (o:=.ins a.k7 dx (rq8 vn vw vo vp vb vm vu vs'))
  generalize upd H7 x _=H8 at b8 x8 |-
  refine ⟨qfe,λpe npe => ?_⟩
  obtain ⟨s8,epe⟩:=alc (o:=.lst []) npe
  have x8':=s8 _ _ x8
  have nepe:pe ≠ x:=λz=>by rw [z,x8] at npe; cases npe
  have fpe:H pe=none:=b8.free nepe npe
  have b8':=b8.trans (SameBut.of s8)
  generalize upd H8 pe _=J8 at s8 epe x8' b8'  |-
  refine ⟨_,rfl,_,_,_,_,rfl,x8',T.kD,zc T.kE Ez,(show 8 < 1000 by decide),?_⟩
  rw [show qcs (Aa "ends") (.ref pe) (rq8 vn vw vo vp vb vm vu vs')=(rq9 vn vw vo vp vb vm vu vs' (.ref pe)) by with_unfolding_all rfl]
  have b9:SameBut x H (upd J8 x (.ins a.k7 dx (rq9 vn vw vo vp vb vm vu vs' (.ref pe)))):=b8'.set
  have x9:=qu (H:=J8) (a:=x) (o:=.ins a.k7 dx (rq9 vn vw vo vp vb vm vu vs' (.ref pe)))
  have epe:=(zd (o:=.ins a.k7 dx (rq9 vn vw vo vp vb vm vu vs' (.ref pe))) nepe).trans epe
  generalize upd J8 x _=H9 at b9 x9 epe  |-
  refine ⟨qfe,λpa npa => ?_⟩
  obtain ⟨s9,epa⟩:=alc (o:=.lst []) npa
  have x9':=s9 _ _ x9
  have nepa:pa ≠ x:=λz=>by rw [z,x9] at npa; cases npa
  have fpa:H pa=none:=b9.free nepa npa
  have dpepa:=qag epe npa
  have epe:=s9 _ _ epe
  have b9':=b9.trans (SameBut.of s9)
  generalize upd H9 pa _=J9 at s9 epa x9' b9' epe |-
  refine ⟨_,rfl,_,_,_,_,rfl,x9',T.kD,zc T.kE Ez,(show 9 < 1000 by decide),?_⟩
  rw [show qcs (Aa "anew") (.ref pa) (rq9 vn vw vo vp vb vm vu vs' (.ref pe))=(qp3 vn vw vo vp vb vm vu vs' (.ref pe) (.ref pa)) by with_unfolding_all rfl]
  have b10:SameBut x H (upd J9 x (.ins a.k7 dx (qp3 vn vw vo vp vb vm vu vs' (.ref pe) (.ref pa)))):=b9'.set
  have x10:=qu (H:=J9) (a:=x) (o:=.ins a.k7 dx (qp3 vn vw vo vp vb vm vu vs' (.ref pe) (.ref pa)))
  have epa:=(zd (o:=.ins a.k7 dx (qp3 vn vw vo vp vb vm vu vs' (.ref pe) (.ref pa))) nepa).trans epa
  have epe:=(zd (o:=.ins a.k7 dx (qp3 vn vw vo vp vb vm vu vs' (.ref pe) (.ref pa))) nepe).trans epe
  generalize upd J9 x _=H10 at b10 x10 epa epe |-
  refine ⟨qfe,λpl npl => ?_⟩
  obtain ⟨s10,epl⟩:=alc (o:=.lst []) npl
  have x10':=s10 _ _ x10
  have nepl:pl ≠ x:=λz=>by rw [z,x10] at npl; cases npl
  have fpl:H pl=none:=b10.free nepl npl
  have dpepl:=qag epe npl
  have dpapl:=qag epa npl
  have epe:=s10 _ _ epe
  have epa:=s10 _ _ epa
  have b10':=b10.trans (SameBut.of s10)
  generalize upd H10 pl _=J10 at s10 epl x10' b10' epe epa |-
  refine ⟨_,rfl,_,_,_,_,rfl,x10',T.kD,zc T.kE Ez,(show 10 < 1000 by decide),?_⟩
  rw [show qcs (Aa "longer") (.ref pl) (qp3 vn vw vo vp vb vm vu vs' (.ref pe) (.ref pa))=(qov vn vw vo vp vb vm vu vs' (.ref pe) (.ref pa) (.ref pl)) by with_unfolding_all rfl]
  have b11:SameBut x H (upd J10 x (.ins a.k7 dx (qov vn vw vo vp vb vm vu vs' (.ref pe) (.ref pa) (.ref pl)))):=b10'.set
  have x11:=qu (H:=J10) (a:=x) (o:=.ins a.k7 dx (qov vn vw vo vp vb vm vu vs' (.ref pe) (.ref pa) (.ref pl)))
  have epl:=(zd (o:=.ins a.k7 dx (qov vn vw vo vp vb vm vu vs' (.ref pe) (.ref pa) (.ref pl))) nepl).trans epl
  have epe:=(zd (o:=.ins a.k7 dx (qov vn vw vo vp vb vm vu vs' (.ref pe) (.ref pa) (.ref pl))) nepe).trans epe
  have epa:=(zd (o:=.ins a.k7 dx (qov vn vw vo vp vb vm vu vs' (.ref pe) (.ref pa) (.ref pl))) nepa).trans epa
  generalize upd J10 x _=H11 at b11 x11 epl epe epa |-
  refine ⟨qfe,λpy npy => ?_⟩
  obtain ⟨s11,epy⟩:=alc (o:=.lst []) npy
  have x11':=s11 _ _ x11
  have nepy:py ≠ x:=λz=>by rw [z,x11] at npy; cases npy
  have fpy:H py=none:=b11.free nepy npy
  have dpepy:=qag epe npy
  have dpapy:=qag epa npy
  have dplpy:=qag epl npy
  have epe:=s11 _ _ epe
  have epa:=s11 _ _ epa
  have epl:=s11 _ _ epl
  have b11':=b11.trans (SameBut.of s11)
  generalize upd H11 py _=J11 at s11 epy x11' b11' epe epa epl |-
  refine ⟨_,rfl,_,_,_,_,rfl,x11',T.kD,zc T.kE Ez,(show 11 < 1000 by decide),?_⟩
  rw [show qcs (Aa "yields") (.ref py) (qov vn vw vo vp vb vm vu vs' (.ref pe) (.ref pa) (.ref pl))=(qp4 vn vw vo vp vb vm vu vs' (.ref pe) (.ref pa) (.ref pl) (.ref py)) by with_unfolding_all rfl]
  have b12:SameBut x H (upd J11 x (.ins a.k7 dx (qp4 vn vw vo vp vb vm vu vs' (.ref pe) (.ref pa) (.ref pl) (.ref py)))):=b11'.set
  have x12:=qu (H:=J11) (a:=x) (o:=.ins a.k7 dx (qp4 vn vw vo vp vb vm vu vs' (.ref pe) (.ref pa) (.ref pl) (.ref py)))
  have epy:=(zd (o:=.ins a.k7 dx (qp4 vn vw vo vp vb vm vu vs' (.ref pe) (.ref pa) (.ref pl) (.ref py))) nepy).trans epy
  have epe:=(zd (o:=.ins a.k7 dx (qp4 vn vw vo vp vb vm vu vs' (.ref pe) (.ref pa) (.ref pl) (.ref py))) nepe).trans epe
  have epa:=(zd (o:=.ins a.k7 dx (qp4 vn vw vo vp vb vm vu vs' (.ref pe) (.ref pa) (.ref pl) (.ref py))) nepa).trans epa
  have epl:=(zd (o:=.ins a.k7 dx (qp4 vn vw vo vp vb vm vu vs' (.ref pe) (.ref pa) (.ref pl) (.ref py))) nepl).trans epl
  generalize upd J11 x _=H12 at b12 x12 epy epe epa epl |-
  refine k H12 pe pa pl py b12 fpe fpa fpl fpy x12 epe epa epl epy ?_
  simp only [AW,Ao,Ar,or_false,not_or]
  exact ⟨⟨nepe.symm,nepa.symm,nepl.symm,nepy.symm⟩,⟨dpepa,dpepl,dpepy⟩,⟨dpapl,dpapy⟩,dplpy,not_false,.nil⟩
theorem qpa (T:Txt K mg a):FnOk P w K mg base CX0 1 a.fF a.nN ["self", "name"] (qxi K "name"):=by
 refine T.fB.fn.ok qos (λvs H Q E h => ?_) (λcdv A outer s H vs Q E hr h => ?_)
 .obtain ⟨_,_,_,_,rfl,_⟩:=h
  all_goals rfl
 .obtain ⟨x,C,y,ini,rfl,hx,xa,no,k⟩:=h
  refine ⟨_,(qk (zi (qge T.gW rfl T.kS (qh (pv 0) (qh (pv 1) qm qj) qj)))
   (qt (qh4 (pv 0) (pv 1) rfl))),?_⟩
  refine ⟨_,rfl,_,rfl,x,C,none,[y],ini,rfl,hx,xa.xc,qae (show 1 <= 100000 by decide),?_⟩
  refine ⟨_,rfl,_,rfl,x,C,true,rfl,xa.set no,.inl ⟨hx,λdx hd => ?_⟩⟩
  have ne:dx ≠ x:=λz=>by rw [z,hx] at hd; cases hd
  exact k dx _ hd (λb o hb e=>by rw [zd hb,zd (qag e hd)]; exact e) qu (by rw [zd ne]; exact qu)
theorem qgu (T:Txt K mg a):FnOk P w K mg base CX0 1 a.dX a.lF ["self", "at"] (qxi K "at"):=by
 refine T.kY.fn.ok qot (λvs H Q E h => ?_) (λcdv A outer s H vs Q E hr h => ?_)
 .obtain ⟨_,_,_,_,rfl,_⟩:=h
  all_goals rfl
 .obtain ⟨x,C,y,ini,rfl,hx,xa,no,k⟩:=h
  refine ⟨_,(qk (zi (qge T.gW rfl T.kS (qh (pv 0) (qh (pv 1) qm qj) qj)))
   (qt (qh4 (pv 0) (pv 1) rfl))),?_⟩
  refine ⟨_,rfl,_,rfl,x,C,none,[y],ini,rfl,hx,xa.xc,qae (show 1 <= 100000 by decide),?_⟩
  refine ⟨_,rfl,_,rfl,x,C,true,rfl,xa.set no,.inl ⟨hx,λdx hd => ?_⟩⟩
  have ne:dx ≠ x:=λz=>by rw [z,hx] at hd; cases hd
  exact k dx _ hd (λb o hb e=>by rw [zd hb,zd (qag e hd)]; exact e) qu (by rw [zd ne]; exact qu)
theorem qqk (T:Txt K mg a):FnOk P w K mg base (CX1 P w) 3 a.mO a.fV ["told", "at", "row"] (spTm a):=by
 refine okX T.dJ.fn qes (λvs H Q E h => ?_) (λcdv A outer s H vs Q E hr h => ?_)
 .obtain ⟨_,_,_,_,_,_,_,_,_,_,_,_,rfl,_⟩:=h
  all_goals rfl
 .obtain ⟨d,p,i,rs,As,x,w1,o,dd,y,m,u,rfl,st,l6,hp,k,kx⟩:=h
  refine ⟨_,(qk (zf (i:=3) qes.nd rfl (Az rfl) (zy jb (pv 2) qp (λ_ _=>rfl)))
   (qk (zj (qm0 (qy1 (qf5 hr) (pv 3) (pv 0))) (qt (qdl rfl (Takes.at qbo) (qec T.kZ.xc T.fB.ty (qpa T) (hr.mono Ez) rfl T.bS T.kZ.kp T.fB.bd .nil qan (qh (pv 3) qm qj)))) qaf)
   (qk (zf (i:=4) qes.nd rfl (Az rfl) (qd1 (ze qay (zy jb (pv 2) qp (λ_ _=>rfl)) zp (qad _)) (zy jb (pv 2) qp (λ_ _=>rfl)) qbu))
   (qk (zf (i:=5) qes.nd rfl (Az rfl) (qd1 (ze qay (zy jb (pv 2) qp (λ_ _=>rfl)) zp (qad _)) (zy jb (pv 2) qp (λ_ _=>rfl)) qbu))
   (qk (zf (i:=6) qes.nd rfl (Az rfl) (qwf T.pY (qqj T) (hr.mono Ez) rfl T.sI T.pH (dvs:=[.non]) (.cons rfl .nil) qan (qh (pv 3) (qh (zy jb (pv 2) qp (λ_ _=>rfl)) (qh (zy jb (pv 2) qp (λ_ _=>rfl)) (qh (pv 4) (qh (pv 5) (qh (zy jb (pv 2) qp (λ_ _=>rfl)) (qh (zy jb (pv 2) qp (λ_ _=>rfl)) qm zw) zw) qj) qj) zw) zw) qj)))
   (qk (zj (PW.pt (qez (ze qay (zn qsl (by rfl) T.kI qat (qh (pv 0) qm qj)) (qbm (v:=.int 6) rfl T.pC.choose_spec ⟨_,rfl⟩) (qad _)) (qej (ze qay (qbc (pv 6) rfl) (qbc (pv 6) rfl) (qad _))))) (qt (qdl rfl (Takes.at qbo) (qec T.kK.xc T.kY.ty (qgu T) (hr.mono Ez) rfl T.gA T.kK.kp T.kY.bd .nil qan (qh (pv 1) qm qj)))) qaf)
   (qt (qm6 (qf5 hr) (pv 0) (pv 3) (pv 6) rfl)))))))),?_⟩
  refine ⟨_,rfl,_,_,_,_,rfl,rfl,SqL.of (hp),rfl,?_⟩
  cases pn:qar rs x with
  | some j =>
   obtain ⟨r,A,_,_,_,_,g⟩:=st.get pn
   refine ⟨_,rfl,_,rfl,d,_,rfl,g,_,rfl,qb7 ?_⟩
   exact ⟨_,rfl,qae (show 1 <= 100000 by decide),λx1 n1=>⟨x1,a.kF,_,_,rfl,qu,T.kZ,zc T.nL Ez,λd1 H9 hd1 kp o1 od1=>⟨rfl,x1,_,some d1,rfl,o1,⟨_,od1⟩,T.pJ,(kx _ (qkz (by rw [pn]; rfl))) x1 d1 _ (qam (((Same.refl H)).trans (qbk n1 kp)) (((Same.refl H)).free n1)) qu ((zd (λz=>by rw [z,qu] at hd1; cases hd1)).trans od1)⟩⟩⟩
  | none =>
   refine ⟨_,rfl,_,rfl,d,_,rfl,st.non pn,_,rfl,qbp ?_⟩
   cases dd with
   | false =>
    refine ⟨_,rfl,_,_,_,_,rfl,rfl,SqL.of (hp),rfl,rfl,_,rfl,qfd rfl ⟨_,rfl,_,_,_,_,rfl,rfl,SqL.of (hp),rfl,?_⟩⟩
    refine ⟨_,rfl,_,_,_,_,rfl,rfl,SqL.of (hp),rfl,rfl,_,rfl,qa4 En ?_⟩
    refine ⟨_,rfl,_,rfl,_,_,_,_,rfl,rfl,SqL.of (hp),rfl,_,rfl,_,_,_,_,rfl,rfl,SqL.of (hp),rfl,_,rfl,_,rfl,_,rfl,_,_,_,_,rfl,rfl,SqL.of (hp),rfl,_,rfl,_,_,_,_,rfl,rfl,SqL.of (hp),rfl,λxr dx nx nd ne => ?_⟩
    refine ⟨xr,dx,_,_,_,_,_,_,_,_,rfl,qu,λH1 pe pa pl py b1 ne1 na1 nl1 ny1 hx1 he1 ha1 hl1 hy1 nd5=>⟨rfl,?_⟩⟩
    have keep:Same H (upd (upd H dx (.own xr)) xr (.ins a.k7 dx [])):=λb u e=>by rw [zd (qag e nx),zd (qag e nd)]; exact e
    have s1:Same H H1:=b1.made nx nd
    have fe:=keep.free ne1
    have fa:=keep.free na1
    have fl:=keep.free nl1
    have fy:=keep.free ny1
    have hd1:=s1 _ _ st.hd
    have lk:=qj0 st.ln
    dsimp only []
    refine ⟨_,rfl,d,_,rfl,hd1,rfl,_,rfl,qa6 (λc => ?_) (λc => ?_)⟩
    .have c:((dcR rs As).length:Int)=6:=V.int.inj (of_decide_eq_true c)
     exact ⟨_,rfl,qae (show 1 <= 100000 by decide),λx1 n1=>⟨x1,a.k9,_,_,rfl,qu,T.kK,zc T.kW Ez,λd1 H9 hd1 kp o1 od1=>⟨rfl,x1,_,some d1,rfl,o1,⟨_,od1⟩,T.gB,(kx _ (qgm (d:=false) pn (.inl (by lia)))) x1 d1 _ (qam ((s1).trans (qbk n1 kp)) ((s1).free n1)) qu ((zd (λz=>by rw [z,qu] at hd1; cases hd1)).trans od1)⟩⟩⟩
    have c6:rs.length ≠ 6:=λz=>c (decide_eq_true (by rw [lk,z]; rfl))
    refine ⟨_,rfl,_,_,_,_,_,rfl,hx1,T.kD,zc T.kE Ez,rfl,_,rfl,_,_,_,_,_,rfl,hx1,T.kD,zc T.kE Ez,rfl,rfl,_,rfl,qa6 (λc2 => ?_) (λc2 => ?_)⟩
    .have c2:o=y:=V.str.inj (of_decide_eq_true c2)
     exact ⟨_,rfl,qae (show 1 <= 100000 by decide),λx1 n1=>⟨x1,a.k9,_,_,rfl,qu,T.kK,zc T.kW Ez,λd1 H9 hd1 kp o1 od1=>⟨rfl,x1,_,some d1,rfl,o1,⟨_,od1⟩,T.gB,(kx _ (qgm (d:=false) pn (.inr ⟨rfl,c2⟩))) x1 d1 _ (qam ((s1).trans (qbk n1 kp)) ((s1).free n1)) qu ((zd (λz=>by rw [z,qu] at hd1; cases hd1)).trans od1)⟩⟩⟩
    have c7:¬ (rs.length=6 \/ (false=false/\o=y)):=λz=>z.elim c6 λz=>c2 (decide_eq_true (by rw [z.2]))
    refine ⟨_,rfl,_,rfl,_,rfl,d,_,rfl,DPut.k (k:=.inr x) hd1 (by rw [Bf,lk]; lia),?_⟩
    have ep:qfm (dcR rs As) (.inr x) (.ref xr)=dcR rs As ++ [(.inr x,.ref xr)]:=qj9 _ (by rw [qg2 x st.ln,pn]; rfl)
    rw [ep]
    have kd:KeepT [d] H1 (upd H1 d (.dK (dcR rs As ++ [(.inr x,.ref xr)]))):=KeepT.put (Ai.mpr rfl) hd1 (λ_ z=>nomatch z)
    have ho:∀ z ∈ own ⟨xr,dx,pe,pa,pl,py⟩,H z=none:=λz hz=>by
     simp only [own,Ao,Ar,or_false] at hz
     rcases hz with rfl | rfl | rfl | rfl | rfl
     .exact nx
     .exact fe
     .exact fa
     .exact fl
     .exact fy
    have hin:∀ z ∈ d :: As.flatMap own,H z ≠ none:=λz hz e=>by
     rcases Ao.mp hz with rfl | hz
     .rw [st.hd] at e; cases e
     .obtain ⟨A',hA',hz'⟩:=BS.mp hz
      obtain ⟨jA,hjA⟩:=Bj hA'
      have lj:jA < rs.length:=by rw [<- st.ln]; exact (Af.mp hjA).1
      obtain ⟨v',us',ry⟩:=st.ru jA _ A' (Aj lj) hjA
      simp only [own,Ao,Ar,or_false] at hz'
      rcases hz' with rfl | rfl | rfl | rfl | rfl
      .rw [ry.hx] at e; cases e
      .rw [ry.he] at e; cases e
      .rw [ry.ha] at e; cases e
      .rw [ry.hl] at e; cases e
      .rw [ry.hy] at e; cases e
    have nz:∀ z ∈ own ⟨xr,dx,pe,pa,pl,py⟩,z ≠ d:=λz hz e=>hin d Ak (e ▸ ho z hz)
    have ux:RuX a.k7 H1 ⟨xr,dx,pe,pa,pl,py⟩ (qnl x w1 o false y m u):=⟨.non,[],hx1,rfl,he1,ha1,hl1,.nil,hy1⟩
    refine k _ (qfg pn c7) _ (As ++ [⟨xr,dx,pe,pa,pl,py⟩]) ((KeepT.of s1).trans (kd.sub λz hz=>by rw [Ai.mp hz]; exact Ak)) (λz hz => ?_) ((st.same s1).snoc kd qu (ux.keep kd λz hz hz2=>nz z hz (Ai.mp hz2)) pn (show (own ⟨xr,dx,pe,pa,pl,py⟩).Nodup from nd5) λz hz=>⟨nz z hz,λhz2=>hin z (At _ hz2) (ho z hz)⟩)
    rw [Bp] at hz
    rcases Ax.mp hz with q | q
    .exact .inl q
    .exact .inr (ho z (by simpa using q))
   | true =>
    refine ⟨_,rfl,_,_,_,_,rfl,rfl,SqL.of (hp),rfl,rfl,_,rfl,qa4 En ?_⟩
    refine ⟨_,rfl,_,_,_,_,rfl,rfl,SqL.of (hp),rfl,rfl,_,rfl,qfd rfl ⟨_,rfl,_,_,_,_,rfl,rfl,SqL.of (hp),rfl,?_⟩⟩
    refine ⟨_,rfl,_,rfl,_,_,_,_,rfl,rfl,SqL.of (hp),rfl,_,rfl,_,_,_,_,rfl,rfl,SqL.of (hp),rfl,_,rfl,_,rfl,_,rfl,_,_,_,_,rfl,rfl,SqL.of (hp),rfl,_,rfl,_,_,_,_,rfl,rfl,SqL.of (hp),rfl,λxr dx nx nd ne => ?_⟩
    refine ⟨xr,dx,_,_,_,_,_,_,_,_,rfl,qu,λH1 pe pa pl py b1 ne1 na1 nl1 ny1 hx1 he1 ha1 hl1 hy1 nd5=>⟨rfl,?_⟩⟩
    have keep:Same H (upd (upd H dx (.own xr)) xr (.ins a.k7 dx [])):=λb u e=>by rw [zd (qag e nx),zd (qag e nd)]; exact e
    have s1:Same H H1:=b1.made nx nd
    have fe:=keep.free ne1
    have fa:=keep.free na1
    have fl:=keep.free nl1
    have fy:=keep.free ny1
    have hd1:=s1 _ _ st.hd
    have lk:=qj0 st.ln
    dsimp only []
    refine ⟨_,rfl,d,_,rfl,hd1,rfl,_,rfl,qa6 (λc => ?_) (λc => ?_)⟩
    .have c:((dcR rs As).length:Int)=6:=V.int.inj (of_decide_eq_true c)
     exact ⟨_,rfl,qae (show 1 <= 100000 by decide),λx1 n1=>⟨x1,a.k9,_,_,rfl,qu,T.kK,zc T.kW Ez,λd1 H9 hd1 kp o1 od1=>⟨rfl,x1,_,some d1,rfl,o1,⟨_,od1⟩,T.gB,(kx _ (qgm (d:=true) pn (.inl (by lia)))) x1 d1 _ (qam ((s1).trans (qbk n1 kp)) ((s1).free n1)) qu ((zd (λz=>by rw [z,qu] at hd1; cases hd1)).trans od1)⟩⟩⟩
    have c6:rs.length ≠ 6:=λz=>c (decide_eq_true (by rw [lk,z]; rfl))
    refine ⟨_,rfl,_,_,_,_,_,rfl,hx1,T.kD,zc T.kE Ez,rfl,_,rfl,_,_,_,_,_,rfl,hx1,T.kD,zc T.kE Ez,rfl,rfl,_,rfl,qa6 (λc2 => ?_) (λc2 => ?_)⟩
    .exact nomatch of_decide_eq_true c2
    have c7:¬ (rs.length=6 \/ (true=false/\o=y)):=λz=>z.elim c6 λz=>nomatch z.1
    refine ⟨_,rfl,_,rfl,_,rfl,d,_,rfl,DPut.k (k:=.inr x) hd1 (by rw [Bf,lk]; lia),?_⟩
    have ep:qfm (dcR rs As) (.inr x) (.ref xr)=dcR rs As ++ [(.inr x,.ref xr)]:=qj9 _ (by rw [qg2 x st.ln,pn]; rfl)
    rw [ep]
    have kd:KeepT [d] H1 (upd H1 d (.dK (dcR rs As ++ [(.inr x,.ref xr)]))):=KeepT.put (Ai.mpr rfl) hd1 (λ_ z=>nomatch z)
    have ho:∀ z ∈ own ⟨xr,dx,pe,pa,pl,py⟩,H z=none:=λz hz=>by
     simp only [own,Ao,Ar,or_false] at hz
     rcases hz with rfl | rfl | rfl | rfl | rfl
     .exact nx
     .exact fe
     .exact fa
     .exact fl
     .exact fy
    have hin:∀ z ∈ d :: As.flatMap own,H z ≠ none:=λz hz e=>by
     rcases Ao.mp hz with rfl | hz
     .rw [st.hd] at e; cases e
     .obtain ⟨A',hA',hz'⟩:=BS.mp hz
      obtain ⟨jA,hjA⟩:=Bj hA'
      have lj:jA < rs.length:=by rw [<- st.ln]; exact (Af.mp hjA).1
      obtain ⟨v',us',ry⟩:=st.ru jA _ A' (Aj lj) hjA
      simp only [own,Ao,Ar,or_false] at hz'
      rcases hz' with rfl | rfl | rfl | rfl | rfl
      .rw [ry.hx] at e; cases e
      .rw [ry.he] at e; cases e
      .rw [ry.ha] at e; cases e
      .rw [ry.hl] at e; cases e
      .rw [ry.hy] at e; cases e
    have nz:∀ z ∈ own ⟨xr,dx,pe,pa,pl,py⟩,z ≠ d:=λz hz e=>hin d Ak (e ▸ ho z hz)
    have ux:RuX a.k7 H1 ⟨xr,dx,pe,pa,pl,py⟩ (qnl x w1 o true y m u):=⟨.non,[],hx1,rfl,he1,ha1,hl1,.nil,hy1⟩
    refine k _ (qfg pn c7) _ (As ++ [⟨xr,dx,pe,pa,pl,py⟩]) ((KeepT.of s1).trans (kd.sub λz hz=>by rw [Ai.mp hz]; exact Ak)) (λz hz => ?_) ((st.same s1).snoc kd qu (ux.keep kd λz hz hz2=>nz z hz (Ai.mp hz2)) pn (show (own ⟨xr,dx,pe,pa,pl,py⟩).Nodup from nd5) λz hz=>⟨nz z hz,λhz2=>hin z (At _ hz2) (ho z hz)⟩)
    rw [Bp] at hz
    rcases Ax.mp hz with q | q
    .exact .inl q
    .exact .inr (ho z (by simpa using q))
theorem qfv (T:Txt K mg a):FnOk P w K mg base CX0 1 a.dS a.fS ["self", "name"] (qxi K "name"):=by
 refine T.gF.fn.ok qne (λvs H Q E h => ?_) (λcdv A outer s H vs Q E hr h => ?_)
 .obtain ⟨_,_,_,_,rfl,_⟩:=h
  all_goals rfl
 .obtain ⟨x,C,y,ini,rfl,hx,xa,no,k⟩:=h
  refine ⟨_,(qk (zi (qge T.gW rfl T.kS (qh (pv 0) (qh (pv 1) qm qj) qj)))
   (qt (qh4 (pv 0) (pv 1) rfl))),?_⟩
  refine ⟨_,rfl,_,rfl,x,C,none,[y],ini,rfl,hx,xa.xc,qae (show 1 <= 100000 by decide),?_⟩
  refine ⟨_,rfl,_,rfl,x,C,true,rfl,xa.set no,.inl ⟨hx,λdx hd => ?_⟩⟩
  have ne:dx ≠ x:=λz=>by rw [z,hx] at hd; cases hd
  exact k dx _ hd (λb o hb e=>by rw [zd hb,zd (qag e hd)]; exact e) qu (by rw [zd ne]; exact qu)
theorem qlh (T:Txt K mg a):FnOk P w K mg base CX0 1 a.dY a.nH ["self"] (spAk a):=by
 refine T.lN.fn.ok qgj (λvs H Q E h => ?_) (λcdv A outer s H vs Q E hr h => ?_)
 .obtain ⟨_,_,rfl,_⟩:=h
  all_goals rfl
 .obtain ⟨A,r,rfl,ru,l1,l2,l3,k⟩:=h
  refine ⟨_,(qk (zf (i:=1) qgj.nd rfl (Az rfl) (zg qbi (zg qbi (zg qbi (zq (qh (qbc (pv 0) rfl) qm qcl)) (qbc (pv 0) rfl)) (qbc (pv 0) rfl)) (qe0 (N:=["row"]) (js:=[none]) (XN:=["self", "kinds"]) (xs:=qab qdz) rfl rfl rfl En (qb8 (qbc (pv 0) rfl)) (λ_ _ _ _ _ _=>(qap (i:=0) (show Cd (["row"]:List Str) from by decide +kernel) rfl (Az rfl) (CK rfl))) (λ_ _ _ _ _ _=>qc2) (λ_ _ _ _ _ _=>(zy (qwy (K:=K) rfl) (pv 0) qp (λ_ _=>rfl))))))
   (qk (zj (ze qea (qbc (pv 0) rfl) qbu (qad _)) (qt (zi (qca AT AZ Ba qbw (pv 1) (qh (qbc (pv 0) rfl) qm qcl)))) qaf)
   (qk (zj (ze qea (qbc (pv 0) rfl) qbu (qad _)) (qt (zi (qca AT PySem.F.slot_list_extend PySem.F.type_list_extend qpx (pv 1) (qh (qbc (pv 0) rfl) qm qcl)))) qaf)
   (qt (zb (pv 1)))))),?_⟩
  obtain ⟨v,us,hx,hs,he,ha,hl,tl,hy⟩:=ru
  have lu:us.length=r.longer.length:=by rw [tl.length,Ab]
  refine ⟨_,rfl,_,_,_,_,_,rfl,hx,T.kD,zc T.kE Ez,rfl,qae (show 1 <= 100000 by decide),λq1 n1 => ?_⟩
  obtain ⟨s1,e1⟩:=alc (o:=.lst [V.str r.owes]) n1
  generalize upd H q1 _=H1 at s1 e1 |-
  refine ⟨_,rfl,_,_,_,_,_,rfl,s1 _ _ hx,T.kD,zc T.kE Ez,rfl,_,_,_,_,rfl,rfl,e1,s1 _ _ he,qae (by rw [Ab]; show 1 + _ <= _; lia),λq2 n2 => ?_⟩
  obtain ⟨s2,e2⟩:=alc (o:=.lst ([V.str r.owes] ++ r.ends.map V.str)) n2
  generalize upd H1 q2 _=H2 at s2 e2 |-
  have s12:=s1.trans s2
  refine ⟨_,rfl,_,_,_,_,_,rfl,s12 _ _ hx,T.kD,zc T.kE Ez,rfl,_,_,_,_,rfl,rfl,e2,s12 _ _ ha,qae (by rw [Ag,Ab,Ab]; show 1 + _ + _ <= _; lia),λq3 n3 => ?_⟩
  obtain ⟨s3,e3⟩:=alc (o:=.lst ([V.str r.owes] ++ r.ends.map V.str ++ r.anew.map V.str)) n3
  generalize upd H2 q3 _=H3 at s3 e3 |-
  have s13:=s12.trans s3
  have tl3:=tl.same s13
  refine ⟨_,rfl,_,_,_,_,_,rfl,s13 _ _ hx,T.kD,zc T.kE Ez,rfl,_,rfl,⟨_,SqL.of (s13 _ _ hl)⟩,?_⟩
  let f:V->V:=λv=>match v with
   | .ref b=>match H3 b with
    | some (.tup [.str y,.int _,.int _])=>.str y
    | _=>.non
   | _=>.non
  refine qcb f (λσ'=>∃ v,σ'=[v]) (qcu (K:=K) (SqL.of (s13 _ _ hl))) (qae (by lia)) ⟨none,rfl⟩ (λv σ' H' RR' hv sm s4 q => ?_) qcq λp5 hp5 => ?_
  .obtain ⟨v0,rfl⟩:=s4
   obtain ⟨j,hj⟩:=Bj hv
   obtain ⟨b,t,rfl,g1,g2⟩:=tl3.get' hj
   rw [An] at g1
   cases eg:r.longer[j]? with
   | none=>rw [eg] at g1; cases g1
   | some rr =>
    rw [eg] at g1
    cases g1
    have ef:f (.ref b)=.str rr.1:=by show (match H3 b with | some (.tup [.str y,.int _,.int _])=>V.str y | _=>.non)=_; rw [g2]; rfl
    have q:=q [some (.ref b)] ⟨_,rfl⟩
    rw [ef] at q
    exact ⟨_,rfl,_,_,_,_,rfl,rfl,SqT.of (sm _ _ g2),rfl,q⟩
  have em:us.map f=(r.longer.map (·.1)).map V.str:=by
   refine BY λj => ?_
   rw [An,An,An]
   cases eg:r.longer[j]? with
   | none=>rw [By (by rw [lu]; exact Co.mp eg)]; rfl
   | some rr =>
    obtain ⟨b,g1,g2⟩:=tl3.get (i:=j) (r:=qp5 rr) (by rw [An,eg]; rfl)
    rw [g1]
    show some (match H3 b with | some (.tup [.str y,.int _,.int _])=>V.str y | _=>.non)=_
    rw [g2]; rfl
  rw [em]
  obtain ⟨s5,e5⟩:=alc (o:=.lst ((r.longer.map (·.1)).map V.str)) hp5
  generalize upd H3 p5 _=H5 at s5 e5 |-
  refine ⟨_,_,_,_,rfl,rfl,s5 _ _ e3,e5,qae (by simp only [Ag,Ab,Aq,Cn]; lia),λq n6 => ?_⟩
  have eb:([V.str r.owes] ++ r.ends.map V.str ++ r.anew.map V.str) ++ (r.longer.map (·.1)).map V.str=([r.owes] ++ r.ends ++ r.anew ++ r.longer.map (·.1)).map V.str:=by simp only [Ay,A6,B4]
  rw [eb]
  generalize eB:[r.owes] ++ r.ends ++ r.anew ++ r.longer.map (·.1)=B
  have lB:B.length <= 4000:=by rw [<- eB]; simp only [Ag,Ab,Aq,Cn]; lia
  have ek:qao r=B ++ r.opens.toList ++ stL r.still:=by unfold qao; rw [eB]
  have s15:=s13.trans s5
  obtain ⟨s6,e6⟩:=alc (o:=.lst (B.map V.str)) n6
  generalize upd H5 q _=H6 at s6 e6 |-
  have s16:=s15.trans s6
  have nq:=s15.free n6
  have hx6:=s16 _ _ hx
  have hs6:=hs.same s16
  have ho:r.opens=none \/ ∃ o,r.opens=some o:=by
   cases r.opens with
   | none=>exact .inl rfl
   | some o=>exact .inr ⟨o,rfl⟩
  apply useH (p:=λ(H7:Hp)=>∃ B':List Str,Same H H7/\B'.length <= 4001/\H7 q=some (.lst (B'.map V.str))/\qao r=B' ++ stL r.still)
  .intro fin
   refine ho.elim (λeo => ?_) (λeo => ?_)
   .refine ⟨_,rfl,_,_,_,_,_,rfl,hx6,T.kD,zc T.kE Ez,rfl,rfl,_,rfl,qd9 (by rw [eo]; rfl) ?_⟩
    have qq:∃ B':List Str,Same H H6/\B'.length <= 4001/\H6 q=some (.lst (B'.map V.str))/\qao r=B' ++ stL r.still:=⟨B,s16,by lia,e6,by rw [ek,eo]; simp⟩
    generalize H6=W6 at qq |-
    exact fin W6 qq
   .obtain ⟨o,eo⟩:=eo
    have eo':qd8 r.opens=.str o:=by rw [eo]; rfl
    refine ⟨_,rfl,_,_,_,_,_,rfl,hx6,T.kD,zc T.kE Ez,rfl,rfl,_,rfl,qgl (λz=>by rw [eo'] at z; cases z) ?_⟩
    refine ⟨_,rfl,.inl ⟨rfl,_,SqL.of e6⟩,_,rfl,_,_,_,_,_,rfl,hx6,T.kD,zc T.kE Ez,rfl,_,_,_,rfl,rfl,e6,qdn (by rw [Ab]; lia),?_⟩
    have qq:∃ B':List Str,Same H (upd H6 q (.lst (B.map V.str ++ [qd8 r.opens])))/\B'.length <= 4001/\upd H6 q (.lst (B.map V.str ++ [qd8 r.opens])) q=some (.lst (B'.map V.str))/\qao r=B' ++ stL r.still:=⟨B ++ [o],qam s16 nq,by rw [Ag]; show _ + 1 <= _; lia,by rw [qu,Ay,eo']; rfl,by rw [ek,eo]; rfl⟩
    exact fin _ qq
  .rintro H7 ⟨B',s7,l7,e7,ek'⟩
   have hx7:=s7 _ _ hx
   have hs7:=hs.same s7
   cases es:r.still with
   | none =>
    rw [es] at hs7 ek'
    cases hs7
    refine ⟨_,rfl,_,_,_,_,_,rfl,hx7,T.kD,zc T.kE Ez,rfl,rfl,_,rfl,qd9 rfl ⟨_,rfl,k q H7 nq s7 (by rw [ek',e7]; simp [stL])⟩⟩
   | some sv =>
    rw [es] at hs7 ek'
    obtain ⟨ps,rfl,hps⟩:=hs7
    refine ⟨_,rfl,_,_,_,_,_,rfl,hx7,T.kD,zc T.kE Ez,rfl,rfl,_,rfl,qgl (λz=>nomatch z) ?_⟩
    refine ⟨_,rfl,.inl ⟨rfl,_,SqL.of e7⟩,_,rfl,_,_,_,_,_,rfl,hx7,T.kD,zc T.kE Ez,rfl,_,_,_,_,rfl,rfl,e7,SqT.of hps,qae (by rw [Ab]; show _ + 2 <= _; lia),?_⟩
    exact ⟨_,rfl,k q _ nq (qam s7 nq) (by rw [qu,ek',Ay]; rfl)⟩
theorem qtc (T:Txt K mg a):FnOk P w K mg base CX0 1 a.hZ a.fY ["row"] spKi:=by
 refine T.dM.fn.ok qsr (λvs H Q E h => ?_) (λcdv A outer s H vs Q E hr h => ?_)
 .obtain ⟨_,_,rfl,_⟩:=h
  all_goals rfl
 .obtain ⟨p,row,rfl,hp,nt,k⟩:=h
  refine ⟨_,(qk (zj (ze qay (zy jb (pv 0) qp (λ_ _=>rfl)) zp (qad _)) (qt (zb (zq qm))) qaf)
   (qt (zb (qd1 (ze qay (zy jb (pv 0) qp (λ_ _=>rfl)) zp (qad _)) (qas qbe (pv 0) (qaq qp) (qaq qp)) (qas qbe (pv 0) (qaq qp) (qaq qp)))))),?_⟩
  cases row with
  | term=>cases nt
  | ends x k =>
   refine ⟨_,rfl,_,_,_,_,rfl,rfl,SqL.of (hp),rfl,rfl,_,rfl,qa4 En ?_⟩
   refine ⟨_,rfl,_,_,_,_,rfl,rfl,SqL.of (hp),rfl,rfl,_,rfl,qa4 En ⟨_,rfl,_,rfl,_,rfl,_,_,rfl,SqL.of hp,λq hq => ?_⟩⟩
   exact k q _ hq (zh hq) qu
  | anew x k =>
   refine ⟨_,rfl,_,_,_,_,rfl,rfl,SqL.of (hp),rfl,rfl,_,rfl,qa4 En ?_⟩
   refine ⟨_,rfl,_,_,_,_,rfl,rfl,SqL.of (hp),rfl,rfl,_,rfl,qa4 En ⟨_,rfl,_,rfl,_,rfl,_,_,rfl,SqL.of hp,λq hq => ?_⟩⟩
   exact k q _ hq (zh hq) qu
  | longer x k u t =>
   refine ⟨_,rfl,_,_,_,_,rfl,rfl,SqL.of (hp),rfl,rfl,_,rfl,qa4 En ?_⟩
   refine ⟨_,rfl,_,_,_,_,rfl,rfl,SqL.of (hp),rfl,rfl,_,rfl,qa4 En ⟨_,rfl,_,rfl,_,rfl,_,_,rfl,SqL.of hp,λq hq => ?_⟩⟩
   exact k q _ hq (zh hq) qu
  | still x k l =>
   refine ⟨_,rfl,_,_,_,_,rfl,rfl,SqL.of (hp),rfl,rfl,_,rfl,qa4 En ?_⟩
   refine ⟨_,rfl,_,_,_,_,rfl,rfl,SqL.of (hp),rfl,rfl,_,rfl,qfd rfl ⟨_,rfl,_,rfl,_,rfl,_,_,rfl,SqL.of hp,λq hq => ?_⟩⟩
   exact k q _ hq (zh hq) qu
  | yields x y =>
   refine ⟨_,rfl,_,_,_,_,rfl,rfl,SqL.of (hp),rfl,rfl,_,rfl,qfd rfl ⟨qfe,λq hq=>k q _ hq (zh hq) qu⟩⟩
theorem qtd (T:Txt K mg a):FnOk P w K mg base CX0 2 a.hG a.lK ["rule", "row"] (spUf a):=by
 refine T.dI.fn.ok qmh (λvs H Q E h => ?_) (λcdv A outer s H vs Q E hr h => ?_)
 .obtain ⟨_,_,_,_,rfl,_⟩:=h
  all_goals rfl
 .obtain ⟨A,r,p,row,rfl,ru,l1,l2,l3,hp,nt,k⟩:=h
  refine ⟨_,(qk (zf (i:=2) qmh.nd rfl (CK rfl) (qj8 (pv 0) T.kD T.tK (qlh T) (hr.mono Ez) T.lN.bd .nil qan))
   (qk (zj (zo (zn (qse rfl) (by rfl) T.sK qu0 (qh (qe0 (N:=["kind", "taken"]) (js:=[none,some 2]) (XN:=["rule", "row", "taken"]) (xs:=qab qh7) rfl rfl rfl En (qb8 (zm (qtc T) (hr.mono Ez) rfl T.dM.mgx T.dM.fn.kp T.dM.bd .nil qan (qh (pv 1) qm qj))) (λ_ _ _ _ _ _=>(qap (i:=0) (show Cd (["kind", "taken"]:List Str) from by decide +kernel) rfl (Az rfl) (CK rfl))) (λ_ _ _ _ _ _=>qc2) (λ_ _ _ _ _ _=>(qc0 (qpr (K:=K) rfl) (pv 0) (pv 1) (by with_unfolding_all rfl)))) qm qh1))) (qt (zb qd0)) qaf)
   (qk (zj (ze qay (zy jb (pv 1) qp (λ_ _=>rfl)) zp (qad _)) (qt (zb (qx7 (qc0 qea (qbc (pv 0) rfl) qbu (qad _)) (qe6 (qc0 qay (zy jb (pv 1) qp (λ_ _=>rfl)) (zy jb (pv 1) qp (λ_ _=>rfl)) (qad _)))))) qaf)
   (qt (zb (qd7 (qc0 qay (zy jb (pv 1) qp (λ_ _=>rfl)) zp (qad _)) (qe6 (qc0 qay (zn qav (by rfl) T.kI qat (qh (qbc (pv 0) rfl) qm qcl)) (qbm (v:=.int 2) rfl T.pR.choose_spec ⟨_,rfl⟩) (qad _))))))))),?_⟩
  have ru0:=ru
  obtain ⟨v,us,hx,hs,he,ha,hl,tl,hy⟩:=ru
  refine ⟨_,rfl,A.p,A.dx,_,rfl,hx,rfl,A,r,rfl,ru0,l1,l2,l3,λq H1 nq s1 e1 => ?_⟩
  have kl:=qxl r
  refine ⟨_,rfl,p,row,rfl,s1 _ _ hp,nt,λq2 H2 n2 s2 e2 => ?_⟩
  have s12:=s1.trans s2
  refine ⟨_,rfl,⟨_,SqL.of e2⟩,?_⟩
  have e12:=s2 _ _ e1
  have lk:(kin row).length <= 2:=by cases row <;> simp [kin]
  refine qcb (λv=>match v with | .str y=>.bl ((qao r).contains y) | _=>.non) (λσ'=>∃ v,σ'=[v,some (.ref q)]) (qcu (K:=K) (SqL.of e2)) (qae (by rw [Ab]; lia)) ⟨none,rfl⟩ (λv σ' H' RR' hv sm s4 qq => ?_) qcq λp5 hp5 => ?_
  .obtain ⟨v0,rfl⟩:=s4
   obtain ⟨y,_,rfl⟩:=AI.mp hv
   have qq:=qq [some (.str y),some (.ref q)] ⟨_,rfl⟩
   dsimp only at qq
   refine ⟨_,rfl,_,rfl,_,_,rfl,.inl (SqL.of (sm _ _ e12)),rfl,qff _,?_⟩
   rw [<- qcy] at qq
   exact qq
  have em:((kin row).map V.str).map (λv=>match v with | .str y=>V.bl ((qao r).contains y) | _=>.non)=((kin row).map λy=>(qao r).contains y).map V.bl:=by
   rw [AR,AR]; rfl
  rw [em]
  obtain ⟨s5,e5⟩:=alc (o:=.lst (((kin row).map λy=>(qao r).contains y).map V.bl)) hp5
  generalize upd H2 p5 _=H5 at s5 e5 |-
  have s15:=s12.trans s5
  refine ⟨p5,_,rfl,SqL.of e5,_,rfl,?_⟩
  have hp5:=s15 _ _ hp
  have hx5:=s15 _ _ hx
  have hs5:=hs.same s15
  have hl5:=s15 _ _ hl
  have lu:us.length=r.longer.length:=by rw [tl.length,Ab]
  have kk:=k H5 s15
  unfold qg7 at kk
  rw [<- any_map] at kk
  cases ea:(((kin row).map λy=>(qao r).contains y).any λb=>b) with
  | true =>
   rw [ea,Bool.true_or] at kk
   exact qb7 kk
  | false =>
   rw [ea,Bool.false_or] at kk
   refine qbp ?_
   cases row with
   | term=>cases nt
   | ends x k'=>exact ⟨_,rfl,_,_,_,_,rfl,rfl,SqL.of (hp5),rfl,rfl,_,rfl,qa4 En ⟨_,rfl,_,_,_,_,rfl,rfl,SqL.of (hp5),rfl,rfl,_,rfl,qa4 En kk⟩⟩
   | anew x k'=>exact ⟨_,rfl,_,_,_,_,rfl,rfl,SqL.of (hp5),rfl,rfl,_,rfl,qa4 En ⟨_,rfl,_,_,_,_,rfl,rfl,SqL.of (hp5),rfl,rfl,_,rfl,qa4 En kk⟩⟩
   | yields x k'=>exact ⟨_,rfl,_,_,_,_,rfl,rfl,SqL.of (hp5),rfl,rfl,_,rfl,qa4 En ⟨_,rfl,_,_,_,_,rfl,rfl,SqL.of (hp5),rfl,rfl,_,rfl,qa4 En kk⟩⟩
   | longer x k' u t =>
    refine ⟨_,rfl,_,_,_,_,rfl,rfl,SqL.of (hp5),rfl,rfl,_,rfl,qa4 En ⟨_,rfl,_,_,_,_,rfl,rfl,SqL.of (hp5),rfl,rfl,_,rfl,qfd rfl ⟨_,rfl,_,_,_,_,_,rfl,hx5,T.kD,zc T.kE Ez,rfl,_,_,rfl,.inl ⟨_,SqL.of hl5,rfl⟩,rfl,?_⟩⟩⟩
    show Q (.bl (decide (V.int (us.length:Int)=V.int 2))) H5
    have e:decide (V.int (us.length:Int)=V.int 2)=decide (r.longer.length=2):=decide_eq_decide.mpr ⟨λz=>by have:=V.int.inj z; lia,λz=>by rw [lu,z]; rfl⟩
    rw [e]
    exact kk
   | still x k' l' =>
    refine ⟨_,rfl,_,_,_,_,rfl,rfl,SqL.of (hp5),rfl,rfl,_,rfl,qfd rfl ?_⟩
    cases es:r.still with
    | some sv =>
     rw [es] at hs5
     obtain ⟨ps,rfl,hps⟩:=hs5
     refine ⟨_,rfl,_,_,_,_,_,rfl,hx5,T.kD,zc T.kE Ez,rfl,rfl,_,rfl,qgl (λz=>nomatch z) ?_⟩
     unfold qvc at kk
     rw [es] at kk
     exact kk
    | none =>
     rw [es] at hs5
     cases hs5
     refine ⟨_,rfl,_,_,_,_,_,rfl,hx5,T.kD,zc T.kE Ez,rfl,rfl,_,rfl,qd9 rfl ⟨_,rfl,_,_,_,_,rfl,rfl,SqL.of (hp5),rfl,_,rfl,_,_,_,_,rfl,rfl,SqL.of (hp5),rfl,rfl,?_⟩⟩
     unfold qvc at kk
     rw [es] at kk
     have e:decide (V.str k'=V.str l')=decide (k'=l'):=decide_eq_decide.mpr ⟨λz=>V.str.inj z,λz=>by rw [z]⟩
     show Q (.bl (decide (V.str k'=V.str l'))) H5
     rw [e]
     exact kk
theorem qql (T:Txt K mg a):FnOk P w K mg base (CX1 P w) 3 a.lJ a.nA ["rule", "at", "row"] (spMo a):=by
 refine okX T.dA.fn qp2 (λvs H Q E h => ?_) (λcdv A outer s H vs Q E hr h => ?_)
 .obtain ⟨_,_,_,_,_,rfl,_⟩:=h
  all_goals rfl
 .obtain ⟨A,r,i,p,row,rfl,ru,nd,l1,l2,l3,hp,nt,k,kx⟩:=h
  refine ⟨_,(qk (zj (zo (zm (qtd T) (hr.mono Ez) rfl T.dI.mgx T.dI.fn.kp T.dI.bd .nil qan (qh (pv 0) (qh (pv 2) qm qj) qj))) (qt (qdl rfl (Takes.at qbo) (qec T.kK.xc T.kY.ty (qgu T) (hr.mono Ez) rfl T.gA T.kK.kp T.kY.bd .nil qan (qh (pv 1) qm qj)))) qaf)
   (qt (zj (ze qay (zy jb (pv 2) qp (λ_ _=>rfl)) zp (qad _)) (qt (zi (qca AT AZ Ba qbw (qbc (pv 0) rfl) (qh (zy jb (pv 2) qp (λ_ _=>rfl)) qm zw)))) (qt (zj (ze qay (zy jb (pv 2) qp (λ_ _=>rfl)) zp (qad _)) (qt (zi (qca AT AZ Ba qbw (qbc (pv 0) rfl) (qh (zy jb (pv 2) qp (λ_ _=>rfl)) qm zw)))) (qt (zj (ze qay (zy jb (pv 2) qp (λ_ _=>rfl)) zp (qad _)) (qt (zi (qca AT AZ Ba qbw (qbc (pv 0) rfl) (qh (zr (qh (zy jb (pv 2) qp (λ_ _=>rfl)) (qh (zy jb (pv 2) qp (λ_ _=>rfl)) (qh (zy jb (pv 2) qp (λ_ _=>rfl)) qm zw) zw) zw)) qm zx)))) (qt (zj (ze qay (zy jb (pv 2) qp (λ_ _=>rfl)) zp (qad _)) (qt (qdd (pv 0) (zr (qh (zy jb (pv 2) qp (λ_ _=>rfl)) (qh (zy jb (pv 2) qp (λ_ _=>rfl)) qm zw) zw)) rfl)) qaf))))))))),?_⟩
  have ru0:=ru
  refine ⟨_,rfl,_,rfl,A,r,p,row,rfl,ru0,l1,l2,l3,hp,nt,λH1 s1=>⟨_,rfl,?_⟩⟩
  cases eu:qg7 r row with
  | true=>exact qb7 ⟨_,rfl,qae (show 1 <= 100000 by decide),λx1 n1=>⟨x1,a.k9,_,_,rfl,qu,T.kK,zc T.kW Ez,λd1 H9 hd1 kp o1 od1=>⟨rfl,x1,_,some d1,rfl,o1,⟨_,od1⟩,T.gB,kx eu x1 d1 _ (qam ((s1).trans (qbk n1 kp)) ((s1).free n1)) qu ((zd (λz=>by rw [z,qu] at hd1; cases hd1)).trans od1)⟩⟩⟩
  | false =>
   refine qbp ?_
   obtain ⟨v,us,hx,hs,he,ha,hl,tl,hy⟩:=ru0.same s1
   have hp:=s1 _ _ hp
   have ks:=KeepT.of (S:=own A) s1
   have lu:us.length=r.longer.length:=by rw [tl.length,Ab]
   simp only [own,AW,Ao,Ar,or_false,not_or] at nd
   obtain ⟨⟨d1,d2,d3,d4⟩,⟨d5,d6,d7⟩,⟨d8,d9⟩,d10,_⟩:=nd
   cases row with
   | term=>cases nt
   | ends x k' =>
    refine ⟨_,rfl,_,_,_,_,rfl,rfl,SqL.of (hp),rfl,rfl,_,rfl,qfd rfl ⟨_,rfl,_,_,_,_,_,rfl,hx,T.kD,zc T.kE Ez,rfl,.inl ⟨rfl,_,SqL.of he⟩,_,rfl,_,_,_,_,rfl,rfl,SqL.of (hp),rfl,_,_,_,rfl,rfl,he,qdn (by rw [Ab]; lia),?_⟩⟩
    have kt:=KeepT.put (o':=.lst (r.ends.map V.str ++ [V.str k'])) (show A.pe ∈ own A by simp [own]) he (λ_ z=>nomatch z)
    exact k eu _ (ks.trans kt) ⟨v,us,(zd d1).trans hx,hs.keep kt,by rw [qu]; show _=some (HO.lst ((r.ends ++ [k']).map V.str)); rw [Ay]; rfl,(zd (Bc d5)).trans ha,(zd (Bc d6)).trans hl,qb1 tl kt,(zd (Bc d7)).trans hy⟩
   | anew x k' =>
    refine ⟨_,rfl,_,_,_,_,rfl,rfl,SqL.of (hp),rfl,rfl,_,rfl,qa4 En ⟨_,rfl,_,_,_,_,rfl,rfl,SqL.of (hp),rfl,rfl,_,rfl,qfd rfl ⟨_,rfl,_,_,_,_,_,rfl,hx,T.kD,zc T.kE Ez,rfl,.inl ⟨rfl,_,SqL.of ha⟩,_,rfl,_,_,_,_,rfl,rfl,SqL.of (hp),rfl,_,_,_,rfl,rfl,ha,qdn (by rw [Ab]; lia),?_⟩⟩⟩
    have kt:=KeepT.put (o':=.lst (r.anew.map V.str ++ [V.str k'])) (show A.pa ∈ own A by simp [own]) ha (λ_ z=>nomatch z)
    exact k eu _ (ks.trans kt) ⟨v,us,(zd d2).trans hx,hs.keep kt,(zd d5).trans he,by rw [qu]; show _=some (HO.lst ((r.anew ++ [k']).map V.str)); rw [Ay]; rfl,(zd (Bc d8)).trans hl,qb1 tl kt,(zd (Bc d9)).trans hy⟩
   | longer x k' u t =>
    refine ⟨_,rfl,_,_,_,_,rfl,rfl,SqL.of (hp),rfl,rfl,_,rfl,qa4 En ⟨_,rfl,_,_,_,_,rfl,rfl,SqL.of (hp),rfl,rfl,_,rfl,qa4 En ⟨_,rfl,_,_,_,_,rfl,rfl,SqL.of (hp),rfl,rfl,_,rfl,qfd rfl ⟨_,rfl,_,_,_,_,_,rfl,hx,T.kD,zc T.kE Ez,rfl,.inl ⟨rfl,_,SqL.of hl⟩,_,rfl,_,_,_,_,rfl,rfl,SqL.of (hp),rfl,_,rfl,_,_,_,_,rfl,rfl,SqL.of (hp),rfl,_,rfl,_,_,_,_,rfl,rfl,SqL.of (hp),rfl,qls _ _ _,λq2 n2 => ?_⟩⟩⟩⟩
    obtain ⟨s2,e2⟩:=alc (o:=.tup [V.str k',V.int u,V.int t]) n2
    generalize upd H1 q2 _=H2 at s2 e2 |-
    have hl2:=s2 _ _ hl
    refine ⟨_,_,_,rfl,rfl,hl2,qdn (by lia),?_⟩
    have kt:=KeepT.put (o':=.lst (us ++ [V.ref q2])) (show A.pl ∈ own A by simp [own]) hl2 (λ_ z=>nomatch z)
    have k2:=KeepT.of (S:=own A) s2
    refine k eu _ (ks.trans (k2.trans kt)) ⟨v,us ++ [.ref q2],(zd d3).trans (s2 _ _ hx),hs.keep (k2.trans kt),(zd d6).trans (s2 _ _ he),(zd d8).trans (s2 _ _ ha),qu,?_,(zd (Bc d10)).trans (s2 _ _ hy)⟩
    show Tups _ _ ((r.longer ++ [(k',u,t)]).map qp5)
    rw [Ay]
    exact qb1 ((tl.same s2).snoc e2) kt
   | still x k' l' =>
    refine ⟨_,rfl,_,_,_,_,rfl,rfl,SqL.of (hp),rfl,rfl,_,rfl,qa4 En ⟨_,rfl,_,_,_,_,rfl,rfl,SqL.of (hp),rfl,rfl,_,rfl,qa4 En ⟨_,rfl,_,_,_,_,rfl,rfl,SqL.of (hp),rfl,rfl,_,rfl,qa4 En ⟨_,rfl,_,_,_,_,rfl,rfl,SqL.of (hp),rfl,rfl,_,rfl,qfd rfl ⟨_,rfl,_,_,_,_,rfl,rfl,SqL.of (hp),rfl,_,rfl,_,_,_,_,rfl,rfl,SqL.of (hp),rfl,fit2 _ _,λq2 n2 => ?_⟩⟩⟩⟩⟩
    obtain ⟨s2,e2⟩:=alc (o:=.tup [V.str k',V.str l']) n2
    generalize upd H1 q2 _=H2 at s2 e2 |-
    have hx2:=s2 _ _ hx
    refine ⟨_,rfl,_,_,_,_,rfl,hx2,T.kD,zc T.kE Ez,(show 12 < 1000 by decide),?_⟩
    rw [show qcs (Aa "still") (.ref q2) (rlR A r v)=rlR A (qc6 r (.still x k' l')) (.ref q2) by with_unfolding_all rfl]
    have kt:=KeepT.put (o':=.ins a.k7 A.dx (rlR A (qc6 r (.still x k' l')) (.ref q2))) (show A.p ∈ own A by simp [own]) hx2 (λ_ z=>nomatch z)
    have k2:=KeepT.of (S:=own A) s2
    exact k eu _ (ks.trans (k2.trans kt)) ⟨.ref q2,us,qu,⟨q2,rfl,kt _ _ (.inr ⟨_,rfl⟩) e2⟩,(zd (Bc d1)).trans (s2 _ _ he),(zd (Bc d2)).trans (s2 _ _ ha),(zd (Bc d3)).trans (s2 _ _ hl),qb1 (tl.same s2) kt,(zd (Bc d4)).trans (s2 _ _ hy)⟩
   | yields x k' =>
    exact ⟨_,rfl,_,_,_,_,rfl,rfl,SqL.of (hp),rfl,rfl,_,rfl,qa4 En ⟨_,rfl,_,_,_,_,rfl,rfl,SqL.of (hp),rfl,rfl,_,rfl,qa4 En ⟨_,rfl,_,_,_,_,rfl,rfl,SqL.of (hp),rfl,rfl,_,rfl,qa4 En ⟨_,rfl,_,_,_,_,rfl,rfl,SqL.of (hp),rfl,rfl,_,rfl,qa4 En (k eu _ ks (ru0.same s1))⟩⟩⟩⟩
theorem qte (T:Txt K mg a):FnOk P w K mg base (CX1 P w) 4 a.nB a.mY ["told", "at", "row"] (spRo a):=by
 refine okX T.bL.fn qss (λvs H Q E h => ?_) (λcdv A outer s H vs Q E hr h => ?_)
 .obtain ⟨_,_,_,_,_,_,rfl,_⟩:=h
  all_goals rfl
 .obtain ⟨d,p,i,rs,As,row,rfl,st,l6,bn,hp,k,kx⟩:=h
  refine ⟨_,(qt (zj (ze qay (zy jb (pv 2) qp (λ_ _=>rfl)) zp (qad _)) (qt (zi (qd3 (qqk T) (hr.mono Ez) rfl T.dJ.mgx T.dJ.fn.kp T.dJ.bd .nil (Takes.at qbo) (qh (pv 0) (qh (pv 1) (qh (pv 2) qm qj) qj) qj)))) (qt (zj (qm0 (qiw (qf5 hr) (zy jb (pv 2) qp (λ_ _=>rfl)) (pv 0))) (qt (qdl rfl (Takes.at qbo) (qec T.kM.xc T.gF.ty (qfv T) (hr.mono Ez) rfl T.gX T.kM.kp T.gF.bd .nil qan (qh (zy jb (pv 2) qp (λ_ _=>rfl)) qm zw)))) (qt (zi (qd3 (qql T) (hr.mono Ez) rfl T.dA.mgx T.dA.fn.kp T.dA.bd .nil (Takes.at qbo) (qh (qjv (qf5 hr) (pv 0) (zy jb (pv 2) qp (λ_ _=>rfl)) (λ_ _=>rfl)) (qh (pv 1) (qh (pv 2) qm qj) qj) zw)))))))),?_⟩
  cases ht:isT row with
  | true =>
   cases row with
   | term x w1 o dd y m u=>exact ⟨_,rfl,_,_,_,_,rfl,rfl,SqL.of (hp),rfl,rfl,_,rfl,qfd rfl ⟨_,rfl,_,rfl,_,rfl,d,p,i,rs,As,x,w1,o,dd,y,m,u,rfl,st,l6,hp,k,kx⟩⟩
   | ends=>cases ht
   | anew=>cases ht
   | longer=>cases ht
   | still=>cases ht
   | yields=>cases ht
  | false =>
   have e0:∃ z,atI (qco row) 0=some (.str z)/\z ≠ wS "term" := by
    cases row with
    | term=>cases ht
    | ends=>exact ⟨_,rfl,En⟩
    | anew=>exact ⟨_,rfl,En⟩
    | longer=>exact ⟨_,rfl,En⟩
    | still=>exact ⟨_,rfl,En⟩
    | yields=>exact ⟨_,rfl,En⟩
   have e1:atI (qco row) 1=some (.str (qa3 row)):=by cases row <;> rfl
   obtain ⟨z0,e0,nz0⟩:=e0
   rw [qfh ht] at k kx
   refine ⟨_,rfl,_,_,_,_,rfl,rfl,SqL.of (hp),e0,rfl,_,rfl,qa4 (λz=>nz0 (V.str.inj z)) ?_⟩
   cases pn:qar rs (qa3 row) with
   | none =>
    refine ⟨_,rfl,_,_,_,_,rfl,rfl,SqL.of (hp),e1,_,rfl,d,_,rfl,st.non pn,_,rfl,qb7 ?_⟩
    exact ⟨_,rfl,_,_,_,_,rfl,rfl,SqL.of (hp),e1,qae (show 1 <= 100000 by decide),λx1 n1=>⟨x1,a.kG,_,_,rfl,qu,T.kM,zc T.bO Ez,λd1 H9 hd1 kp o1 od1=>⟨rfl,x1,_,some d1,rfl,o1,⟨_,od1⟩,T.fH,(kx _ (qk0 pn)) x1 d1 _ (qam (((Same.refl H)).trans (qbk n1 kp)) (((Same.refl H)).free n1)) qu ((zd (λz=>by rw [z,qu] at hd1; cases hd1)).trans od1)⟩⟩⟩
   | some j =>
    obtain ⟨r,A,hr',hA,hn,ru,g⟩:=st.get pn
    have nd0:=(AW.mp st.nd).2
    obtain ⟨b1,b2,b3,b4⟩:=bn r (Aw hr')
    refine ⟨_,rfl,_,_,_,_,rfl,rfl,SqL.of (hp),e1,_,rfl,d,_,rfl,g,_,rfl,qbp ?_⟩
    refine ⟨_,rfl,_,rfl,_,_,_,_,rfl,rfl,SqL.of (hp),e1,d,_,rfl,g,_,rfl,_,rfl,A,r,i,p,row,rfl,ru,qvd nd0 hA,b1,b2,b3,hp,ht,λu H' kt ux => ?_,λu=>kx _ (qii pn hr' u)⟩
    exact k _ (qij pn hr' u) H' As (kt.sub λz hz=>At _ (qnm hA z hz)) (λz hz=>.inl hz) (st.chg hr' hA kt ux (qfq r row))
theorem qli (T:Txt K mg a):FnOk P w K mg base (CX1 P w) 3 a.hX a.lI ["told", "rule", "at", "other"] (spSy a):=by
 refine okX T.bW.fn qkv (λvs H Q E h => ?_) (λcdv A outer s H vs Q E hr h => ?_)
 .obtain ⟨_,_,_,_,_,_,_,_,rfl,_⟩:=h
  all_goals rfl
 .obtain ⟨d,i,j,rs,As,r,A,y,rfl,st,bn,hr',hA,k,kx⟩:=h
  refine ⟨_,(qk (zj (qm0 (qiw (qf5 hr) (pv 3) (pv 0))) (qt (qdl rfl (Takes.at qbo) (qec T.kM.xc T.gF.ty (qfv T) (hr.mono Ez) rfl T.gX T.kM.kp T.gF.bd .nil qan (qh (pv 3) qm qj)))) qaf)
   (qk (zj (PW.pt (qez (ze qay (pv 3) (qbc (pv 1) rfl) (qad _)) (qez (ze qef (pv 3) (qbc (pv 1) rfl) (by with_unfolding_all rfl)) (qej (ze qj5 (qbc (qjv (qf5 hr) (pv 0) (pv 3) (λ_ _=>rfl)) rfl) (qbc (pv 1) rfl) (qad _)))))) (qt (qdl rfl (Takes.at qbo) (qec T.kK.xc T.kY.ty (qgu T) (hr.mono Ez) rfl T.gA T.kK.kp T.kY.bd .nil qan (qh (pv 2) qm qj)))) qaf)
   (qt (zi (qca AT AZ Ba qbw (qbc (pv 1) rfl) (qh (pv 3) qm qj)))))),?_⟩
  obtain ⟨v,us,hx,hs,he,ha,hl,tl,hy⟩:=st.ru j r A hr' hA
  have nd0:=(AW.mp st.nd).2
  obtain ⟨b1,b2,b3,b4⟩:=bn r (Aw hr')
  cases pn:qar rs y with
  | none =>
   refine ⟨_,rfl,_,rfl,d,_,rfl,st.non pn,_,rfl,qb7 ?_⟩
   exact ⟨_,rfl,qae (show 1 <= 100000 by decide),λx1 n1=>⟨x1,a.kG,_,_,rfl,qu,T.kM,zc T.bO Ez,λd1 H9 hd1 kp o1 od1=>⟨rfl,x1,_,some d1,rfl,o1,⟨_,od1⟩,T.fH,(kx _ (qk1 pn)) x1 d1 _ (qam (((Same.refl H)).trans (qbk n1 kp)) (((Same.refl H)).free n1)) qu ((zd (λz=>by rw [z,qu] at hd1; cases hd1)).trans od1)⟩⟩⟩
  | some l =>
   obtain ⟨s,B,hs',hB,hn,rs',g⟩:=st.get pn
   obtain ⟨v2,us2,hx2,_⟩:=rs'
   refine ⟨_,rfl,_,rfl,d,_,rfl,g,_,rfl,qbp ?_⟩
   refine ⟨_,rfl,_,rfl,_,_,_,_,_,rfl,hx,T.kD,zc T.kE Ez,rfl,rfl,_,rfl,qa6 (λc => ?_) (λc => ?_)⟩
   .have c:=V.str.inj (of_decide_eq_true c)
    exact ⟨_,rfl,qae (show 1 <= 100000 by decide),λx1 n1=>⟨x1,a.k9,_,_,rfl,qu,T.kK,zc T.kW Ez,λd1 H9 hd1 kp o1 od1=>⟨rfl,x1,_,some d1,rfl,o1,⟨_,od1⟩,T.gB,(kx _ (qfr pn hr' hs' (.inl c))) x1 d1 _ (qam (((Same.refl H)).trans (qbk n1 kp)) (((Same.refl H)).free n1)) qu ((zd (λz=>by rw [z,qu] at hd1; cases hd1)).trans od1)⟩⟩⟩
   have c1:¬ y=r.name:=λz=>c (decide_eq_true (congrArg V.str z))
   refine ⟨_,rfl,_,rfl,_,_,_,_,_,rfl,hx,T.kD,zc T.kE Ez,rfl,_,_,rfl,.inl (SqL.of hy),rfl,qff _,_,rfl,?_⟩
   show if inV (.str y) (r.yields.map V.str)=true then _ else _
   rw [qcy]
   refine qa6 (λc2 => ?_) (λc2 => ?_)
   .exact ⟨_,rfl,qae (show 1 <= 100000 by decide),λx1 n1=>⟨x1,a.k9,_,_,rfl,qu,T.kK,zc T.kW Ez,λd1 H9 hd1 kp o1 od1=>⟨rfl,x1,_,some d1,rfl,o1,⟨_,od1⟩,T.gB,(kx _ (qfr pn hr' hs' (.inr (.inl (BA.mp c2))))) x1 d1 _ (qam (((Same.refl H)).trans (qbk n1 kp)) (((Same.refl H)).free n1)) qu ((zd (λz=>by rw [z,qu] at hd1; cases hd1)).trans od1)⟩⟩⟩
   have c2:¬ y ∈ r.yields:=λz=>c2 (BA.mpr z)
   refine ⟨_,rfl,_,rfl,d,_,rfl,g,_,_,_,_,_,rfl,hx2,T.kD,zc T.kE Ez,rfl,_,rfl,_,_,_,_,_,rfl,hx,T.kD,zc T.kE Ez,rfl,rfl,_,rfl,?_⟩
   show if (!decide (V.str s.owes=V.str r.owes))=true then _ else _
   by_cases c3:s.owes=r.owes
   .refine qd9 (congrArg V.str c3) ?_
    refine ⟨_,rfl,_,_,_,_,_,rfl,hx,T.kD,zc T.kE Ez,rfl,.inl ⟨rfl,_,SqL.of hy⟩,_,rfl,_,_,_,rfl,rfl,hy,qdn (by rw [Ab]; lia),?_⟩
    have no:=qvd nd0 hA
    simp only [own,AW,Ao,Ar,or_false,not_or] at no
    obtain ⟨⟨d1,d2,d3,d4⟩,⟨d5,d6,d7⟩,⟨d8,d9⟩,d10,_⟩:=no
    have kt:=KeepT.put (S:=own A) (o':=.lst (r.yields.map V.str ++ [V.str y])) (show A.py ∈ own A by simp [own]) hy (λ_ z=>nomatch z)
    refine k _ (qhq pn hr' hs' λz=>z.elim c1 λz=>z.elim c2 λz=>z c3) _ (kt.sub λz hz=>At _ (qnm hA z hz)) (st.chg hr' hA kt ⟨v,us,(zd d4).trans hx,hs.keep kt,(zd d7).trans he,(zd d9).trans ha,(zd d10).trans hl,qb1 tl kt,?_⟩ rfl)
    rw [qu]
    show _=some (HO.lst ((r.yields ++ [y]).map V.str))
    rw [Ay]; rfl
   .refine qgl (λz=>c3 (V.str.inj z)) ?_
    exact ⟨_,rfl,qae (show 1 <= 100000 by decide),λx1 n1=>⟨x1,a.k9,_,_,rfl,qu,T.kK,zc T.kW Ez,λd1 H9 hd1 kp o1 od1=>⟨rfl,x1,_,some d1,rfl,o1,⟨_,od1⟩,T.gB,(kx _ (qfr pn hr' hs' (.inr (.inr c3)))) x1 d1 _ (qam (((Same.refl H)).trans (qbk n1 kp)) (((Same.refl H)).free n1)) qu ((zd (λz=>by rw [z,qu] at hd1; cases hd1)).trans od1)⟩⟩⟩
theorem qlv (T:Txt K mg a):FnOk P w K mg base (CX1 P w) 4 a.nV a.mH ["told", "at", "row"] (spSn a):=by
 refine okX T.bR.fn qg8 (λvs H Q E h => ?_) (λcdv A outer s H vs Q E hr h => ?_)
 .obtain ⟨_,_,_,_,_,_,rfl,_⟩:=h
  all_goals rfl
 .obtain ⟨d,p,i,rs,As,row,rfl,st,bn,hp,hs,k,kx⟩:=h
  refine ⟨_,(qk (zf (i:=3) qg8.nd rfl (Az rfl) (qjv (qf5 hr) (pv 0) (zy jb (pv 2) qp (λ_ _=>rfl)) (λ_ _=>rfl)))
   (qk (zj (PW.pt (qc7 (ze qay (zy jb (pv 2) qp (λ_ _=>rfl)) zp (qad _)) (qc7 (ze qea (qbc (pv 3) rfl) qbu (qad _)) (qcp (qm0 (qiw (qf5 hr) (qbc (pv 3) rfl) (pv 0))))))) (qt (qdl rfl (Takes.at qbo) (qec T.kM.xc T.gF.ty (qfv T) (hr.mono Ez) rfl T.gX T.kM.kp T.gF.bd .nil qan (qh (qbc (pv 3) rfl) qm qcl)))) qaf)
   (qt (zj (ze qay (zy jb (pv 2) qp (λ_ _=>rfl)) zp (qad _)) (qt (zi (qd3 (qli T) (hr.mono Ez) rfl T.bW.mgx T.bW.fn.kp T.bW.bd .nil (Takes.at qbo) (qh (pv 0) (qh (pv 3) (qh (pv 1) (qh (zy jb (pv 2) qp (λ_ _=>rfl)) qm zw) qj) qj) qj)))) qaf)))),?_⟩
  have e1:atI (qco row) 1=some (.str (qa3 row)):=by cases row <;> rfl
  cases pn:qar rs (qa3 row) with
  | none=>rw [pn] at hs; cases hs
  | some j =>
   obtain ⟨r,A,hr',hA,hn,ru,g⟩:=st.get pn
   obtain ⟨v,us,hx,_⟩:=id ru
   refine ⟨_,rfl,_,rfl,_,_,_,_,rfl,rfl,SqL.of (hp),e1,d,_,rfl,g,?_⟩
   dsimp only []
   have kr:=KeepT.of (S:=d :: As.flatMap own) (Same.refl H)
   cases row with
   | term x w1 o dd y m u =>
    have e:=qik (x:=x) (i:=i) (w:=w1) (o:=o) (d:=dd) (y:=y) (m:=m) (u:=u) pn hr'
    rw [e] at k kx
    refine ⟨_,rfl,_,_,_,_,rfl,rfl,SqL.of (hp),rfl,rfl,_,rfl,qfd rfl ?_⟩
    cases eb:r.base with
    | none =>
     rw [eb] at k
     refine ⟨_,rfl,_,_,_,_,_,rfl,hx,T.kD,zc T.kE Ez,rfl,rfl,_,rfl,qd9 (by rw [eb]; rfl) (qbp ⟨_,rfl,_,_,_,_,rfl,rfl,SqL.of (hp),rfl,rfl,_,rfl,qa4 En (k _ rfl H kr st)⟩)⟩
    | some z =>
     rw [eb] at k kx
     dsimp only at k kx
     refine ⟨_,rfl,_,_,_,_,_,rfl,hx,T.kD,zc T.kE Ez,rfl,rfl,_,rfl,qgl (λz=>by rw [eb] at z; cases z) ?_⟩
     cases pz:qar rs z with
     | none =>
      have g2:DGet H d (qd8 r.base) none:=by rw [eb]; exact st.non pz
      refine ⟨_,rfl,_,_,_,_,_,rfl,hx,T.kD,zc T.kE Ez,rfl,_,rfl,d,_,rfl,g2,_,rfl,qb7 ?_⟩
      have kz:∀ (x d:Addr) (H':Hp),Same H H'->H' x=some (exO x a.kG (some d) false)->H' d=some (exD d [("name",qd8 r.base)])->E (.ref x) (some d) H':=by
       rw [eb]
       exact kx (.term z) (by rw [pz]; rfl)
      exact ⟨_,rfl,_,_,_,_,_,rfl,hx,T.kD,zc T.kE Ez,rfl,qae (show 1 <= 100000 by decide),λx1 n1=>⟨x1,a.kG,_,_,rfl,qu,T.kM,zc T.bO Ez,λd1 H9 hd1 kp o1 od1=>⟨rfl,x1,_,some d1,rfl,o1,⟨_,od1⟩,T.fH,kz x1 d1 _ (qam (((Same.refl H)).trans (qbk n1 kp)) (((Same.refl H)).free n1)) qu ((zd (λz=>by rw [z,qu] at hd1; cases hd1)).trans od1)⟩⟩⟩
     | some jz =>
      obtain ⟨_,B2,_,_,_,_,g2⟩:=st.get pz
      have g2:DGet H d (qd8 r.base) (some (.ref B2.p)):=by rw [eb]; exact g2
      refine ⟨_,rfl,_,_,_,_,_,rfl,hx,T.kD,zc T.kE Ez,rfl,_,rfl,d,_,rfl,g2,_,rfl,qbp ⟨_,rfl,_,_,_,_,rfl,rfl,SqL.of (hp),rfl,rfl,_,rfl,qa4 En (k _ (by rw [pz]; rfl) H kr st)⟩⟩
   | yields x y =>
    rw [qk2 (x:=x) pn] at k kx
    refine ⟨_,rfl,_,_,_,_,rfl,rfl,SqL.of (hp),rfl,rfl,_,rfl,qa4 En (qbp ⟨_,rfl,_,_,_,_,rfl,rfl,SqL.of (hp),rfl,rfl,_,rfl,qfd rfl ?_⟩)⟩
    exact ⟨_,rfl,_,rfl,_,rfl,_,rfl,_,_,_,_,rfl,rfl,SqL.of (hp),rfl,d,i,j,rs,As,r,A,y,rfl,st,bn,hr',hA,k,kx⟩
   | ends x y =>
    exact ⟨_,rfl,_,_,_,_,rfl,rfl,SqL.of (hp),rfl,rfl,_,rfl,qa4 En (qbp ⟨_,rfl,_,_,_,_,rfl,rfl,SqL.of (hp),rfl,rfl,_,rfl,qa4 En (k _ rfl H kr st)⟩)⟩
   | anew x y =>
    exact ⟨_,rfl,_,_,_,_,rfl,rfl,SqL.of (hp),rfl,rfl,_,rfl,qa4 En (qbp ⟨_,rfl,_,_,_,_,rfl,rfl,SqL.of (hp),rfl,rfl,_,rfl,qa4 En (k _ rfl H kr st)⟩)⟩
   | longer x y u t =>
    exact ⟨_,rfl,_,_,_,_,rfl,rfl,SqL.of (hp),rfl,rfl,_,rfl,qa4 En (qbp ⟨_,rfl,_,_,_,_,rfl,rfl,SqL.of (hp),rfl,rfl,_,rfl,qa4 En (k _ rfl H kr st)⟩)⟩
   | still x y z =>
    exact ⟨_,rfl,_,_,_,_,rfl,rfl,SqL.of (hp),rfl,rfl,_,rfl,qa4 En (qbp ⟨_,rfl,_,_,_,_,rfl,rfl,SqL.of (hp),rfl,rfl,_,rfl,qa4 En (k _ rfl H kr st)⟩)⟩
theorem qnv (T:Txt K mg a):FnOk P w K mg base CX0 1 a.fK a.lO ["self", "at"] (qxi K "at"):=by
 refine T.dW.fn.ok qnf (λvs H Q E h => ?_) (λcdv A outer s H vs Q E hr h => ?_)
 .obtain ⟨_,_,_,_,rfl,_⟩:=h
  all_goals rfl
 .obtain ⟨x,C,y,ini,rfl,hx,xa,no,k⟩:=h
  refine ⟨_,(qk (zi (qge T.gW rfl T.kS (qh (pv 0) (qh (pv 1) qm qj) qj)))
   (qt (qh4 (pv 0) (pv 1) rfl))),?_⟩
  refine ⟨_,rfl,_,rfl,x,C,none,[y],ini,rfl,hx,xa.xc,qae (show 1 <= 100000 by decide),?_⟩
  refine ⟨_,rfl,_,rfl,x,C,true,rfl,xa.set no,.inl ⟨hx,λdx hd => ?_⟩⟩
  have ne:dx ≠ x:=λz=>by rw [z,hx] at hd; cases hd
  exact k dx _ hd (λb o hb e=>by rw [zd hb,zd (qag e hd)]; exact e) qu (by rw [zd ne]; exact qu)
theorem qht (T:Txt K mg a):FnOk P w K mg base (CX1 P w) 7 a.mU a.nQ ["text"] (spBkG a):=by
 refine okX T.kP.fn qcw (λvs H Q E h => ?_) (λcdv A outer s H vs Q E hr h => ?_)
 .obtain ⟨_,rfl,_⟩:=h
  all_goals rfl
 .obtain ⟨ls,rfl,hls,k,kx⟩:=h
  refine ⟨_,(qk (zf (i:=1) qcw.nd rfl (Az rfl) qkb)
   (qk (zf (i:=2) qcw.nd rfl (Az rfl) (zq qm))
   (qk (qcr BM.leaving rfl (qq8 rfl T.mZ (qh (zm (qta T) (hr.mono Ez) rfl T.bU.mgx T.bU.fn.kp T.bU.bd .nil qan (qh (pv 0) qm qj)) qm zt)) (qm1 rfl (qdj (qap (i:=3) qcw.nd rfl (Az rfl)) (qdj (qap (i:=4) qcw.nd rfl (Az rfl)) qjt))) (qk (zf (i:=5) qcw.nd rfl (Az rfl) (zm (qx6 T) (hr.mono Ez) rfl T.dB.mgx T.dB.fn.kp T.dB.bd .nil qan (qh (pv 4) qm qj)))
   (qk (zj (PW.pt (qez (ze qay (pv 3) (qbm (v:=.int 40) rfl T.pS.choose_spec ⟨_,rfl⟩) (qad _)) (qej (ze qyx (pv 5) qbu (qad _))))) (qt (qdl rfl (Takes.at qbo) (qec T.kT.xc T.dW.ty (qnv T) (hr.mono Ez) rfl T.fP T.kT.kp T.dW.bd .nil qan (qh (pv 3) qm qj)))) qaf)
   (qk (zi (qd3 (qte T) (hr.mono Ez) rfl T.bL.mgx T.bL.fn.kp T.bL.bd .nil (Takes.at qbo) (qh (pv 1) (qh (pv 3) (qh (pv 5) qm qj) qj) qj)))
   (qt (zi (qca AT AZ Ba qbw (pv 2) (qh (pv 5) qm qj))))))))
   (qk (qcr BM.leaving rfl (qq8 rfl T.mZ (qh (pv 2) qm qj)) (qm1 rfl (qdj (qap (i:=3) qcw.nd rfl (Az rfl)) (qdj (qap (i:=5) qcw.nd rfl (Az rfl)) qjt))) (qt (zi (qd3 (qlv T) (hr.mono Ez) rfl T.bR.mgx T.bR.fn.kp T.bR.bd .nil (Takes.at qbo) (qh (pv 1) (qh (pv 3) (qh (pv 5) qm qj) qj) qj)))))
   (qt (zb (qui T.tG (qqi T) (hr.mono Ez) rfl T.rJ T.mW.bd .nil (Takes.at qbo) (qh (qop rfl (by rfl) T.gI qeh (pv 1)) qm zt)))))))),?_⟩
  refine λd hd => ?_
  obtain ⟨s0,h0⟩:=alc (o:=.dK []) hd
  generalize upd H d _=H0 at s0 h0 |-
  refine ⟨qfe,λq hq => ?_⟩
  obtain ⟨s1,h1⟩:=alc (o:=.lst []) hq
  have hd1:=s1 _ _ h0
  generalize upd H0 q _=H1 at s1 h1 hd1 |-
  have dq:d ≠ q:=λz=>by rw [<- z,h0] at hq; cases hq
  have s01:=s0.trans s1
  have nqH:=s0.free hq
  refine ⟨_,rfl,ls,rfl,hls,λql H2 nql s2 e2 => ?_⟩
  have ndl:ql ≠ d:=λz=>by rw [z,hd1] at nql; cases nql
  have nlq:ql ≠ q:=λz=>by rw [z,h1] at nql; cases nql
  have b0:RB a H H2 d q ql ls 0 [] [] [] []:=⟨s01.trans s2,e2,⟨s2 _ _ hd1,rfl,by simp,by simp,(λi r A h=>by cases h)⟩,s2 _ _ h1,rfl,(λj y e=>by cases e),rfl,rfl,(λr hr=>by cases hr),Ez,(λr hr=>by cases hr),(λr hr=>by cases hr),by simp [Bc dq],by simp [ndl],nlq,λz hz=>by
   simp only [List.flatMap_nil,Ao,Ar,or_false] at hz
   rcases hz with rfl | rfl
   .exact nqH
   .exact hd⟩
  have lo:(qgn ls).length=ls.length:=by unfold qgn; rw [Ab]
  have hn:=hls.n
  refine ⟨_,_,rfl,e2,qom (K:=K) (a:=ql) (xs:=ls.map V.str) (λi σ H'=>(∃ rs As rv rows,RB a H H' d q ql ls i rs As rv rows)/\∃ v3 v4 v5:Option V,σ=[some (.str (qev ls)),some (.ref d),some (.ref q),v3,v4,v5]) ⟨⟨_,_,_,_,b0⟩,none,none,none,rfl⟩ (λi σ H' _ h=>by obtain ⟨⟨_,_,_,_,b⟩,_⟩:=h; exact SqL.of b.hl) ?_ ?_⟩
  .rintro i v t0 σ H' hv ⟨⟨rs,As,rv,rows,b⟩,v3,v4,v5,rfl⟩ ht0
   rw [An] at hv
   cases el:ls[i]? with
   | none=>rw [el] at hv; cases hv
   | some l =>
   rw [el] at hv
   cases hv
   have hi:i < ls.length:=(Af.mp el).1
   obtain ⟨ll,_⟩:=hls.c l (Aw el)
   have hop:(qgn ls)[i]?=some (opR l):=by unfold qgn; rw [An,el]; rfl
   obtain ⟨ra,_⟩:=qji b.rd hop
   obtain ⟨st,et⟩:=alc (o:=.tup [V.int i,V.str l]) ht0
   generalize upd H' t0 _=J0 at st et |-
   refine ⟨_,_,rfl,SqT.of et,rfl,_,_,rfl,_,_,rfl,rfl,?_⟩
   have rv':=qvb (BE l (wS " "))
   have er:∀ {e:Er},qai [] 0 (qgn ls)=.error e->qda ls=.error e:=λh=>by unfold qda; rw [h]
   refine ⟨_,rfl,l,rfl,(by show l.cps.size <= 1000; lia),λqr J1 us nqr sr erow eqr => ?_,λerow J1 sr => ?_⟩
   .have b1:=(b.same st).same sr
    cases eo:opR l with
    | none=>unfold opR at eo; rw [eo] at rv'; rw [erow] at rv'; cases rv'
    | some row =>
    have eu:us=qco row:=by unfold opR at eo; rw [eo] at rv'; rw [erow] at rv'; exact AF rv'
    subst eu
    rw [eo] at hop ra
    refine ⟨_,rfl,rfl,_,rfl,qa6 (λc => ?_) (λc => ?_)⟩
    .have c:(i:Int)=40:=V.int.inj (of_decide_eq_true c)
     exact ⟨_,rfl,qae (show 1 <= 100000 by decide),λx1 n1=>⟨x1,a.kH,_,_,rfl,qu,T.kT,zc T.bX Ez,λd1 H9 hd1 kp o1 od1=>⟨rfl,x1,_,some d1,rfl,o1,⟨_,od1⟩,T.fD,(kx _ (er (ra.trans (qjj (by lia) _ _)))) x1 d1 _ (qam (((b.sm.trans (st.trans sr))).trans (qbk n1 kp)) (((b.sm.trans (st.trans sr))).free n1)) qu ((zd (λz=>by rw [z,qu] at hd1; cases hd1)).trans od1)⟩⟩⟩
    have n40:i ≠ 40:=λz=>c (decide_eq_true (by rw [z]; rfl))
    refine ⟨_,rfl,rfl,_,rfl,qa4 (λz=>nomatch z) ?_⟩
    have qrn:qr ∉ d :: As.flatMap own:=λz=>(b.same st).st.inn qr z nqr
    have qrq:qr ≠ q:=λz=>by rw [z,(b.same st).hq] at nqr; cases nqr
    refine ⟨_,rfl,_,rfl,_,rfl,d,qr,i,rs,As,row,rfl,b1.st,b1.l6,(λr hr=>by obtain ⟨g1,g2,g3,g4⟩:=b1.bn r hr; exact ⟨by lia,by lia,by lia,by lia⟩),eqr,λrs' e H3 As' kt fr st' => ?_,λe h=>(kx e (er (ra.trans (qk3 n40 h _)))).same b1.sm⟩
    have hq3:H3 q=some (.lst rv):=kt _ _ (.inl b1.qo) b1.hq
    have rl:=b1.rl
    have lr:rows.length <= i:=by
     have:=congrArg Dg b1.ro
     rw [Ab,Ap] at this
     lia
    refine ⟨_,rfl,.inl ⟨rfl,_,SqL.of hq3⟩,_,rfl,_,_,_,rfl,rfl,hq3,qdn (by lia),?_⟩
    exact ⟨⟨_,_,_,_,b1.next eqr qrn qrq hop n40 e kt fr st'⟩,_,_,_,rfl⟩
   .have eo:opR l=none:=by
     cases eo:opR l with
     | none=>rfl
     | some row=>unfold opR at eo; rw [eo] at rv'; rw [erow] at rv'; cases rv'
    rw [eo] at hop ra
    have sA:=b.sm.trans (st.trans sr)
    refine ⟨_,rfl,rfl,_,rfl,qa6 (λc => ?_) (λc => ?_)⟩
    .have c:(i:Int)=40:=V.int.inj (of_decide_eq_true c)
     exact ⟨_,rfl,qae (show 1 <= 100000 by decide),λx1 n1=>⟨x1,a.kH,_,_,rfl,qu,T.kT,zc T.bX Ez,λd1 H9 hd1 kp o1 od1=>⟨rfl,x1,_,some d1,rfl,o1,⟨_,od1⟩,T.fD,(kx _ (er (ra.trans (qjj (by lia) _ _)))) x1 d1 _ (qam ((sA).trans (qbk n1 kp)) ((sA).free n1)) qu ((zd (λz=>by rw [z,qu] at hd1; cases hd1)).trans od1)⟩⟩⟩
    have n40:i ≠ 40:=λz=>c (decide_eq_true (by rw [z]; rfl))
    refine ⟨_,rfl,rfl,_,rfl,qfd rfl ?_⟩
    exact ⟨_,rfl,qae (show 1 <= 100000 by decide),λx1 n1=>⟨x1,a.kH,_,_,rfl,qu,T.kT,zc T.bX Ez,λd1 H9 hd1 kp o1 od1=>⟨rfl,x1,_,some d1,rfl,o1,⟨_,od1⟩,T.fD,(kx _ (er (ra.trans (qp7 n40 _)))) x1 d1 _ (qam ((sA).trans (qbk n1 kp)) ((sA).free n1)) qu ((zd (λz=>by rw [z,qu] at hd1; cases hd1)).trans od1)⟩⟩⟩
  .rintro σ H' ⟨⟨rs0,As,rv,rows,b⟩,v3,v4,v5,rfl⟩
   have bd:=b.rd
   have bo:=b.ro
   rw [Ab,<- lo,B0] at bd bo
   have lr:rows.length=ls.length:=by rw [<- lo,bo,Ab]
   have rf:qda ls=qau rs0 0 rows:=by
    unfold qda
    rw [bd,bo]
    dsimp only
    rw [qrf]
   have c0:SB a H H' d q 0 rs0 rs0 As rv rows:=⟨b.sm,b.st,b.hq,b.rl,b.rr,⟨rfl,rfl⟩,rfl,λr hr=>by obtain ⟨g1,g2,g3,g4⟩:=b.bn r hr; rw [Ab] at g1 g2 g3 g4; exact ⟨by lia,by lia,by lia,by lia⟩,b.nm,b.qo,b.fr⟩
   refine ⟨_,rfl,_,_,rfl,b.hq,qom (K:=K) (a:=q) (xs:=rv) (λi σ J=>(∃ rs,SB a H J d q i rs0 rs As rv rows)/\∃ v3 v4 v5:Option V,σ=[some (.str (qev ls)),some (.ref d),some (.ref q),v3,v4,v5]) ⟨⟨_,c0⟩,_,_,_,rfl⟩ (λi σ J _ h=>by obtain ⟨⟨_,b⟩,_⟩:=h; exact SqL.of b.hq) ?_ ?_⟩
   .rintro i v t0 σ J hv ⟨⟨rs,sb⟩,v3,v4,v5,rfl⟩ ht0
    have hi:i < rows.length:=by rw [<- b.rl]; exact (Af.mp hv).1
    obtain ⟨p,row,rfl,hrow,_,_,_⟩:=sb.rr i v hv
    obtain ⟨st,et⟩:=alc (o:=.tup [V.int i,V.ref p]) ht0
    generalize upd J t0 _=J0 at st et |-
    have sb1:=sb.same st
    obtain ⟨p2,row2,e2',hrow2,hp,_,_⟩:=sb1.rr i _ hv
    cases e2'
    rw [hrow] at hrow2
    cases hrow2
    obtain ⟨sa,_⟩:=qhr sb1.se hrow
    refine ⟨_,_,rfl,SqT.of et,rfl,_,_,rfl,_,_,rfl,rfl,?_⟩
    refine ⟨_,rfl,_,rfl,_,rfl,d,p,i,rs,As,row,rfl,sb1.st,(λr hr=>by obtain ⟨g1,g2,g3,g4⟩:=sb1.bn r hr; exact ⟨by lia,by lia,by lia,by lia⟩),hp,sb1.nm row (Aw hrow),λrs' e H3 kt st' => ?_,λe h=>(kx e (rf.trans (sa.trans (qml h _)))).same sb1.sm⟩
    exact ⟨⟨_,sb1.next hrow e kt st'⟩,_,_,_,rfl⟩
   .rintro σ J ⟨⟨rs,sb⟩,v3,v4,v5,rfl⟩
    have se:=sb.se
    rw [b.rl,B0] at se
    have rok:=rf.trans se
    obtain ⟨kq,ko⟩:=k rs rok
    have bok:=qxn se b.st.nn b.ht
    have l6:rs.length <= 6:=by
     have:=congrArg Dg sb.sd.nm
     rw [Ab,Ab] at this
     rw [this]; exact b.l6
    refine ⟨_,rfl,d,_,rfl,sb.st.hd,λqv nqv => ?_⟩
    rw [qow sb.st.ln]
    obtain ⟨sv,ev⟩:=alc (o:=.lst (As.map λA=>V.ref A.p)) nqv
    generalize upd J qv _=J1 at sv ev |-
    refine λxb dx nx nd ne => ?_
    have keep:Same J1 (upd (upd J1 dx (.own xb)) xb (.ins a.kL dx [])):=λb u e=>by rw [zd (qag e nx),zd (qag e nd)]; exact e
    have sAll:=sb.sm.trans sv
    have ruJ:=λi r A h1 h2=>((sb.st.ru i r A h1 h2).same sv)
    refine ⟨xb,dx,qv,rs,As,rfl,qu,keep _ _ ev,sb.st.ln,sb.st.nn,l6,bok,λi r A h1 h2=>(ruJ i r A h1 h2).same keep,λH9 os b9 bk9 ors=>⟨rfl,kq xb H9 As os (sAll.trans (b9.made nx nd)) ⟨bk9,sb.st.ln,sb.st.nn,l6,λi r A h1 h2=>(ruJ i r A h1 h2).same (b9.made nx nd),ors,bok⟩⟩,ko.same (sAll.trans keep)⟩
theorem qaw (T:Txt K mg a):FnOk P w K mg base CX0 1 a.fL a.lZ ["_law_script", "_law_k"] (spCell K):=by
 refine T.k8.fn.ok qou (λvs H Q E h => ?_) (λcdv A outer s H vs Q E hr h => ?_)
 .obtain ⟨_,_,_,rfl,_⟩:=h
  all_goals rfl
 .obtain ⟨l,ns,i,rfl,hS,h0,k⟩:=h
  refine ⟨_,(qk (zj (ze qqu (pv 1) (zn qav (by rfl) T.kI qat (qh (pv 0) qm qj)) (qad _)) (qt (zb (zy jb (pv 0) (pv 1) (λ_ _=>rfl)))) qaf)
   (qt (zb qp))),?_⟩
  refine ⟨_,rfl,_,rfl,_,_,rfl,.inl ⟨_,hS,rfl⟩,_,_,rfl,rfl,_,rfl,?_⟩
  refine qa6 (λc => ?_) (λc => ?_)
  .exact ⟨_,rfl,_,rfl,_,_,_,_,rfl,rfl,hS,qu2 h0 (of_decide_eq_true c),k⟩
  .have e:cell ns i=0:=qu3 (λz=>c (decide_eq_true z))
   rw [e] at k; exact k
theorem qhu (T:Txt K mg a):FnOk P w K mg base CX0 1 a.lR a.nE ["_law_cell", "_law_many"] spWo7:=by
 refine T.kO.fn.ok qbj (λvs H Q E h => ?_) (λcdv A outer s H vs Q E hr h => ?_)
 .obtain ⟨_,_,rfl,_⟩:=h
  all_goals rfl
 .obtain ⟨c,m,rfl,hm,k⟩:=h
  refine ⟨_,(qk (zf (i:=2) qbj.nd rfl (Az rfl) zp)
   (qk (zf (i:=3) qbj.nd rfl (Az rfl) (zg qba (zg qba qp (zg qal (pv 0) qp)) (zg qal (zg qa8 (pv 0) qp) (zg qhf qp (zg qal (pv 0) qp)))))
   (qk (zf (i:=4) qbj.nd rfl (Az rfl) (zg qal (zg qa8 (pv 0) qp) (zg qhf (pv 3) (zg qal (pv 0) qp))))
   (qk (zf (i:=5) qbj.nd rfl (Az rfl) (zq (qh qp (qh qp (qh qp (qh qp (qh qp (qh qp (qh qp (qh qp qm qz) qz) qz) qz) qz) qz) qz) qz)))
   (qk (zf (i:=6) qbj.nd rfl (Az rfl) zp)
   (qk (qcr BL rfl (qdi rfl T.kU (qh (pv 3) qm qj)) (qap (i:=7) qbj.nd rfl (Az rfl)) (qt (zf (i:=6) qbj.nd rfl (Az rfl) (zg qac (pv 6) (zy qpk (pv 2) (zg qal (zg qal (zg qem (pv 0) qp) (zy jb (pv 5) (pv 7) (λ_ _=>rfl))) qp) (λ_ _=>rfl))))))
   (qk (zf (i:=8) qbj.nd rfl (Az rfl) (zq qm))
   (qk (qcr BL rfl (qdi rfl T.kU (qh (pv 1) qm qj)) (qap (i:=7) qbj.nd rfl (Az rfl)) (qk (zf (i:=9) qbj.nd rfl (Az rfl) (zg qal (zg qba (zg qa8 (pv 0) qp) (zg qa8 (pv 7) (zg qba qp (zg qal (pv 0) qp)))) qp))
   (qk (zf (i:=10) qbj.nd rfl (Az rfl) (zg qac (zg qac (qas qhi (pv 6) qbd (qaq (pv 4))) (zy qpk (pv 2) (pv 9) (λ_ _=>rfl))) (qas qhi (pv 6) (qaq (zg qba (pv 4) qp)) qbd)))
   (qk (zj (PW.pt (qc7 (ze qay (zg qal (pv 0) qp) qp (qad _)) (qcp (ze qay (zg qal (pv 7) qp) qp (qad _))))) (qt (zf (i:=10) qbj.nd rfl (Az rfl) (qas qhi (pv 10) qbd (qaq (zg qba (pv 4) qp))))) qaf)
   (qt (zi (qca AT AZ Ba qbw (pv 8) (qh (pv 10) qm qj))))))))
   (qt (zb (pv 8))))))))))),?_⟩
  have za:=az_len
  obtain ⟨z,n,e,eS,en,ee,he,hn,hz,g1,g2⟩:=num46 c
  have m52:m <= 52:=hm.elim (λh=>Au h Ez) (·.2)
  refine ⟨_,rfl,_,_,rfl,rfl,(pos Ez),_,_,rfl,rfl,_,rfl,_,_,rfl,rfl,⟨Ez,Ez⟩,_,rfl,_,_,rfl,rfl,(pos Ez),_,_,rfl,rfl,_,_,rfl,rfl,(pos g1),_,_,rfl,rfl,?_⟩
  dsimp only []
  rw [eS]
  refine ⟨_,rfl,_,_,rfl,rfl,⟨Ez,Ez⟩,_,rfl,_,rfl,_,_,rfl,rfl,(pos Ez),_,_,rfl,rfl,_,_,rfl,rfl,(pos g2),?_⟩
  dsimp only []
  rw [en]
  refine ⟨qae (show 8 <= 100000 by decide),λpp hpp => ?_⟩
  have s0:=zh (o:=.lst (prL.map V.int)) hpp
  have h0:upd H pp (.lst (prL.map V.int)) pp=some (.lst (prL.map V.int)):=qu
  change _ at h0
  have e0:upd H pp (.lst [V.int 100003,V.int 100019,V.int 100043,V.int 100049,V.int 100057,V.int 100069,V.int 100103,V.int 100109])=upd H pp (.lst (prL.map V.int)):=rfl
  rw [e0]
  generalize upd H pp (.lst (prL.map V.int))=H0 at s0 h0 |-
  have bnd:=rb (n:=z) (Au hz Ez)
  refine ⟨_,rfl,_,rfl,bnd.1,bnd.2,qfa (lo:=0) (n:=((z:Int)).toNat) (λi σ H'=>H'=H0/\∃ (x:Str) (v7:Option V),σ=[some (.int c),some (.int (m:Int)),some (.str az),some (.int (z:Int)),some (.int (n:Int)),some (.ref pp),some (.str x),v7,none,none,none]/\x.length=i/\x.cps.toList.all low=true)
   ⟨rfl,Aa "",none,rfl,En,En⟩ ?_ ?_⟩
  .rintro i σ H' hi ⟨rfl,x,v7,rfl,hl,hlow⟩
   have hi:i < z:=hi
   rw [C1]
   obtain ⟨p,p0,pa⟩:=pr_at (k:=i) (A8 hi hz)
   obtain ⟨j,ej,j26⟩:∃ j:Nat,c * 48271 % p % 26=(j:Int)/\j < 26:=md _ 26 Ez
   refine ⟨_,rfl,_,rfl,_,rfl,_,_,rfl,rfl,.inr ⟨Ez,Ez⟩,_,rfl,_,rfl,_,_,_,_,rfl,rfl,SqL.of h0,qaz pa,_,_,rfl,rfl,(pos p0),_,_,rfl,rfl,(pos Ez),_,_,_,rfl,rfl,qae (by rw [za]; decide),(show atI az.cps.toList (c * 48271 % p % 26)=_ by rw [ej]; exact qyg j26),_,_,rfl,rfl,qae (show x.length + 1 <= 100000 by lia),?_⟩
   refine ⟨rfl,_,_,rfl,?_,?_⟩
   .rw [qfo,hl]
    rfl
   .rw [qdo,Ea,hlow]
    show (true && [97 + j].all low)=true
    rw [Cr,low26 j26]; rfl
  .rintro σ H' ⟨rfl,st,v7,rfl,hl,hlow⟩
   have hl:st.length=z:=hl
   refine ⟨qfe,λq hq => ?_⟩
   have s1:=s0.trans (zh (o:=.lst []) hq)
   have h1:=qu (H:=H') (a:=q) (o:=.lst [])
   have nq:=s0.free hq
   generalize upd H' q _=H1 at s1 h1 |-
   have bm:=rb (n:=m) (Au m52 Ez)
   refine ⟨_,rfl,_,rfl,bm.1,bm.2,qfa (lo:=0) (n:=((m:Int)).toNat) (λi σ H'=>Same H H'/\∃ v7 v9 v10:Option V,σ=[some (.int c),some (.int (m:Int)),some (.str az),some (.int (z:Int)),some (.int (n:Int)),some (.ref pp),some (.str st),v7,some (.ref q),v9,v10]/\H' q=some (.lst (((Bh i).map (wdS st.cps.toList n e (c / 128))).map V.str)))
    ⟨s1,_,none,none,rfl,h1⟩ ?_ ?_⟩
   .rintro i σ H' hi ⟨s2,v7,v9,v10,rfl,h2⟩
    have hi:i < m:=hi
    rw [C1]
    have lz:((((Bh i).map (wdS st.cps.toList n e (c / 128))).map V.str)).length <= 90000:=by rw [Ab,Ab,Cm]; exact Au (Nat.le_of_lt hi) (Au m52 Ez)
    have ed:(c / 128 + (i:Int) / (1 + c % 2)) % 26=(((sgn (c / 128) e i - 97:Nat)):Int):=sgn_ed ee
    have sg26:sgn (c / 128) e i - 97 < 26:=sgn_26
    have sg97:97 + (sgn (c / 128) e i - 97)=sgn (c / 128) e i:=sgn_97
    refine ⟨_,rfl,_,_,rfl,rfl,⟨Ez,Ez⟩,_,rfl,_,rfl,_,_,rfl,rfl,(pos Ez),_,_,rfl,rfl,_,_,rfl,rfl,cd2 ee he,_,_,rfl,rfl,_,_,rfl,rfl,(pos Ez),?_⟩
    dsimp only []
    rw [ed]
    have cat:=qyg sg26
    rw [sg97] at cat
    have t1:=Au (Dm st none (some (n:Int))) (BQ hl)
    have t2:=Au (Dm st (some ((n:Int) + 1)) none) (BQ hl)
    refine ⟨_,rfl,_,rfl,_,rfl,_,rfl,qae (Au (BQ hl) (Au hz Ez)),_,rfl,_,rfl,_,_,_,rfl,rfl,qae (by rw [za]; decide),cat,_,_,rfl,rfl,qae (Au (Do t1) (Au (Do hz) Ez)),_,rfl,_,rfl,_,_,rfl,rfl,_,rfl,_,rfl,qae (Au (BQ hl) (Au hz Ez)),_,_,rfl,rfl,qae (by rw [qfo]; exact Au (Nat.add_le_add (Do t1) t2) (Au (Nat.add_le_add (Do hz) hz) Ez)),?_⟩
    dsimp only []
    rw [qxc (st:=st) (n:=n) (c:=sgn (c / 128) e i) (by rw [hl]; exact Au (DO _ _) hn)]
    have lL:st.cps.toList.length=z:=by rw [AH]; exact hl
    have lw:(⟨(wdL st.cps.toList n (sgn (c / 128) e i)).toArray⟩:Str).length <= 100000:=by
     show (wdL st.cps.toList n (sgn (c / 128) e i)).toArray.size <= 100000
     rw [Av]
     unfold wdL
     rw [Ag,Aq,Ap,AB,lL]
     lia
    have fin:∀ w:Str,w=wdS st.cps.toList n e (c / 128) i->∀ v9:Option V,Same H (upd H' q (.lst ((((Bh i).map (wdS st.cps.toList n e (c / 128))).map V.str) ++ [V.str w])))/\∃ v7 v9' v10:Option V,[some (V.int c),some (.int (m:Int)),some (.str az),some (.int (z:Int)),some (.int (n:Int)),some (.ref pp),some (.str st),some (.int (i:Int)),some (.ref q),v9,some (.str w)]=[some (V.int c),some (.int (m:Int)),some (.str az),some (.int (z:Int)),some (.int (n:Int)),some (.ref pp),some (.str st),v7,some (.ref q),v9',v10]/\upd H' q (.lst ((((Bh i).map (wdS st.cps.toList n e (c / 128))).map V.str) ++ [V.str w])) q=some (.lst (((Bh (i + 1)).map (wdS st.cps.toList n e (c / 128))).map V.str)):=λw hw v9=>by
     refine ⟨qam s2 nq,_,_,_,rfl,?_⟩
     rw [qu,List.range_succ,Ay,Ay,hw]
     rfl
    refine ⟨_,rfl,_,_,rfl,rfl,(pos Ez),rfl,_,rfl,?_⟩
    by_cases c1:c % 2=1
    .refine qfd (congrArg V.int c1) ⟨_,rfl,_,_,rfl,rfl,(pos Ez),rfl,_,rfl,?_⟩
     by_cases c2:(i:Int) % 2=1
     .refine qfd (congrArg V.int c2) ⟨_,rfl,_,rfl,_,_,rfl,rfl,_,rfl,_,rfl,qae lw,?_⟩
      dsimp only []
      rw [cut_eq (by rw [lL]; exact Au (DO _ _) hn)]
      refine ⟨_,rfl,.inl ⟨rfl,_,SqL.of h2⟩,_,rfl,_,_,_,rfl,rfl,h2,qdn lz,?_⟩
      exact fin _ (by unfold wdS; rw [if_pos ⟨eo1 ee c1,io1 c2⟩]) _
     .refine qa4 (λz=>c2 (V.int.inj z)) ⟨_,rfl,.inl ⟨rfl,_,SqL.of h2⟩,_,rfl,_,_,_,rfl,rfl,h2,qdn lz,?_⟩
      exact fin _ (by unfold wdS; rw [if_neg (λz=>ni1 c2 z.2)]) _
    .refine qa4 (λz=>c1 (V.int.inj z)) (qbp ⟨_,rfl,.inl ⟨rfl,_,SqL.of h2⟩,_,rfl,_,_,_,rfl,rfl,h2,qdn lz,?_⟩)
     exact fin _ (by unfold wdS; rw [if_neg (λz=>ne1 ee c1 z.1)]) _
   .rintro σ H' ⟨s2,v7,v9,v10,rfl,h2⟩
    refine ⟨_,rfl,k q H' _ nq s2 h2 (by rw [Ab,Cm]; rfl) (wds_nd he (by rw [AH]; show n + 1 + e <= st.length; rw [hl]; exact hn) (λk hk => ?_)) (λx hx => ?_)⟩
    .rcases Nat.le_one_iff_eq_zero_or_eq_one.mp he with rfl | rfl
     .rw [Nat.div_one]; lia
     .lia
    obtain ⟨j,_,rfl⟩:=AI.mp hx
    have lL:st.cps.toList.length=z:=by rw [AH]; exact hl
    exact wds_ok hlow (by lia) (by lia) j
theorem qpb (T:Txt K mg a):FnOk P w K mg base CX0 2 a.lH a.nM ["_law_script", "_law_at", "_law_names"] (spYl K):=by
 refine T.bD.fn.ok qcx (λvs H Q E h => ?_) (λcdv A outer s H vs Q E hr h => ?_)
 .obtain ⟨_,_,_,_,_,rfl,_⟩:=h
  all_goals rfl
 .obtain ⟨l,pn,ns,k0,names,rfl,hS,hn,nnd,hk,l6,k⟩:=h
  refine ⟨_,(qk (zf (i:=3) qcx.nd rfl (Az rfl) (zm (qaw T) (hr.mono Ez) rfl T.k8.mgx T.k8.fn.kp T.k8.bd .nil qan (qh (pv 0) (qh (zg qba qp (zg qem qp (pv 1))) qm zu) qj)))
   (qk (zf (i:=4) qcx.nd rfl (Az rfl) (zg qal (zm (qaw T) (hr.mono Ez) rfl T.k8.mgx T.k8.fn.kp T.k8.bd .nil qan (qh (pv 0) (qh (zg qba qp (zg qem qp (pv 1))) qm zu) qj)) qp))
   (qk (zf (i:=5) qcx.nd rfl (Az rfl) (zq qm))
   (qk (qcr BL rfl (qdi rfl T.kU (qh (zn qav (by rfl) T.kI qat (qh (pv 2) qm qj)) qm zt)) (qap (i:=6) qcx.nd rfl (Az rfl)) (qk (zf (i:=7) qcx.nd rfl (Az rfl) (zg qal (zg qa8 (pv 3) (zg qem qp (zy jb (zq (qh qp (qh qp (qh qp (qh qp (qh qp (qh qp qm qz) qz) qz) qz) qz) qz)) (pv 6) (λ_ _=>rfl)))) qp))
   (qk (zf (i:=8) qcx.nd rfl (Az rfl) (zg qal (zm (qaw T) (hr.mono Ez) rfl T.k8.mgx T.k8.fn.kp T.k8.bd .nil qan (qh (pv 0) (qh (zg qba qp (zg qem qp (pv 6))) qm zu) qj)) qp))
   (qt (zj (PW.pt (qc7 (ze qj5 (pv 6) (pv 1) (qad _)) (qc7 (ze qay (pv 8) (pv 4) (qad _)) (qcp (ze qay (pv 7) qp (qad _)))))) (qt (zi (qca AT AZ Ba qbw (pv 5) (qh (zy jb (pv 2) (pv 6) (λ_ _=>rfl)) qm zw)))) qaf)))))
   (qk (zj (ze qay (zg qal (zg qa8 (pv 3) qp) qp) qp (qad _)) (qt (zb (qkj rfl (by rfl) T.gI (by rfl) T.lA qeh (qh (pv 5) qm qj)))) qaf)
   (qt (zb (pv 5)))))))),?_⟩
  have s0:=Same.refl H
  refine ⟨_,rfl,_,rfl,_,_,rfl,rfl,qoa Ez Ez,_,_,rfl,rfl,_,_,_,rfl,hS,by lia,?_⟩
  dsimp only []
  generalize cell ns (7 + 5 * (k0:Int))=c
  refine ⟨_,rfl,_,rfl,_,_,rfl,rfl,qoa Ez Ez,_,_,rfl,rfl,_,_,_,rfl,hS,by lia,_,_,rfl,rfl,(pos Ez),?_⟩
  refine ⟨qfe,λq hq => ?_⟩
  obtain ⟨s1,h1⟩:=alc (o:=.lst []) hq
  generalize upd H q _=H1 at s1 h1 |-
  have ln:(names.map V.str).length=names.length:=Ab _
  have bnd:=rb (n:=(names.map V.str).length) (by lia)
  have mine:((cell ns (3 + 5 * (k0:Int)) % 3:Int))=((owA ns k0:Nat):Int):=qrg
  dsimp only []
  rw [mine]
  refine ⟨_,rfl,_,_,rfl,.inl ⟨_,SqL.of (s1 _ _ hn),rfl⟩,_,rfl,bnd.1,bnd.2,qfa (lo:=0) (n:=(((names.map V.str).length:Int)).toNat) (λi σ H'=>Same H H'/\(∃ ys:List Str,H' q=some (.lst (ys.map V.str))/\ys.length <= i/\YlOk names (owA ns) k0 ys/\∀ y ∈ ys,∃ b,b < i/\y=nm names b)/\∃ v6 v7 v8:Option V,σ=[some (.ref l),some (.int (k0:Int)),some (.ref pn),some (.int c),some (.int ((owA ns k0:Nat):Int)),some (.ref q),v6,v7,v8]) ⟨s1,⟨[],h1,A1 _,⟨.nil,λy hy=>absurd hy Ar⟩,λy hy=>absurd hy Ar⟩,none,none,none,rfl⟩ ?_ ?_⟩
  .rintro i σ H' hi ⟨s2,⟨ys,h2,ly,yo,yb⟩,v6,v7,v8,rfl⟩
   have hi:i < names.length:=by rw [ln] at hi; lia
   rw [C1]
   obtain ⟨m,em,m1,m32⟩:=pos12 i (by lia)
   refine ⟨_,rfl,qae (show 6 <= 100000 by decide),λpp npp => ?_⟩
   obtain ⟨s3,e3⟩:=alc (o:=.lst [V.int 1,V.int 2,V.int 4,V.int 8,V.int 16,V.int 32]) npp
   generalize upd H' pp _=H3 at s3 e3 |-
   have s23:=s2.trans s3
   refine ⟨_,rfl,_,_,_,_,rfl,rfl,SqL.of e3,em,_,_,rfl,rfl,.inl ⟨Ez,Ez⟩,_,_,rfl,rfl,⟨by lia,by lia⟩,_,_,rfl,rfl,(pos Ez),?_⟩
   refine ⟨_,rfl,_,rfl,_,_,rfl,rfl,qoa Ez Ez,_,_,rfl,rfl,_,_,_,rfl,s23.seq hS,by lia,_,_,rfl,rfl,(pos Ez),?_⟩
   dsimp only []
   have theirs:((cell ns (3 + 5 * (i:Int)) % 3:Int))=((owA ns i:Nat):Int):=qrg
   rw [theirs]
   have h3:=s3 _ _ h2
   have up:∀ y ∈ ys,∃ b,b < i + 1/\y=nm names b:=λy hy=>by obtain ⟨b,h1,h2⟩:=yb y hy; exact ⟨b,by lia,h2⟩
   have stay:Same H H3/\(∃ ys:List Str,H3 q=some (.lst (ys.map V.str))/\ys.length <= i + 1/\YlOk names (owA ns) k0 ys/\∀ y ∈ ys,∃ b,b < i + 1/\y=nm names b):=⟨s23,ys,h3,by lia,yo,up⟩
   refine ⟨_,rfl,_,rfl,rfl,_,rfl,?_⟩
   by_cases c1:i=k0
   .exact qd9 (by rw [c1]) (qbp ⟨stay.1,stay.2,_,_,_,rfl⟩)
   .refine qgl (λz=>c1 (DT (V.int.inj z))) ⟨_,rfl,_,rfl,rfl,_,rfl,?_⟩
    by_cases c2:owA ns i=owA ns k0
    .refine qfd (by rw [c2]) ⟨_,rfl,rfl,_,rfl,qa6 (λc3 => ?_) (λc3=>⟨stay.1,stay.2,_,_,_,rfl⟩)⟩
     refine ⟨_,rfl,.inl ⟨rfl,_,SqL.of h3⟩,_,rfl,_,rfl,_,_,_,_,rfl,rfl,SqL.of (s23 _ _ hn),qaz (nmV hi),_,_,_,rfl,rfl,h3,qdn (by rw [Ab]; lia),?_⟩
     refine ⟨qam s23 hq,⟨ys ++ [nm names i],by rw [qu,Ay]; rfl,by rw [Ag]; show _ + 1 <= _; lia,⟨?_,λy hy => ?_⟩,λy hy => ?_⟩,_,_,_,rfl⟩
     .rw [AO]
      refine ⟨yo.nd,by simp,λa ha b hb e => ?_⟩
      obtain ⟨b',hb',eb⟩:=yb a ha
      rw [e,Ai.mp hb] at eb
      have:=qi8 nnd hi (by lia) eb
      lia
     .rcases Ax.mp hy with z | z
      .exact yo.ok y z
      .rw [Ai.mp z]; exact ⟨i,hi,rfl,c1,c2⟩
     .rcases Ax.mp hy with z | z
      .exact up y z
      .rw [Ai.mp z]; exact ⟨i,by lia,rfl⟩
    .exact qa4 (λz=>c2 (DT (V.int.inj z))) (qbp ⟨stay.1,stay.2,_,_,_,rfl⟩)
  .rintro σ H' ⟨s2,⟨ys,h2,ly,yo,yb⟩,v6,v7,v8,rfl⟩
   refine ⟨_,rfl,_,_,rfl,rfl,⟨Ez,Ez⟩,_,_,rfl,rfl,(pos Ez),rfl,_,rfl,qa6 (λc1 => ?_) (λc1 => ?_)⟩
   .refine ⟨_,rfl,_,_,rfl,SqL.of h2,λq2 hq2 => ?_⟩
    rw [<- List.map_reverse]
    exact k q2 _ _ (s2.free hq2) (s2.trans (zh hq2)) qu (qvh yo)
   .exact ⟨_,rfl,k q H' ys hq s2 h2 yo⟩
theorem qtf (T:Txt K mg a):FnOk P w K mg base CX0 2 a.nK a.lE ["_law_script", "_law_at", "_law_names"] (spBaL K):=by
 refine T.dG.fn.ok qei (λvs H Q E h => ?_) (λcdv A outer s H vs Q E hr h => ?_)
 .obtain ⟨_,_,_,_,_,rfl,_⟩:=h
  all_goals rfl
 .obtain ⟨l,pn,ns,k0,names,rfl,hS,hn,hk,l6,k⟩:=h
  refine ⟨_,(qk (zf (i:=3) qei.nd rfl (Az rfl) (zg qa8 (zm (qaw T) (hr.mono Ez) rfl T.k8.mgx T.k8.fn.kp T.k8.bd .nil qan (qh (pv 0) (qh qp qm qz) qj)) qp))
   (qk (zf (i:=4) qei.nd rfl (Az rfl) (zm (qaw T) (hr.mono Ez) rfl T.k8.mgx T.k8.fn.kp T.k8.bd .nil qan (qh (pv 0) (qh (zg qba qp (zg qem qp (pv 1))) qm zu) qj)))
   (qk (zf (i:=5) qei.nd rfl (CK rfl) (zq qm))
   (qk (qcr BL rfl (qdi rfl T.kU (qh (zn qav (by rfl) T.kI qat (qh (pv 2) qm qj)) qm zt)) (qap (i:=6) qei.nd rfl (Az rfl)) (qt (zi (qca AT AZ Ba qbw (pv 5) (qh (zg qal (zg qba (zg qem (pv 6) (zg qba qp (zg qal (pv 3) qp))) (zg qa8 (pv 3) qp)) qp) qm zu)))))
   (qk (qde (i:=7) qei.nd rfl rfl (N:=["_law_k", "_law_ranks", "_law_at"]) (js:=[none,some 5,some 1]) (XN:=["_law_script", "_law_at", "_law_names", "_law_turn", "_law_cell", "_law_ranks", "_law_k", "_law_below"]) (xs:=qab qh8) rfl rfl rfl En (qdi rfl T.kU (qh (zn qav (by rfl) T.kI qat (qh (pv 2) qm qj)) qm zt)) (λ_ _ _ _ _ _=>(qap (i:=0) (show Cd (["_law_k", "_law_ranks", "_law_at"]:List Str) from by decide +kernel) rfl (Az rfl) (CK rfl))) (λ_ _ _ _ _ _=>(qq0 (ze qqu (zy (qol (K:=K) rfl) (pv 1) (pv 0) (λ_ _=>rfl)) (zy (qol (K:=K) rfl) (pv 1) (pv 2) (λ_ _=>rfl)) (qad _)))) (λ_ _ _ _ _ _=>(pv 0)))
   (qk (zj (PW.pt (qc7 (ze qay (zg qal (pv 4) qp) qp (qad _)) (qcp (ze (que hr.units0) (pv 7) (zq qm) (qad _))))) (qt (zb (zy jb (pv 2) (zy jb (pv 7) (zg qal (zg qa8 (pv 4) qp) (zn qav (by rfl) T.kI qat (qh (pv 7) qm qj))) (λ_ _=>rfl)) (λ_ _=>rfl)))) qaf)
   (qt (zb qbu)))))))),?_⟩
  have s0:=Same.refl H
  refine ⟨_,rfl,_,_,_,rfl,hS,Ez,_,_,rfl,rfl,⟨Ez,Ez⟩,?_⟩
  dsimp only []
  have rkd:∀ j:Nat,((j:Int) * (1 + cell ns 0 / 21 % 6) + cell ns 0 / 21 / 6) % 7=rkA ns j:=λ_=>rfl
  generalize cell ns 0 / 21=tn at rkd |-
  refine ⟨_,rfl,_,rfl,_,_,rfl,rfl,qoa Ez Ez,_,_,rfl,rfl,_,_,_,rfl,hS,by lia,?_⟩
  dsimp only []
  generalize cell ns (4 + 5 * (k0:Int))=c
  refine ⟨qfe,λq hq => ?_⟩
  obtain ⟨s1,h1⟩:=alc (o:=.lst []) hq
  generalize upd H q _=H1 at s1 h1 |-
  have ln:(names.map V.str).length=names.length:=Ab _
  have bnd:=rb (n:=(names.map V.str).length) (by lia)
  refine ⟨_,rfl,_,_,rfl,.inl ⟨_,SqL.of (s1 _ _ hn),rfl⟩,_,rfl,bnd.1,bnd.2,qfa (lo:=0) (n:=(((names.map V.str).length:Int)).toNat) (λi σ H'=>Same H H'/\H' q=some (.lst (((Bh i).map (rkA ns)).map V.int))/\∃ v6:Option V,σ=[some (.ref l),some (.int (k0:Int)),some (.ref pn),some (.int tn),some (.int c),some (.ref q),v6,none]) ⟨s1,h1,none,rfl⟩ ?_ ?_⟩
  .rintro i σ H' hi ⟨s2,h2,v6,rfl⟩
   have hi:i < names.length:=by rw [ln] at hi; lia
   rw [C1]
   refine ⟨_,rfl,.inl ⟨rfl,_,SqL.of h2⟩,_,rfl,_,rfl,_,_,rfl,rfl,(pos Ez),_,_,rfl,rfl,_,_,rfl,rfl,.inl ⟨by lia,by lia⟩,_,rfl,_,_,rfl,rfl,⟨Ez,Ez⟩,_,_,rfl,rfl,_,_,rfl,rfl,(pos Ez),_,_,_,rfl,rfl,h2,qdn (by rw [Ab,Ab,Cm]; lia),?_⟩
   dsimp only []
   rw [rkd]
   refine ⟨qam s2 hq,?_,_,rfl⟩
   rw [qu,List.range_succ,Ay,Ay]; rfl
  .rintro σ H' ⟨s2,h2,v6,rfl⟩
   rw [ln,CG] at h2
   have rat:∀ j:Nat,j < names.length->atI (((Bh names.length).map (rkA ns)).map V.int) (j:Int)=some (.int (rkA ns j)):=λj hj=>qaz (by rw [An,An,Ee hj]; rfl)
   refine ⟨_,rfl,_,_,rfl,.inl ⟨_,SqL.of (s2 _ _ hn),rfl⟩,_,rfl,bnd.1,bnd.2,?_⟩
   refine qsb (λv=>match v with | .int j=>decide (rkA ns j.toNat < rkA ns k0) | _=>false) (λv=>v) (λσ'=>∃ v,σ'=[v,some (.ref q),some (.int (k0:Int))]) qe1 (qae (by rw [Ab,Cm]; lia)) ⟨none,rfl⟩ (λv σ' J N RR hv sm s4 kn ky => ?_) qcq λp5 hp5 => ?_
   .obtain ⟨v0,rfl⟩:=s4
    obtain ⟨j,hj,rfl⟩:=AI.mp hv
    have hj:j < names.length:=by have:=Ct.mp hj; rw [ln] at this; lia
    have ej:(0:Int) + (j:Int)=(j:Int):=C1 _
    rw [ej] at kn ky |-
    refine ⟨_,rfl,_,rfl,_,_,_,_,rfl,rfl,SqL.of (sm _ _ h2),rat j hj,_,rfl,_,rfl,_,_,_,_,rfl,rfl,SqL.of (sm _ _ h2),rat k0 hk,_,_,rfl,rfl,_,rfl,qa6 (λc1 => ?_) (λc1 => ?_)⟩
    .exact ⟨_,rfl,ky _ ⟨_,rfl⟩ c1⟩
    .exact kn _ ⟨_,rfl⟩ (by cases e:decide (rkA ns j < rkA ns k0) with | true=>exact absurd e c1 | false=>exact e)
   obtain ⟨bl,ebl,hbl⟩:∃ bl:List Nat,((((Bh (((names.map V.str).length:Int)).toNat).map λi=>V.int (0 + (i:Nat))).filter λv=>match v with | .int j=>decide (rkA ns j.toNat < rkA ns k0) | _=>false).map λv=>v)=bl.map (λb:Nat=>V.int (b:Int))/\∀ b ∈ bl,b < names.length/\rkA ns b < rkA ns k0:=by
    refine ⟨(Bh names.length).filter λj=>decide (rkA ns j < rkA ns k0),?_,λb hb => ?_⟩
    .rw [List.map_id',ln,CG,List.filter_map]
     have:(λi:Nat=>V.int (0 + (i:Int)))=λi:Nat=>V.int (i:Int):=by funext i; rw [C1]
     rw [this]
     congr 1
    .have:=Dx.mp hb
     exact ⟨Ct.mp this.1,of_decide_eq_true this.2⟩
   rw [ebl]
   obtain ⟨s5,e5⟩:=alc (o:=.lst (bl.map λb:Nat=>V.int (b:Int))) hp5
   generalize upd H' p5 _=H5 at s5 e5 |-
   have s25:=s2.trans s5
   have flb:(bl.map λb:Nat=>V.int (b:Int)).all qct=true:=by rw [CY]; exact AQ.mpr λ_ _=>rfl
   refine ⟨_,rfl,_,_,rfl,rfl,(pos Ez),rfl,_,rfl,qa6 (λc1 => ?_) (λc1 => ?_)⟩
   .refine ⟨_,rfl,qfe,λpe npe => ?_⟩
    obtain ⟨s6,e6⟩:=alc (o:=.lst []) npe
    generalize upd H5 pe _=H6 at s6 e6 |-
    have s26:=s25.trans s6
    have e56:=s6 _ _ e5
    refine ⟨_,_,_,_,rfl,rfl,SqL.of e56,SqL.of e6,flb,rfl,_,rfl,qa6 (λc2 => ?_) (λc2 => ?_)⟩
    .have l1:1 <= bl.length:=by
      cases bl with
      | nil=>exact absurd c2 Ez
      | cons _ _=>exact DC _
     have z0:=Int.emod_nonneg (c / 3) (show ((bl.length:Nat):Int) ≠ 0 by lia)
     have z1:=Int.emod_lt_of_pos (c / 3) (show (0:Int) < (bl.length:Nat) by lia)
     obtain ⟨j,ej⟩:∃ j:Nat,c / 3 % ((bl.length:Nat):Int)=(j:Int):=⟨(c / 3 % ((bl.length:Nat):Int)).toNat,by lia⟩
     have hj:j < bl.length:=by lia
     have hb:=hbl _ (Bv hj)
     refine ⟨_,rfl,_,rfl,_,rfl,_,_,rfl,rfl,⟨Ez,Ez⟩,_,rfl,_,_,rfl,.inl ⟨_,SqL.of e56,rfl⟩,_,_,rfl,rfl,(pos (by rw [Ab]; lia)),?_⟩
     dsimp only []
     rw [Ab,ej]
     refine ⟨_,_,_,_,rfl,rfl,SqL.of e56,qaz (by rw [An,Aj hj]; rfl),_,_,_,_,rfl,rfl,SqL.of (s26 _ _ hn),qaz (nmV hb.1),?_⟩
     exact k H6 (some bl[j]) s26 λb e=>by cases e; exact hb
    .exact k H6 none s26 λb e=>nomatch e
   .exact qbp (k H5 none s25 λb e=>nomatch e)
theorem qtg (T:Txt K mg a):FnOk P w K mg base CX0 3 a.mT a.fZ ["_law_script", "_law_at", "_law_names", "_law_kinds"] (spLrl K):=by
 refine T.dC.fn.ok qa9 (λvs H Q E h => ?_) (λcdv A outer s H vs Q E hr h => ?_)
 .obtain ⟨_,_,_,_,_,_,_,rfl,_⟩:=h
  all_goals rfl
 .obtain ⟨l,pn,pk,ns,k0,names,kinds,rfl,hS,hn,hk',nnd,hk,l6,knd,k12,k60,kok,k⟩:=h
  refine ⟨_,(qk (qde (i:=4) qa9.nd rfl rfl (N:=["_law_k", "_law_script", "_law_at"]) (js:=[none,some 0,some 1]) (XN:=["_law_script", "_law_at", "_law_names", "_law_kinds", "_law_cells", "_law_owed", "_law_rest", "_law_turn", "_law_base_here", "_law_opens", "_law_unit", "_law_longer", "_law_k", "_law_units", "_law_still", "_law_rule_here"]) (xs:=qab qh9) rfl rfl rfl En (qdi rfl T.kU (qh qp qm qz)) (λ_ _ _ _ _ _=>(qap (i:=0) (show Cd (["_law_k", "_law_script", "_law_at"]:List Str) from by decide +kernel) rfl (Az rfl) (CK rfl))) (λ_ _ _ _ _ _=>qc2) (λ_ _ _ _ _ _=>(zm (qaw T) (hr.mono Ez) rfl T.k8.mgx T.k8.fn.kp T.k8.bd .nil qan (qh (pv 1) (qh (zg qba (zg qba qp (zg qem qp (pv 2))) (pv 0)) qm zu) qj))))
   (qk (zf (i:=5) qa9.nd rfl (Az rfl) (zg qal (zy jb (pv 4) qp (λ_ _=>rfl)) qp))
   (qk (zf (i:=6) qa9.nd rfl (Az rfl) (zg qbi (qas qbe (pv 3) qbd (qaq (pv 5))) (qas qbe (pv 3) (qaq (zg qba (pv 5) qp)) (qaq qp))))
   (qk (zf (i:=7) qa9.nd rfl (Az rfl) (zg qal (zg qa8 (zy jb (pv 4) qp (λ_ _=>rfl)) qp) qp))
   (qk (zf (i:=6) qa9.nd rfl (Az rfl) (zg qbi (qas qbe (pv 6) (qaq (pv 7)) qbd) (qas qbe (pv 6) qbd (qaq (pv 7)))))
   (qk (zf (i:=8) qa9.nd rfl (Az rfl) (zm (qtf T) (hr.mono Ez) rfl T.dG.mgx T.dG.fn.kp T.dG.bd .nil qan (qh (pv 0) (qh (pv 1) (qh (pv 2) qm qj) qj) qj)))
   (qk (zf (i:=9) qa9.nd rfl (Az rfl) (zy jb (pv 6) qp (λ_ _=>rfl)))
   (qk (zj (ze qea (pv 8) qbu (qad _)) (qt (zf (i:=9) qa9.nd rfl (Az rfl) qbu)) qaf)
   (qk (zf (i:=10) qa9.nd rfl (Az rfl) (zy jb (zq (qh zp (qh zp (qh zp qm qz) qz) qz)) (zg qal (zg qa8 (zy jb (pv 4) qp (λ_ _=>rfl)) qp) qp) (λ_ _=>rfl)))
   (qk (zf (i:=11) qa9.nd rfl (Az rfl) (zq qm))
   (qk (qcr BL rfl (qdi rfl T.kU (qh (zg qal (zg qa8 (zy jb (pv 4) qp (λ_ _=>rfl)) qp) qp) qm zu)) (qap (i:=12) qa9.nd rfl (Az rfl)) (qk (zf (i:=13) qa9.nd rfl (Az rfl) (zg qba qp (zg qal (zg qa8 (zy jb (pv 4) qp (λ_ _=>rfl)) (zg qba qp (zg qem qp (pv 12)))) qp)))
   (qt (zi (qca AT AZ Ba qbw (pv 11) (qh (zr (qh (zy jb (pv 6) (zg qba qp (pv 12)) (λ_ _=>rfl)) (qh (pv 13) (qh (zg qba qp (zg qal (zg qa8 (zy jb (pv 4) qp (λ_ _=>rfl)) (zg qba qp (zg qem qp (pv 12)))) qp)) qm zu) qj) zw)) qm zx))))))
   (qk (zf (i:=14) qa9.nd rfl (Az rfl) qbu)
   (qk (zj (ze qay (zg qal (zg qa8 (zy jb (pv 4) qp (λ_ _=>rfl)) qp) qp) qp (qad _)) (qt (zf (i:=14) qa9.nd rfl (Az rfl) (zr (qh (zy jb (pv 6) qp (λ_ _=>rfl)) (qh (zy jb (pv 6) qp (λ_ _=>rfl)) qm zw) zw)))) qaf)
   (qk (zf (i:=15) qa9.nd rfl (Az rfl) (zq (qh (zy jb (pv 2) (pv 1) (λ_ _=>rfl)) (qh (zy jb (pv 3) (zg qal (zy jb (pv 4) qp (λ_ _=>rfl)) qp) (λ_ _=>rfl)) (qh (zy jb (pv 3) (pv 5) (λ_ _=>rfl)) (qh (pv 9) (qh (pv 8) qm qj) qj) zw) zw) zw)))
   (qk (zf (i:=15) qa9.nd rfl (Az rfl) (zg qbi (pv 15) (zq (qh (zg qba qp (zg qal (zy jb (pv 4) qp (λ_ _=>rfl)) qp)) (qh (pv 10) (qh (qas qbe (pv 6) (qaq qp) (qaq (zg qba qp (zg qal (zy jb (pv 4) qp (λ_ _=>rfl)) qp)))) qm zw) qj) zu))))
   (qk (zf (i:=15) qa9.nd rfl (Az rfl) (zg qbi (pv 15) (zq (qh (qas qbe (pv 6) (qaq qp) (qaq (zg qba qp (zg qal (zg qa8 (zy jb (pv 4) qp (λ_ _=>rfl)) qp) qp)))) (qh (pv 11) (qh (pv 14) qm qj) qj) zw))))
   (qt (zb (zg qbi (pv 15) (zq (qh (zm (qpb T) (hr.mono Ez) rfl T.bD.mgx T.bD.fn.kp T.bD.bd .nil qan (qh (pv 0) (qh (pv 1) (qh (pv 2) qm qj) qj) qj)) qm zt))))))))))))))))))))),?_⟩
  have l12:(kinds.map V.str).length=kinds.length:=Ab _
  refine ⟨_,rfl,Ez,Ez,?_⟩
  refine qcb (λv=>match v with | .int j=>.int (cell ns (3 + 5 * (k0:Int) + j)) | _=>.non) (λσ'=>∃ v,σ'=[v,some (.ref l),some (.int (k0:Int))]) qe1 (qae (by rw [Ab,Cm]; decide)) ⟨none,rfl⟩ (λv σ' H' RR' hv sm s4 q => ?_) qcq λp1 n1 => ?_
  .obtain ⟨v0,rfl⟩:=s4
   obtain ⟨j,hj,rfl⟩:=AI.mp hv
   have q:=q [some (.int (0 + (j:Int))),some (.ref l),some (.int (k0:Int))] ⟨_,rfl⟩
   exact ⟨_,rfl,_,rfl,_,_,rfl,rfl,qoa Ez Ez,_,_,rfl,rfl,_,rfl,_,_,rfl,rfl,_,_,_,rfl,sm.seq hS,by lia,q⟩
  obtain ⟨c0,ec0⟩:∃ c0,c0=cell ns (3 + 5 * (k0:Int)):=⟨_,rfl⟩
  obtain ⟨c1,ec1⟩:∃ c1,c1=cell ns (3 + 5 * (k0:Int) + 1):=⟨_,rfl⟩
  obtain ⟨c2,ec2⟩:∃ c2,c2=cell ns (3 + 5 * (k0:Int) + 2):=⟨_,rfl⟩
  obtain ⟨c3,ec3⟩:∃ c3,c3=cell ns (3 + 5 * (k0:Int) + 3):=⟨_,rfl⟩
  obtain ⟨c4,ec4⟩:∃ c4,c4=cell ns (3 + 5 * (k0:Int) + 4):=⟨_,rfl⟩
  have ecs:((Bh ((5:Int)).toNat).map λi=>V.int (0 + (i:Nat))).map (λv=>match v with | .int j=>V.int (cell ns (3 + 5 * (k0:Int) + j)) | _=>.non)=[V.int c0,V.int c1,V.int c2,V.int c3,V.int c4]:=by
   rw [ec0,ec1,ec2,ec3,ec4]
   show [V.int _,V.int _,V.int _,V.int _,V.int _]=_
   simp
  rw [ecs]
  obtain ⟨s1,e1⟩:=alc (o:=.lst [V.int c0,V.int c1,V.int c2,V.int c3,V.int c4]) n1
  generalize upd H p1 _=H1 at s1 e1 |-
  refine ⟨_,rfl,_,_,_,_,rfl,rfl,SqL.of (e1),rfl,_,_,rfl,rfl,(pos Ez),?_⟩
  dsimp only []
  have eo:c0 % 3=((owA ns k0:Nat):Int):=by rw [ec0]; exact qrg
  have ho:owA ns k0 < 3:=owA_l
  rw [eo]
  generalize owA ns k0=o at ho eo |-
  refine ⟨_,rfl,_,rfl,_,rfl,_,_,rfl,SqL.of (s1 _ _ hk'),λp2 n2 => ?_⟩
  rw [qgk _ o (by lia),<- B7]
  obtain ⟨s2,e2⟩:=alc (o:=.lst ((kinds.take o).map V.str)) n2
  generalize upd H1 p2 _=H2 at s2 e2 |-
  have s12:=s1.trans s2
  refine ⟨_,rfl,_,rfl,_,_,rfl,rfl,_,rfl,_,rfl,_,_,rfl,SqL.of (s12 _ _ hk'),λp3 n3 => ?_⟩
  have ec:qfl (kinds.map V.str) (some ((o:Int) + 1)) (some 12)=((kinds.take 12).drop (o + 1)).map V.str:=by
   rw [show ((o:Int) + 1)=((o + 1:Nat):Int) from rfl,show (12:Int)=((12:Nat):Int) from rfl,cut2 _ _ _ (by lia) (by lia),<- B7,<- Cs]
  rw [ec]
  obtain ⟨s3,e3⟩:=alc (o:=.lst (((kinds.take 12).drop (o + 1)).map V.str)) n3
  generalize upd H2 p3 _=H3 at s3 e3 |-
  have s13:=s12.trans s3
  refine ⟨_,_,_,_,rfl,rfl,s3 _ _ e2,e3,qae (by rw [Ab,Ab,Ap,AB,Ap]; lia),λp4 n4 => ?_⟩
  rw [<- Ay]
  have lL:(kinds.take o ++ (kinds.take 12).drop (o + 1)).length=11:=by rw [Ag,Ap,AB,Ap]; lia
  obtain ⟨s4,e4⟩:=alc (o:=.lst ((kinds.take o ++ (kinds.take 12).drop (o + 1)).map V.str)) n4
  generalize upd H3 p4 _=H4 at s4 e4 |-
  have s14:=s13.trans s4
  have s24:=s2.trans (s3.trans s4)
  refine ⟨_,rfl,_,_,_,_,rfl,rfl,SqL.of (s24 _ _ e1),rfl,_,_,rfl,rfl,⟨Ez,Ez⟩,_,_,rfl,rfl,(pos Ez),?_⟩
  dsimp only []
  obtain ⟨t,et,ht⟩:∃ t:Nat,c0 / 3 % 11=(t:Int)/\t < 11:=md _ 11 Ez
  rw [et]
  obtain ⟨M',eM,lM,ndM,okM,nwM,w12⟩:=qxp (o:=o) (t:=t) knd k12 ho ht kok
  refine ⟨_,rfl,_,rfl,_,rfl,_,_,rfl,SqL.of e4,λp5 n5 => ?_⟩
  rw [qeu _ t (by rw [Ab,lL]; lia),<- Cs]
  obtain ⟨s5,e5⟩:=alc (o:=.lst (((kinds.take o ++ (kinds.take 12).drop (o + 1)).drop t).map V.str)) n5
  generalize upd H4 p5 _=H5 at s5 e5 |-
  refine ⟨_,rfl,_,rfl,_,rfl,_,_,rfl,SqL.of (s5 _ _ e4),λp6 n6 => ?_⟩
  rw [qgk _ t (by rw [Ab,lL]; lia),<- B7]
  obtain ⟨s6,e6⟩:=alc (o:=.lst (((kinds.take o ++ (kinds.take 12).drop (o + 1)).take t).map V.str)) n6
  generalize upd H5 p6 _=H6 at s6 e6 |-
  refine ⟨_,_,_,_,rfl,rfl,s6 _ _ e5,e6,qae (by rw [Ab,Ab,AB,Ap,lL]; lia),λp7 n7 => ?_⟩
  rw [<- Ay,eM]
  clear eM
  obtain ⟨m0,  m1,  m2,  m3,  m4,  m5,  m6,  m7,  m8,  m9,  m10,rfl⟩:=eleven lM
  have s16:=s14.trans (s5.trans s6)
  have n7H:=s16.free n7
  obtain ⟨s7,e7⟩:=alc (o:=.lst ([m0,m1,m2,m3,m4,m5,m6,m7,m8,m9,m10].map V.str)) n7
  generalize upd H6 p7 _=H7 at s7 e7 |-
  have s17:=s16.trans s7
  have s27:=s24.trans (s5.trans (s6.trans s7))
  have ec7:=s27 _ _ e1
  clear s1 s2 s3 s4 s5 s6 e2 e3 e4 e5 e6 s12 s13 s14 s24 lL
  refine ⟨_,rfl,_,rfl,_,rfl,l,pn,ns,k0,names,rfl,s17.seq hS,s17 _ _ hn,hk,l6,λH8 ob s8 hob => ?_⟩
  have s18:=s17.trans s8
  have e8:=s8 _ _ e7
  have c8:=s8 _ _ ec7
  refine ⟨_,rfl,_,_,_,_,rfl,rfl,SqL.of (e8),rfl,?_⟩
  have gb:qie names ob=qd8 (ob.map (nm names)):=by cases ob <;> rfl
  rw [gb]
  have hob':ob=none \/ ∃ b,ob=some b:=by
   cases ob with
   | none=>exact .inl rfl
   | some b=>exact .inr ⟨b,rfl⟩
  apply useV (p:=λx=>∃ opn:Option Str,x=some (qd8 opn)/\((ob=none/\opn=some m0) \/ ((∃ b,ob=some b)/\opn=none)))
  .intro fin
   refine hob'.elim (λz => ?_) (λz => ?_)
   .refine ⟨_,rfl,rfl,_,rfl,qd9 (by rw [z]; rfl) ?_⟩
    generalize hx:(some (V.str m0):Option V)=x9
    exact fin x9 ⟨some m0,hx.symm,.inl ⟨z,rfl⟩⟩
   .obtain ⟨b,eb⟩:=z
    refine ⟨_,rfl,rfl,_,rfl,qgl (λz=>by rw [eb] at z; cases z) ?_⟩
    exact fin (some .non) ⟨none,rfl,.inr ⟨⟨b,eb⟩,rfl⟩⟩
  .rintro x9 ⟨opn,rfl,hopn⟩
   obtain ⟨u1,u2⟩:=qxq (c1 / 18)
   refine ⟨qae (show 3 <= 100000 by decide),λpu nu => ?_⟩
   obtain ⟨s9,e9⟩:=alc (o:=.lst [V.str (Aa "days"),V.str (Aa "weeks"),V.str (Aa "court")]) nu
   generalize upd H8 pu _=H9 at s9 e9 |-
   have s19:=s18.trans s9
   refine ⟨_,rfl,_,_,_,_,rfl,rfl,SqL.of (s9 _ _ c8),rfl,_,_,rfl,rfl,⟨Ez,Ez⟩,_,_,rfl,rfl,(pos Ez),_,_,_,_,rfl,rfl,SqL.of e9,u1,?_⟩
   refine ⟨qfe,λpl npl => ?_⟩
   obtain ⟨sa,ea⟩:=alc (o:=.lst []) npl
   generalize upd H9 pl _=Ha at sa ea |-
   have s1a:=s19.trans sa
   have nplH:=s19.free npl
   have s8a:=s9.trans sa
   obtain ⟨g,eg,hg⟩:∃ g:Nat,c3 / 12 % 3=(g:Int)/\g <= 2:=mdl _ 2
   have eg2:(c3 / 12 % 3).toNat=g:=by rw [eg]; exact CG g
   refine ⟨_,rfl,_,_,_,_,rfl,rfl,SqL.of (s8a _ _ c8),rfl,_,_,rfl,rfl,⟨Ez,Ez⟩,_,_,rfl,rfl,(pos Ez),_,rfl,(by lia),(by lia),qfa (lo:=0) (n:=(c3 / 12 % 3).toNat) (λi σ H'=>Same H8 H'/\(∃ (us:List V) (lg:List (Str × Int × Int)),H' pl=some (.lst us)/\Tups H' us (lg.map qp5)/\lg.map (·.1)=[m6,m7].take i/\us.length=i/\∀ t ∈ lg,(1 <= t.2.1/\t.2.1 <= 20)/\1 <= t.2.2/\t.2.2 <= 3)/\∃ v12 v13:Option V,σ=[some (.ref l),some (.int (k0:Int)),some (.ref pn),some (.ref pk),some (.ref p1),some (.int (o:Int)),some (.ref p7),some (.int (t:Int)),some (qd8 (ob.map (nm names))),some (qd8 opn),some (.str (qft (c1 / 18))),some (.ref pl),v12,v13,none,none]) ⟨s8a,⟨[],[],ea,.nil,rfl,rfl,λt h=>absurd h Ar⟩,none,none,rfl⟩ ?_ ?_⟩
   .rintro i σ H' hi ⟨s2,⟨us,lg,h2,t2,f2,l2,r2⟩,v12,v13,rfl⟩
    have hi:i < g:=by lia
    rw [C1]
    have cB:=s2 _ _ c8
    have eB:=s2 _ _ e8
    obtain ⟨mk,emk,fmk⟩:∃ mk:Str,atI ([m0,m1,m2,m3,m4,m5,m6,m7,m8,m9,m10].map V.str) (6 + (i:Int))=some (.str mk)/\[m6,m7].take (i + 1)=[m6,m7].take i ++ [mk]:=by
     rcases (by lia:i=0 \/ i=1) with rfl | rfl
     .exact ⟨m6,rfl,rfl⟩
     .exact ⟨m7,rfl,rfl⟩
    refine ⟨_,rfl,_,_,_,_,rfl,rfl,SqL.of (cB),rfl,_,rfl,_,_,rfl,rfl,qoa Ez Ez,_,_,rfl,rfl,_,_,rfl,rfl,cdA hi hg,_,_,rfl,rfl,(pos Ez),_,_,rfl,rfl,?_⟩
    refine ⟨_,rfl,.inl ⟨rfl,_,SqL.of h2⟩,_,rfl,_,rfl,_,_,rfl,rfl,_,_,_,_,rfl,rfl,SqL.of eB,emk,_,rfl,_,rfl,_,_,_,_,rfl,rfl,SqL.of (cB),rfl,_,rfl,_,_,rfl,rfl,qoa Ez Ez,_,_,rfl,rfl,_,_,rfl,rfl,cdB hi hg,_,_,rfl,rfl,(pos Ez),_,_,rfl,rfl,qls _ _ _,λq2 n2 => ?_⟩
    dsimp only []
    have b1:1 <= 1 + c2 / (40 + 811 * (i:Int)) % 20/\1 + c2 / (40 + 811 * (i:Int)) % 20 <= 20:=om _ Ez
    have b2:1 <= 1 + c2 / (797 + 13 * (i:Int)) % 3/\1 + c2 / (797 + 13 * (i:Int)) % 3 <= 3:=om _ Ez
    generalize 1 + c2 / (40 + 811 * (i:Int)) % 20=u9 at b1 n2 |-
    generalize 1 + c2 / (797 + 13 * (i:Int)) % 3=t9 at b2 n2 |-
    obtain ⟨s3,e3⟩:=alc (o:=.tup [V.str mk,V.int u9,V.int t9]) n2
    generalize upd H' q2 _=H3 at s3 e3 |-
    have h3:=s3 _ _ h2
    refine ⟨_,_,_,rfl,rfl,h3,qdn (by lia),?_⟩
    have kp:Same H8 (upd H3 pl (.lst (us ++ [V.ref q2]))):=qam (s2.trans s3) (s9.free npl)
    refine ⟨kp,⟨us ++ [.ref q2],lg ++ [(mk,u9,t9)],qu,?_,?_,by rw [Ag,l2]; rfl,λz hz => ?_⟩,_,_,rfl⟩
    .rw [Ay]
     exact ((t2.same s3).snoc (show H3 q2=some (.tup (qp5 (mk,u9,t9))) from e3)).upd h3
    .rw [Ay,f2,fmk]; rfl
    .rcases Ax.mp hz with y | y
     .exact r2 z y
     .rw [Ai.mp y]; exact ⟨b1,b2⟩
   .rintro σ Hb ⟨sb,⟨us,lg,hl,tl,fl,ll,rl⟩,v12,v13,rfl⟩
    rw [eg2] at fl ll
    have s1b:=s18.trans sb
    have cB:=sb _ _ c8
    have eB:=sb _ _ e8
    apply use2 (p:=λ(Hc:Hp) (x:Option V)=>∃ (sv:V) (so:Option (Str × Str)),x=some sv/\Same Hb Hc/\StAt Hc sv so/\(so=none \/ so=some (m8,m9)))
    .intro fin
     refine ⟨_,rfl,_,_,_,_,rfl,rfl,SqL.of (cB),rfl,_,_,rfl,rfl,⟨Ez,Ez⟩,_,_,rfl,rfl,(pos Ez),rfl,_,rfl,qa6 (λ_ => ?_) (λ_ => ?_)⟩
     rotate_left
     .obtain ⟨Hc,hHc⟩:∃ Hc,Hc=Hb:=⟨_,rfl⟩
      have qq:∃ (sv:V) (so:Option (Str × Str)),some V.non=some sv/\Same Hb Hc/\StAt Hc sv so/\(so=none \/ so=some (m8,m9)):=⟨.non,none,rfl,by rw [hHc]; exact Same.refl _,rfl,.inl rfl⟩
      rw [<- hHc]
      generalize (some V.non:Option V)=x14 at qq |-
      exact fin Hc x14 qq
     .refine ⟨_,rfl,_,_,_,_,rfl,rfl,SqL.of (eB),rfl,_,rfl,_,_,_,_,rfl,rfl,SqL.of (eB),rfl,fit2 _ _,λq3 n3 => ?_⟩
      obtain ⟨s3,e3⟩:=alc (o:=.tup [V.str m8,V.str m9]) n3
      exact fin _ (some (V.ref q3)) ⟨.ref q3,some (m8,m9),rfl,s3,⟨q3,rfl,e3⟩,.inr rfl⟩
    .rintro Hc x14 ⟨sv,so,rfl,sc,hst,hso⟩
     have s1c:=s1b.trans sc
     have cC:=sc _ _ cB
     have eC:=sc _ _ eB
     have hnC:=s1c _ _ hn
     have hkC:=s1c _ _ hk'
     obtain ⟨j4,ej4,hj4⟩:∃ j:Nat,c4 % 12=(j:Int)/\j < 12:=md _ 12 Ez
     refine ⟨_,rfl,_,rfl,_,_,_,_,rfl,rfl,SqL.of hnC,qaz (nmV hk),_,rfl,_,rfl,_,_,_,_,rfl,rfl,SqL.of (cC),rfl,_,_,rfl,rfl,(pos Ez),?_⟩
     dsimp only []
     rw [ej4]
     refine ⟨_,_,_,_,rfl,rfl,SqL.of hkC,qaz (nmV (nms:=kinds) (by lia)),_,rfl,_,rfl,_,_,_,_,rfl,rfl,SqL.of hkC,qaz (nmV (nms:=kinds) (by lia)),_,rfl,_,rfl,qae (show 5 <= 100000 by decide),λqa na => ?_⟩
     obtain ⟨sd,ed⟩:=alc (o:=.lst [V.str (nm names k0),V.str (nm kinds j4),V.str (nm kinds o),qd8 opn,qd8 (ob.map (nm names))]) na
     generalize upd Hc qa _=Hd at sd ed |-
     have s1d:=s1c.trans sd
     obtain ⟨x3,ex3,hx3⟩:∃ x:Nat,c3 % 4=(x:Int)/\x <= 3:=mdl _ 3
     obtain ⟨y3,ey3,hy3⟩:∃ x:Nat,c3 / 4 % 3=(x:Int)/\x <= 2:=mdl _ 2
     refine ⟨_,rfl,_,rfl,_,_,_,_,rfl,rfl,SqL.of (sd _ _ cC),rfl,_,_,rfl,rfl,(pos Ez),_,_,rfl,rfl,_,rfl,_,rfl,_,rfl,_,rfl,_,_,_,_,rfl,rfl,SqL.of (sd _ _ cC),rfl,_,_,rfl,rfl,(pos Ez),_,_,rfl,rfl,?_⟩
     dsimp only []
     rw [ex3]
     refine ⟨_,rfl,_,_,rfl,SqL.of (sd _ _ eC),λpe npe => ?_⟩
     have ce:qfl ([m0,m1,m2,m3,m4,m5,m6,m7,m8,m9,m10].map V.str) (some 1) (some (1 + (x3:Int)))=([m1,m2,m3].take x3).map V.str:=by
      rcases (by lia:x3=0 \/ x3=1 \/ x3=2 \/ x3=3) with rfl | rfl | rfl | rfl <;> rfl
     rw [ce]
     obtain ⟨se,ee⟩:=alc (o:=.lst (([m1,m2,m3].take x3).map V.str)) npe
     generalize upd Hd pe _=He at se ee |-
     have s1e:=s1d.trans se
     refine ⟨qls _ _ _,λqb nb => ?_⟩
     have b40:1 <= 1 + c2 % 40/\1 + c2 % 40 <= 40:=om _ Ez
     generalize 1 + c2 % 40=mny at b40 nb |-
     obtain ⟨sf,ef⟩:=alc (o:=.lst [V.int mny,V.str (qft (c1 / 18)),V.ref pe]) nb
     generalize upd He qb _=Hf at sf ef |-
     have s1f:=s1e.trans sf
     refine ⟨_,_,_,_,rfl,rfl,sf _ _ (se _ _ ed),ef,qae (show 8 <= 100000 by decide),λqc nc => ?_⟩
     obtain ⟨sg,eg'⟩:=alc (o:=.lst ([V.str (nm names k0),V.str (nm kinds j4),V.str (nm kinds o),qd8 opn,qd8 (ob.map (nm names))] ++ [V.int mny,V.str (qft (c1 / 18)),V.ref pe])) nc
     generalize upd Hf qc _=Hg at sg eg' |-
     have s1g:=s1f.trans sg
     have sdg:=sd.trans (se.trans (sf.trans sg))
     refine ⟨_,rfl,_,rfl,_,rfl,_,rfl,_,_,_,_,rfl,rfl,SqL.of (sdg _ _ cC),rfl,_,_,rfl,rfl,⟨Ez,Ez⟩,_,_,rfl,rfl,(pos Ez),_,_,rfl,rfl,?_⟩
     dsimp only []
     rw [ey3]
     refine ⟨_,rfl,_,_,rfl,SqL.of (sdg _ _ eC),λpa npa => ?_⟩
     have ca:qfl ([m0,m1,m2,m3,m4,m5,m6,m7,m8,m9,m10].map V.str) (some 4) (some (4 + (y3:Int)))=([m4,m5].take y3).map V.str:=by
      rcases (by lia:y3=0 \/ y3=1 \/ y3=2) with rfl | rfl | rfl <;> rfl
     rw [ca]
     obtain ⟨sh,eh⟩:=alc (o:=.lst (([m4,m5].take y3).map V.str)) npa
     generalize upd Hg pa _=Hh at sh eh |-
     have s1h:=s1g.trans sh
     refine ⟨_,rfl,_,rfl,qls _ _ _,λqd nd => ?_⟩
     obtain ⟨si,ei⟩:=alc (o:=.lst [V.ref pa,V.ref pl,sv]) nd
     generalize upd Hh qd _=Hi at si ei |-
     have s1i:=s1h.trans si
     refine ⟨_,_,_,_,rfl,rfl,si _ _ (sh _ _ eg'),ei,qae (show 11 <= 100000 by decide),λqe ne => ?_⟩
     obtain ⟨sj,ej⟩:=alc (o:=.lst (([V.str (nm names k0),V.str (nm kinds j4),V.str (nm kinds o),qd8 opn,qd8 (ob.map (nm names))] ++ [V.int mny,V.str (qft (c1 / 18)),V.ref pe]) ++ [V.ref pa,V.ref pl,sv])) ne
     generalize upd Hi qe _=Hj at sj ej |-
     have s1j:=s1i.trans sj
     refine ⟨_,rfl,_,rfl,_,rfl,_,rfl,l,pn,ns,k0,names,rfl,s1j.seq hS,s1j _ _ hn,nnd,hk,l6,λpy Hk ys npy sk ek yok => ?_⟩
     have s1k:=s1j.trans sk
     refine ⟨qae (show 1 <= 100000 by decide),λqf nf => ?_⟩
     obtain ⟨sl,el⟩:=alc (o:=.lst [V.ref py]) nf
     generalize upd Hk qf _=Hl at sl el |-
     have s1l:=s1k.trans sl
     refine ⟨_,_,_,_,rfl,rfl,sl _ _ (sk _ _ ej),el,qae (show 12 <= 100000 by decide),λqg ng => ?_⟩
     obtain ⟨sm,em⟩:=alc (o:=.lst (((([V.str (nm names k0),V.str (nm kinds j4),V.str (nm kinds o),qd8 opn,qd8 (ob.map (nm names))] ++ [V.int mny,V.str (qft (c1 / 18)),V.ref pe]) ++ [V.ref pa,V.ref pl,sv])) ++ [V.ref py])) ng
     generalize upd Hl qg _=Hm at sm em |-
     have sfm:=sg.trans (sh.trans (si.trans (sj.trans (sk.trans (sl.trans sm)))))
     have sim:=sj.trans (sk.trans (sl.trans sm))
     have scm:=sd.trans (se.trans (sf.trans sfm))
     have kk:owA ns k0=o:=by
      have:((owA ns k0:Nat):Int)=(o:Int):=by rw [<- qrg,<- ec0]; assumption
      exact DT this
     obtain ⟨knd9,kin9⟩:=qvi (w:=nm kinds o) (e:=[m1,m2,m3].take x3) (a:=[m4,m5].take y3) (g:=lg.map (·.1)) (o:=opn.toList) (s:=stL so) ndM nwM (B1 _ _) (B1 _ _) (by rw [fl]; exact B1 _ _) (by rcases hopn with ⟨_,e⟩ | ⟨_,e⟩ <;> rw [e] <;> simp) (by rcases hso with e | e <;> rw [e] <;> simp [stL])
     refine k qg Hm ⟨nm names k0,nm kinds j4,nm kinds o,opn,ob.map (nm names),mny,qft (c1 / 18),[m1,m2,m3].take x3,[m4,m5].take y3,lg,so,ys⟩ pe pa pl py sv us (s1l.free ng) (s1d.free npe) (s1g.free npa) nplH (s1j.free npy) (s1l.trans sm) ⟨em,(sf.trans sfm) _ _ ee,(si.trans sim) _ _ eh,(sc.trans scm) _ _ hl,tl.same (sc.trans scm),hst.same scm,(sl.trans sm) _ _ ek⟩ ⟨rfl,kok _ (Aw (qg9 (by lia))),by show nm kinds o=_; rw [kk],knd9,λx hx => ?_,λx hx => ?_,?_,b40,u2,⟨?_,rl⟩,⟨by show ([m1,m2,m3].take x3).length <= 3; rw [Ap]; show min x3 3 <= 3; lia,by show ([m4,m5].take y3).length <= 2; rw [Ap]; show min y3 2 <= 2; lia⟩,yok⟩
     .rcases kin9 x hx with e | e
      .rw [e]; exact kok _ (Aw (qg9 (by lia)))
      .exact (okM x e).1
     .rcases kin9 x hx with e | e
      .rw [e]; exact w12
      .exact (okM x e).2
     .rcases hopn with ⟨e1,e2⟩ | ⟨⟨b,e1⟩,e2⟩
      .exact .inr ⟨by show ob.map (nm names)=none; rw [e1]; rfl,m0,e2⟩
      .exact .inl ⟨b,(hob b e1).1,by show ob.map (nm names)=_; rw [e1]; rfl,(hob b e1).2,e2⟩
     .have:=congrArg Dg fl
      rw [Ab,Ap] at this
      show lg.length <= 2
      rw [this]; exact Nat.min_le_right _ _
theorem qqm (T:Txt K mg a):FnOk P w K mg base CX0 4 a.mK a.mS ["_law_script", "_law_names", "_law_kinds", "_law_most"] (spLrs K):=by
 refine T.bY.fn.ok qdf (λvs H Q E h => ?_) (λcdv A outer s H vs Q E hr h => ?_)
 .obtain ⟨_,_,_,_,_,_,_,rfl,_⟩:=h
  all_goals rfl
 .obtain ⟨l,pn,pk,ns,names,kinds,mo,rfl,hS,hn,hk',nnd,l6,knd,k12,k60,kok,m6,m100,k⟩:=h
  refine ⟨_,(qk (qde (i:=4) qdf.nd rfl rfl (N:=["_law_at", "_law_script", "_law_names", "_law_kinds"]) (js:=[none,some 0,some 1,some 2]) (XN:=["_law_script", "_law_names", "_law_kinds", "_law_most", "_law_rules_here", "_law_room", "_law_rule_here", "_law_sort"]) (xs:=qab qgy) rfl rfl rfl En (qdi rfl T.kU (qh (zn qav (by rfl) T.kI qat (qh (pv 1) qm qj)) qm zt)) (λ_ _ _ _ _ _=>(qap (i:=0) (show Cd (["_law_at", "_law_script", "_law_names", "_law_kinds"]:List Str) from by decide +kernel) rfl (Az rfl) (CK rfl))) (λ_ _ _ _ _ _=>qc2) (λ_ _ _ _ _ _=>(zm (qtg T) (hr.mono Ez) rfl T.dC.mgx T.dC.fn.kp T.dC.bd .nil qan (qh (pv 1) (qh (pv 0) (qh (pv 2) (qh (pv 3) qm qj) qj) qj) qj))))
   (qk (zf (i:=5) qdf.nd rfl (Az rfl) (zg qhf (pv 3) (zn qav (by rfl) T.kI qat (qh (pv 4) qm qj))))
   (qk (qcr BL rfl (qb8 (pv 4)) (qap (i:=6) qdf.nd rfl (Az rfl)) (qk (qcr BL rfl (qb8 (zq (qh qp (qh qp (qh qp (qh qp qm qz) qz) qz) qz))) (qap (i:=7) qdf.nd rfl (Az rfl)) (qk (qtl (qas qbe (zy jb (pv 6) (pv 7) (λ_ _=>rfl)) qbd (qaq (pv 5))) (qtk (pv 6) (pv 7) qn3))
   (qt (zf (i:=5) qdf.nd rfl (Az rfl) (zg qhf (pv 5) (zn qav (by rfl) T.kI qat (qh (zy jb (pv 6) (pv 7) (λ_ _=>rfl)) qm zw)))))))
   (qk (zj (ze qay (pv 5) qp (qad _)) (qt (qtl qbu (qtk (pv 6) qp qn3))) qaf)
   (qt (zj (ze qea (zy jb (pv 6) qp (λ_ _=>rfl)) qbu (qad _)) (qt (zf (i:=5) qdf.nd rfl (Az rfl) (zg qhf (pv 5) qp))) qaf)))))
   (qt (zb (pv 4)))))),?_⟩
  have ln:(names.map V.str).length=names.length:=Ab _
  have bnd:=rb (n:=(names.map V.str).length) (by lia)
  refine ⟨_,rfl,_,_,rfl,.inl ⟨_,SqL.of hn,rfl⟩,_,rfl,bnd.1,bnd.2,?_⟩
  refine quz (λp x q H=>∃ (k:Nat) (r:RR) (pe pa pl py:Addr) (sv:V) (us:List V),x=.int (k:Int)/\LR1 (off p H) q r pe pa pl py sv us/\GR names (owA ns) (rkA ns) kinds k r) (λp x q H H' kp => ?_) (λp x q H g => ?_) (λσ'=>∃ v,σ'=[v,some (.ref l),some (.ref pn),some (.ref pk)]) qe1 (qae (by rw [Ab,Cm]; lia)) ⟨none,rfl⟩ (λp v σ' H' RR' hv hp sm hp' s4 qq => ?_) qcq λp H1 qs hp s1 e1 lq ndq gq => ?_
  .rintro ⟨k',r,pe,pa,pl,py,sv,us,e,h,g⟩
   exact ⟨k',r,pe,pa,pl,py,sv,us,e,h.same (qvj kp),g⟩
  .obtain ⟨k',r,pe,pa,pl,py,sv,us,e,h,g⟩:=g
   intro z
   have:=qo0 _ _ h.hq
   rw [z] at this; cases this
  .obtain ⟨v0,rfl⟩:=s4
   obtain ⟨j,hj,rfl⟩:=AI.mp hv
   have hj:j < names.length:=by have:=Ct.mp hj; rw [ln] at this; lia
   obtain ⟨zs,hzs⟩:=hp'
   refine ⟨_,rfl,_,rfl,_,rfl,_,rfl,l,pn,pk,ns,j,names,kinds,by rw [C1]; rfl,sm.seq hS,sm _ _ hn,sm _ _ hk',nnd,hj,l6,knd,k12,k60,kok,λq H5 r pe pa pl py sv us nq n1 n2 n3 n4 s5 x g => ?_⟩
   have ne:∀ {z:Addr},H' z=none->z ≠ p:=λh e=>by rw [e,hzs] at h; cases h
   exact qq _ q H5 ⟨_,rfl⟩ s5 nq ⟨j,r,pe,pa,pl,py,sv,us,by rw [C1],x.offp (s5 _ _ hzs) (ne nq) (ne n1) (ne n2) (ne n3) (ne n4),g⟩
  rw [Ab,Cm,ln,CG] at lq
  have gj:∀ j:Nat,j < names.length->∃ (q:Addr) (r:RR),qs[j]?=some q/\LR H1 q r/\GR names (owA ns) (rkA ns) kinds j r/\q ≠ p/\H q=none:=λj hj=>by
   have ex:((Bh (((names.map V.str).length:Int)).toNat).map λi=>V.int (0 + (i:Nat)))[j]?=some (.int (0 + (j:Int))):=by
    rw [An,Ee (by rw [ln]; lia)]; rfl
   have eq:qs[j]?=some (qs[j]'(by lia)):=Aj (by lia)
   obtain ⟨⟨k',r,pe,pa,pl,py,sv,us,e,h,g⟩,g2,g3⟩:=gq j _ _ ex eq
   rw [C1] at e
   have e:j=k':=DT (V.int.inj e)
   subst e
   exact ⟨_,r,eq,⟨pe,pa,pl,py,sv,us,h.same qo0⟩,g,g2,g3⟩
  obtain ⟨rs0,lr0,hr0⟩:∃ rs:List RR,rs.length=names.length/\∀ (j:Nat) (r:RR),rs[j]?=some r->∃ q,qs[j]?=some q/\LR H1 q r/\GR names (owA ns) (rkA ns) kinds j r/\q ≠ p/\H q=none:=by
   have w:∀ n,n <= names.length->∃ rs:List RR,rs.length=n/\∀ (j:Nat) (r:RR),rs[j]?=some r->∃ q,qs[j]?=some q/\LR H1 q r/\GR names (owA ns) (rkA ns) kinds j r/\q ≠ p/\H q=none:=by
    intro n
    induction n with
    | zero=>exact λ_=>⟨[],rfl,λj r h=>by cases h⟩
    | succ n ih =>
     intro hn
     obtain ⟨rs,h1,h2⟩:=ih (by lia)
     obtain ⟨q,r,g1,g2⟩:=gj n (by lia)
     refine ⟨rs ++ [r],by rw [Ag,h1]; rfl,λj r' h => ?_⟩
     by_cases c:j < rs.length
     .rw [AS c] at h; exact h2 j r' h
     .rw [AL (by lia)] at h
      have:j - rs.length < 1:=(Af.mp h).1
      rw [show j - rs.length=0 by lia] at h
      cases h
      rw [show j=n by lia]
      exact ⟨q,g1,g2⟩
   exact w _ (A1 _)
  have b0:LRs H H1 p qs rs0:=⟨s1,e1,by rw [lq,lr0],ndq,λq hq=>by
   obtain ⟨j,hj⟩:=Bj hq
   have lj:=(Af.mp hj).1
   obtain ⟨q',_,g1,_,_,g4,g5⟩:=gj j (by lia)
   rw [hj] at g1; cases g1; exact ⟨g4,g5⟩,hp,λi q r h1 h2=>by
   obtain ⟨q',g1,g2,_⟩:=hr0 i r h2
   rw [h1] at g1; cases g1; exact g2⟩
  have g0:GRs names (owA ns) (rkA ns) kinds rs0:=λkk r h=>by obtain ⟨_,_,_,g,_⟩:=hr0 kk r h; exact g
  refine ⟨_,rfl,_,rfl,_,_,rfl,.inl ⟨_,SqL.of e1,rfl⟩,_,_,rfl,rfl,?_⟩
  have er0:(mo:Int) - ((qs.map V.ref).length:Int)=((mo - names.length:Nat):Int):=by rw [Ab,lq]; lia
  refine ⟨_,rfl,_,rfl,⟨_,SqL.of e1⟩,qd2 (K:=K) (a:=p) (xs:=qs.map V.ref) (λj σ H'=>∃ (rs:List RR) (room:Nat),LRs H H' p qs rs/\rs.length=names.length/\GRs names (owA ns) (rkA ns) kinds rs/\room + ((rs.take j).map exR).sum + names.length=mo/\∃ v6 v7:Option V,σ=[some (.ref l),some (.ref pn),some (.ref pk),some (.int (mo:Int)),some (.ref p),some (.int (room:Int)),v6,v7]) ⟨rs0,mo - names.length,b0,lr0,g0,by rw [DD]; show _ + 0 + _=_; lia,none,none,by rw [<- er0]; rfl⟩ (λj σ H' _ h=>by obtain ⟨_,_,b,_⟩:=h; exact SqL.of b.hp) ?_ ?_⟩
  .rintro j v σ H' hv ⟨rs,room0,bl0,lrs,grs,hroom,v6,v7,rfl⟩
   rw [An] at hv
   cases hqj:qs[j]? with
   | none=>rw [hqj] at hv; cases hv
   | some q =>
   rw [hqj] at hv
   cases hv
   have lj:j < rs.length:=by have:=(Af.mp hqj).1; have:=bl0.ln; lia
   obtain ⟨r,hrj⟩:∃ r,rs[j]?=some r:=⟨_,Aj lj⟩
   refine ⟨qae (show 4 <= 100000 by decide),λpz0 nz0 => ?_⟩
   obtain ⟨sz0,ez0⟩:=alc (o:=.lst [V.int 7,V.int 8,V.int 9,V.int 11]) nz0
   have nzl:pz0 ≠ q:=λz=>by obtain ⟨_,_,_,_,_,_,h1⟩:=bl0.lr j q r hqj hrj; rw [z,h1.hq] at nz0; cases nz0
   generalize upd H' pz0 _=H1' at sz0 ez0 |-
   refine ⟨_,rfl,⟨_,SqL.of ez0⟩,qd2 (K:=K) (a:=pz0) (xs:=[V.int 7,V.int 8,V.int 9,V.int 11]) (λt σ H2=>H2 pz0=some (.lst [V.int 7,V.int 8,V.int 9,V.int 11])/\∃ (rs1:List RR) (r1:RR) (room:Nat),LRs H H2 p qs rs1/\rs1.length=names.length/\GRs names (owA ns) (rkA ns) kinds rs1/\rs1[j]?=some r1/\rs1.take j=rs.take j/\room + qnn t r1=room0/\∃ v7:Option V,∃ vr:V,vr=.int (room:Int)/\σ=[some (.ref l),some (.ref pn),some (.ref pk),some (.int (mo:Int)),some (.ref p),some vr,some (.ref q),v7]) ⟨ez0,rs,r,room0,bl0.same sz0,lrs,grs,hrj,rfl,rfl,_,_,rfl,rfl⟩ (λt σ H2 _ h=>SqL.of h.1) ?_ ?_⟩
   .rintro t v σ H2 hv ⟨hpz,rs1,r1,room,bl,ln1,g1,hr1,tk1,hsum,v7,vr,rfl,rfl⟩
    have ht:t < 4:=(Af.mp hv).1
    obtain ⟨pe,pa,pl,py,sv,us,h1⟩:=bl.lr j q r1 hqj hr1
    rcases (by lia:t=0 \/ t=1 \/ t=2 \/ t=3) with rfl | rfl | rfl | rfl
    .cases hv
     refine ⟨_,rfl,_,rfl,_,_,_,_,rfl,rfl,SqL.of h1.hq,rfl,_,rfl,_,rfl,_,_,rfl,SqL.of h1.he,λpz nz => ?_⟩
     rw [qo1 _ room,<- B7]
     obtain ⟨sz,ez⟩:=alc (o:=.lst ((r1.ends.take room).map V.str)) nz
     have nzq:pz ≠ q:=λz=>by rw [z,h1.hq] at nz; cases nz
     generalize upd H2 pz _=H3 at sz ez |-
     have hq3:=sz _ _ h1.hq
     refine ⟨_,rfl,_,rfl,_,_,_,7,rfl,rfl,hq3,rfl,?_⟩
     have kt:KeepT [q] H3 (upd H3 q (.lst ((qfs r1 pe pa pl sv py).set 7 (V.ref pz)))):=KeepT.put (Ai.mpr rfl) hq3 (λ_ z=>nomatch z)
     obtain ⟨n0,n1,n2,n3⟩:=(h1.same sz).ne hq3
     have x4:LR1 (upd H3 q (.lst ((qfs r1 pe pa pl sv py).set 7 (V.ref pz)))) q (qdt 0 room r1) pz pa pl py sv us:=⟨qu,(zd nzq).trans ez,(zd n1).trans (sz _ _ h1.ha),(zd n2).trans (sz _ _ h1.hl),qb1 (h1.tl.same sz) kt,(h1.hs.same sz).keep kt,(zd n3).trans (sz _ _ h1.hy)⟩
     have bl4:=(bl.same sz).put hqj hq3 ⟨_,_,_,_,_,_,x4⟩
     have lt:qim 0 (qdt 0 room r1)=((r1.ends.take room).map V.str).length:=by rw [Ab]; rfl
     have hz4:=(zd (o:=.lst ((qfs r1 pe pa pl sv py).set 7 (V.ref pz))) nzl).trans (sz _ _ hpz)
     generalize upd H3 q _=H4 at x4 bl4 hz4 |-
     obtain ⟨cs1,cs2⟩:=qio (t:=0) (n:=room) Ez r1
     refine ⟨_,rfl,_,rfl,_,rfl,_,_,_,_,rfl,rfl,SqL.of x4.hq,rfl,_,_,rfl,.inl ⟨_,SqL.of x4.he,rfl⟩,_,_,rfl,rfl,?_⟩
     have hvr:V.int ((room:Int) - (((r1.ends.take room).map V.str).length:Int))=V.int ((room - qim 0 (qdt 0 room r1):Nat):Int):=by rw [<- lt,Int.ofNat_sub cs2]
     exact ⟨hz4,⟨rs1.set j (qdt 0 room r1),qdt 0 room r1,room - qim 0 (qdt 0 room r1),bl4,by rw [Cb]; exact ln1,qip g1 hr1 (qin 0 room r1),Bq (Af.mp hr1).1,by rw [take_set']; exact tk1,by rw [cs1]; lia,_,V.int ((room:Int) - (((r1.ends.take room).map V.str).length:Int)),hvr,rfl⟩⟩
    .cases hv
     refine ⟨_,rfl,_,rfl,_,_,_,_,rfl,rfl,SqL.of h1.hq,rfl,_,rfl,_,rfl,_,_,rfl,SqL.of h1.ha,λpz nz => ?_⟩
     rw [qo1 _ room,<- B7]
     obtain ⟨sz,ez⟩:=alc (o:=.lst ((r1.anew.take room).map V.str)) nz
     have nzq:pz ≠ q:=λz=>by rw [z,h1.hq] at nz; cases nz
     generalize upd H2 pz _=H3 at sz ez |-
     have hq3:=sz _ _ h1.hq
     refine ⟨_,rfl,_,rfl,_,_,_,8,rfl,rfl,hq3,rfl,?_⟩
     have kt:KeepT [q] H3 (upd H3 q (.lst ((qfs r1 pe pa pl sv py).set 8 (V.ref pz)))):=KeepT.put (Ai.mpr rfl) hq3 (λ_ z=>nomatch z)
     obtain ⟨n0,n1,n2,n3⟩:=(h1.same sz).ne hq3
     have x4:LR1 (upd H3 q (.lst ((qfs r1 pe pa pl sv py).set 8 (V.ref pz)))) q (qdt 1 room r1) pe pz pl py sv us:=⟨qu,(zd n0).trans (sz _ _ h1.he),(zd nzq).trans ez,(zd n2).trans (sz _ _ h1.hl),qb1 (h1.tl.same sz) kt,(h1.hs.same sz).keep kt,(zd n3).trans (sz _ _ h1.hy)⟩
     have bl4:=(bl.same sz).put hqj hq3 ⟨_,_,_,_,_,_,x4⟩
     have lt:qim 1 (qdt 1 room r1)=((r1.anew.take room).map V.str).length:=by rw [Ab]; rfl
     have hz4:=(zd (o:=.lst ((qfs r1 pe pa pl sv py).set 8 (V.ref pz))) nzl).trans (sz _ _ hpz)
     generalize upd H3 q _=H4 at x4 bl4 hz4 |-
     obtain ⟨cs1,cs2⟩:=qio (t:=1) (n:=room) Ez r1
     refine ⟨_,rfl,_,rfl,_,rfl,_,_,_,_,rfl,rfl,SqL.of x4.hq,rfl,_,_,rfl,.inl ⟨_,SqL.of x4.ha,rfl⟩,_,_,rfl,rfl,?_⟩
     have hvr:V.int ((room:Int) - (((r1.anew.take room).map V.str).length:Int))=V.int ((room - qim 1 (qdt 1 room r1):Nat):Int):=by rw [<- lt,Int.ofNat_sub cs2]
     exact ⟨hz4,⟨rs1.set j (qdt 1 room r1),qdt 1 room r1,room - qim 1 (qdt 1 room r1),bl4,by rw [Cb]; exact ln1,qip g1 hr1 (qin 1 room r1),Bq (Af.mp hr1).1,by rw [take_set']; exact tk1,by rw [cs1]; lia,_,V.int ((room:Int) - (((r1.anew.take room).map V.str).length:Int)),hvr,rfl⟩⟩
    .cases hv
     refine ⟨_,rfl,_,rfl,_,_,_,_,rfl,rfl,SqL.of h1.hq,rfl,_,rfl,_,rfl,_,_,rfl,SqL.of h1.hl,λpz nz => ?_⟩
     rw [qo1 _ room]
     obtain ⟨sz,ez⟩:=alc (o:=.lst (us.take room)) nz
     have nzq:pz ≠ q:=λz=>by rw [z,h1.hq] at nz; cases nz
     generalize upd H2 pz _=H3 at sz ez |-
     have hq3:=sz _ _ h1.hq
     refine ⟨_,rfl,_,rfl,_,_,_,9,rfl,rfl,hq3,rfl,?_⟩
     have kt:KeepT [q] H3 (upd H3 q (.lst ((qfs r1 pe pa pl sv py).set 9 (V.ref pz)))):=KeepT.put (Ai.mpr rfl) hq3 (λ_ z=>nomatch z)
     obtain ⟨n0,n1,n2,n3⟩:=(h1.same sz).ne hq3
     have x4:LR1 (upd H3 q (.lst ((qfs r1 pe pa pl sv py).set 9 (V.ref pz)))) q (qdt 2 room r1) pe pa pz py sv (us.take room):=⟨qu,(zd n0).trans (sz _ _ h1.he),(zd n1).trans (sz _ _ h1.ha),(zd nzq).trans ez,(by show Tups _ _ ((r1.longer.take room).map qp5); rw [B7]; exact qb1 (qsv (h1.tl.same sz) room) kt),(h1.hs.same sz).keep kt,(zd n3).trans (sz _ _ h1.hy)⟩
     have bl4:=(bl.same sz).put hqj hq3 ⟨_,_,_,_,_,_,x4⟩
     have lt:qim 2 (qdt 2 room r1)=(us.take room).length:=by show (r1.longer.take room).length=_; rw [Ap,Ap,show us.length=r1.longer.length by rw [h1.tl.length,Ab]]
     have hz4:=(zd (o:=.lst ((qfs r1 pe pa pl sv py).set 9 (V.ref pz))) nzl).trans (sz _ _ hpz)
     generalize upd H3 q _=H4 at x4 bl4 hz4 |-
     obtain ⟨cs1,cs2⟩:=qio (t:=2) (n:=room) Ez r1
     refine ⟨_,rfl,_,rfl,_,rfl,_,_,_,_,rfl,rfl,SqL.of x4.hq,rfl,_,_,rfl,.inl ⟨_,SqL.of x4.hl,rfl⟩,_,_,rfl,rfl,?_⟩
     have hvr:V.int ((room:Int) - ((us.take room).length:Int))=V.int ((room - qim 2 (qdt 2 room r1):Nat):Int):=by rw [<- lt,Int.ofNat_sub cs2]
     exact ⟨hz4,⟨rs1.set j (qdt 2 room r1),qdt 2 room r1,room - qim 2 (qdt 2 room r1),bl4,by rw [Cb]; exact ln1,qip g1 hr1 (qin 2 room r1),Bq (Af.mp hr1).1,by rw [take_set']; exact tk1,by rw [cs1]; lia,_,V.int ((room:Int) - ((us.take room).length:Int)),hvr,rfl⟩⟩
    .cases hv
     refine ⟨_,rfl,_,rfl,_,_,_,_,rfl,rfl,SqL.of h1.hq,rfl,_,rfl,_,rfl,_,_,rfl,SqL.of h1.hy,λpz nz => ?_⟩
     rw [qo1 _ room,<- B7]
     obtain ⟨sz,ez⟩:=alc (o:=.lst ((r1.yields.take room).map V.str)) nz
     have nzq:pz ≠ q:=λz=>by rw [z,h1.hq] at nz; cases nz
     generalize upd H2 pz _=H3 at sz ez |-
     have hq3:=sz _ _ h1.hq
     refine ⟨_,rfl,_,rfl,_,_,_,11,rfl,rfl,hq3,rfl,?_⟩
     have kt:KeepT [q] H3 (upd H3 q (.lst ((qfs r1 pe pa pl sv py).set 11 (V.ref pz)))):=KeepT.put (Ai.mpr rfl) hq3 (λ_ z=>nomatch z)
     obtain ⟨n0,n1,n2,n3⟩:=(h1.same sz).ne hq3
     have x4:LR1 (upd H3 q (.lst ((qfs r1 pe pa pl sv py).set 11 (V.ref pz)))) q (qdt 3 room r1) pe pa pl pz sv us:=⟨qu,(zd n0).trans (sz _ _ h1.he),(zd n1).trans (sz _ _ h1.ha),(zd n2).trans (sz _ _ h1.hl),qb1 (h1.tl.same sz) kt,(h1.hs.same sz).keep kt,(zd nzq).trans ez⟩
     have bl4:=(bl.same sz).put hqj hq3 ⟨_,_,_,_,_,_,x4⟩
     have lt:qim 3 (qdt 3 room r1)=((r1.yields.take room).map V.str).length:=by rw [Ab]; rfl
     have hz4:=(zd (o:=.lst ((qfs r1 pe pa pl sv py).set 11 (V.ref pz))) nzl).trans (sz _ _ hpz)
     generalize upd H3 q _=H4 at x4 bl4 hz4 |-
     obtain ⟨cs1,cs2⟩:=qio (t:=3) (n:=room) Ez r1
     refine ⟨_,rfl,_,rfl,_,rfl,_,_,_,_,rfl,rfl,SqL.of x4.hq,rfl,_,_,rfl,.inl ⟨_,SqL.of x4.hy,rfl⟩,_,_,rfl,rfl,?_⟩
     have hvr:V.int ((room:Int) - (((r1.yields.take room).map V.str).length:Int))=V.int ((room - qim 3 (qdt 3 room r1):Nat):Int):=by rw [<- lt,Int.ofNat_sub cs2]
     exact ⟨hz4,⟨rs1.set j (qdt 3 room r1),qdt 3 room r1,room - qim 3 (qdt 3 room r1),bl4,by rw [Cb]; exact ln1,qip g1 hr1 (qin 3 room r1),Bq (Af.mp hr1).1,by rw [take_set']; exact tk1,by rw [cs1]; lia,_,V.int ((room:Int) - (((r1.yields.take room).map V.str).length:Int)),hvr,rfl⟩⟩
   .rintro σ H2 ⟨hpz,rs1,r1,room,bl,ln1,g1,hr1,tk1,hsum,v7,vr,rfl,rfl⟩
    have hsum:room + qnn 4 r1=room0:=hsum
    obtain ⟨pe,pa,pl,py,sv,us,h1⟩:=bl.lr j q r1 hqj hr1
    have lj1:=(Af.mp hr1).1
    have ex0:r1.still=none->exR r1=qnn 4 r1:=λe=>by unfold exR qnn; rw [e]; rfl
    have ex1:∀ s,r1.still=some s->exR r1=qnn 4 r1 + 1:=λs e=>by unfold exR qnn; rw [e]; rfl
    refine ⟨_,rfl,rfl,_,rfl,qa6 (λc => ?_) (λc => ?_)⟩
    .have c:(room:Int)=0:=V.int.inj (of_decide_eq_true c)
     refine ⟨_,rfl,_,_,_,10,rfl,rfl,h1.hq,rfl,?_⟩
     have kt:KeepT [q] H2 (upd H2 q (.lst ((qfs r1 pe pa pl sv py).set 10 V.non))):=KeepT.put (Ai.mpr rfl) h1.hq (λ_ z=>nomatch z)
     obtain ⟨n0,n1,n2,n3⟩:=h1.ne h1.hq
     have few:Fewer r1 { r1 with still:=none }:=⟨rfl,rfl,rfl,rfl,rfl,rfl,rfl,BZ _,BZ _,BZ _,.inr rfl,BZ _⟩
     have x4:LR1 (upd H2 q (.lst ((qfs r1 pe pa pl sv py).set 10 V.non))) q { r1 with still:=none } pe pa pl py .non us:=⟨qu,(zd n0).trans h1.he,(zd n1).trans h1.ha,(zd n2).trans h1.hl,qb1 h1.tl kt,rfl,(zd n3).trans h1.hy⟩
     have bl4:=bl.put hqj h1.hq ⟨_,_,_,_,_,_,x4⟩
     generalize upd H2 q _=H4 at x4 bl4 |-
     refine ⟨_,rfl,_,_,_,_,rfl,rfl,SqL.of x4.hq,rfl,rfl,_,rfl,qd9 rfl ?_⟩
     have hx:(rs1.set j { r1 with still:=none })[j]?=some { r1 with still:=none }:=Bq lj1
     refine ⟨_,room,bl4,by rw [Cb]; exact ln1,qip g1 hr1 few,?_,_,_,rfl⟩
     rw [qk5 hx,take_set',tk1]
     have:exR { r1 with still:=none }=qnn 4 r1:=rfl
     rw [this]; lia
    .have c:room ≠ 0:=λz=>c (decide_eq_true (by rw [z]; rfl))
     have hst:=h1.hs
     cases es:r1.still with
     | none =>
      rw [es] at hst
      cases hst
      refine ⟨_,rfl,_,_,_,_,rfl,rfl,SqL.of h1.hq,rfl,rfl,_,rfl,qd9 rfl ?_⟩
      exact ⟨rs1,room,bl,ln1,g1,by rw [qk5 hr1,tk1,ex0 es]; lia,_,_,rfl⟩
     | some sp =>
      rw [es] at hst
      obtain ⟨ps,rfl,_⟩:=hst
      refine ⟨_,rfl,_,_,_,_,rfl,rfl,SqL.of h1.hq,rfl,rfl,_,rfl,qgl (λz=>nomatch z) ⟨_,rfl,_,_,rfl,rfl,?_⟩⟩
      exact ⟨rs1,room - 1,bl,ln1,g1,by rw [qk5 hr1,tk1,ex1 _ es]; lia,_,_,by rw [show ((room - 1:Nat):Int)=(room:Int) - 1 by lia]; rfl⟩
  .rintro σ H' ⟨rs,room,bl,lrs,grs,hroom,v6,v7,rfl⟩
   rw [Ab,lq,<- lrs,B0] at hroom
   exact ⟨_,rfl,k p H' qs rs bl lrs grs (by rw [<- lrs]; lia)⟩
theorem qqn (T:Txt K mg a):FnOk P w K mg base CX0 1 a.fQ a.mV ["_law_rule_here"] spSo:=by
 refine T.bV.fn.ok qa7 (λvs H Q E h => ?_) (λcdv A outer s H vs Q E hr h => ?_)
 .obtain ⟨_,_,rfl,_⟩:=h
  all_goals rfl
 .obtain ⟨p,r,rfl,lr,ok,k⟩:=h
  refine ⟨_,(qk (zf (i:=1) qa7.nd rfl (CK rfl) (zy jb (pv 0) qp (λ_ _=>rfl)))
   (qk (zf (i:=2) qa7.nd rfl (Az rfl) (zg qac zp (qb9 qsm (by rfl) T.kX qd5 (qh (zy jb (pv 0) qp (λ_ _=>rfl)) qm zw))))
   (qk (zj (ze qea (zy jb (pv 0) qp (λ_ _=>rfl)) qbu (qad _)) (qt (zf (i:=2) qa7.nd rfl (Az rfl) (zg qac zp (zy jb (pv 0) qp (λ_ _=>rfl))))) qaf)
   (qk (zf (i:=3) qa7.nd rfl (Az rfl) (zg qac (zg qac (zg qac (zg qac (zg qac zp (pv 1)) zp) (zy jb (pv 0) qp (λ_ _=>rfl))) zp) (zy jb (pv 0) qp (λ_ _=>rfl))))
   (qk (zf (i:=3) qa7.nd rfl (Az rfl) (zg qac (zg qac (zg qac (zg qac (zg qac (zg qac (pv 3) zp) (pv 2)) zp) (qb9 qdk (by rfl) T.kX qd5 (qh (zy jb (pv 0) qp (λ_ _=>rfl)) qm zw))) zp) (zy jb (pv 0) qp (λ_ _=>rfl))))
   (qk (qde (i:=4) qa7.nd rfl rfl (N:=["_law_kind", "_law_name_here"]) (js:=[none,some 1]) (XN:=["_law_rule_here", "_law_name_here", "_law_way", "_law_head", "_law_ends", "_law_anew", "_law_longer", "_law_kind", "_law_units", "_law_times", "_law_row", "_law_still", "_law_yields_here"]) (xs:=qab qeg) rfl rfl rfl En (qb8 (zy jb (pv 0) qp (λ_ _=>rfl))) (λ_ _ _ _ _ _=>(qap (i:=0) (show Cd (["_law_kind", "_law_name_here"]:List Str) from by decide +kernel) rfl (Az rfl) (CK rfl))) (λ_ _ _ _ _ _=>qc2) (λ_ _ _ _ _ _=>(zg qac (zg qac (zg qac zp (pv 1)) zp) (pv 0))))
   (qk (qde (i:=5) qa7.nd rfl rfl (N:=["_law_kind", "_law_name_here"]) (js:=[none,some 1]) (XN:=["_law_rule_here", "_law_name_here", "_law_way", "_law_head", "_law_ends", "_law_anew", "_law_longer", "_law_kind", "_law_units", "_law_times", "_law_row", "_law_still", "_law_yields_here"]) (xs:=qab qeg) rfl rfl rfl En (qb8 (zy jb (pv 0) qp (λ_ _=>rfl))) (λ_ _ _ _ _ _=>(qap (i:=0) (show Cd (["_law_kind", "_law_name_here"]:List Str) from by decide +kernel) rfl (Az rfl) (CK rfl))) (λ_ _ _ _ _ _=>qc2) (λ_ _ _ _ _ _=>(zg qac (zg qac (zg qac zp (pv 1)) zp) (pv 0))))
   (qk (zf (i:=6) qa7.nd rfl (Az rfl) (zq qm))
   (qk (qcr BL rfl (qb8 (zy jb (pv 0) qp (λ_ _=>rfl))) (qm1 rfl (qdj (qap (i:=7) qa7.nd rfl (Az rfl)) (qdj (qap (i:=8) qa7.nd rfl (Az rfl)) (qdj (qap (i:=9) qa7.nd rfl (Az rfl)) qjt)))) (qk (zf (i:=10) qa7.nd rfl (Az rfl) (zg qac (zg qac (zg qac (zg qac (zg qac zp (pv 1)) zp) (pv 7)) zp) (qb9 qdk (by rfl) T.kX qd5 (qh (pv 8) qm qj))))
   (qt (zi (qca AT AZ Ba qbw (pv 6) (qh (zg qac (zg qac (pv 10) zp) (qb9 qdk (by rfl) T.kX qd5 (qh (pv 9) qm qj))) qm zu))))))
   (qk (zf (i:=11) qa7.nd rfl (Az rfl) (zq qm))
   (qk (zj (ze qea (zy jb (pv 0) qp (λ_ _=>rfl)) qbu (qad _)) (qt (zf (i:=11) qa7.nd rfl (Az rfl) (zq (qh (zg qac (zg qac (zg qac (zg qac (zg qac zp (pv 1)) zp) (zy ja (zy jb (pv 0) qp (λ_ _=>rfl)) qp (λ_ _=>rfl))) zp) (zy ja (zy jb (pv 0) qp (λ_ _=>rfl)) qp (λ_ _=>rfl))) qm zu)))) qaf)
   (qk (qde (i:=12) qa7.nd rfl rfl (N:=["_law_other", "_law_name_here"]) (js:=[none,some 1]) (XN:=["_law_rule_here", "_law_name_here", "_law_way", "_law_head", "_law_ends", "_law_anew", "_law_longer", "_law_kind", "_law_units", "_law_times", "_law_row", "_law_still", "_law_yields_here"]) (xs:=qab qeg) rfl rfl rfl En (qb8 (zy jb (pv 0) qp (λ_ _=>rfl))) (λ_ _ _ _ _ _=>(qap (i:=0) (show Cd (["_law_other", "_law_name_here"]:List Str) from by decide +kernel) rfl (Az rfl) (CK rfl))) (λ_ _ _ _ _ _=>qc2) (λ_ _ _ _ _ _=>(zg qac (zg qac (zg qac zp (pv 1)) zp) (pv 0))))
   (qt (zb (zq (qh (zq (qh (pv 3) qm qj)) (qh (pv 4) (qh (pv 5) (qh (pv 6) (qh (pv 11) (qh (pv 12) qm qj) qj) qj) qj) qj) qt1)))))))))))))))),?_⟩
  obtain ⟨pe,pa,pl,py,sv,us,h1⟩:=lr
  obtain ⟨l1,l2,l3,l4,l5,l6,l7,l8,l9,l10,l11,l12,l13⟩:=t_lens
  obtain ⟨k1,k2,k3,k4,k5,k6⟩:=ok.kin
  obtain ⟨z1,z2,z3,z4⟩:=ok.sz
  have n8:r.name.length <= 8:=ok.nm.2.1
  have w8:r.who.length <= 8:=ok.wh.2.1
  have o8:r.owes.length <= 8:=k1.2.1
  have u8:r.unit.length <= 5:=(qno ok.un).2.2
  have m8:(Aa (toString r.many)).length <= 2:=(qiq ok.mn.1 ok.mn.2).2.2.2.1
  have op8:(r.opens.getD "None").length <= 8:=by
   cases eo:r.opens with
   | none=>show (Aa "None").length <= 8; lia
   | some x=>exact (k5 x eo).2.1
  refine ⟨_,rfl,_,_,_,_,rfl,rfl,SqL.of (h1.hq),rfl,?_⟩
  refine ⟨_,rfl,_,_,_,_,rfl,rfl,SqL.of (h1.hq),rfl,r.opens,by cases r.opens <;> rfl,_,_,rfl,rfl,fz,?_⟩
  have hb':r.base=none \/ ∃ y,r.base=some y:=by
   cases r.base with
   | none=>exact .inl rfl
   | some y=>exact .inr ⟨y,rfl⟩
  have way8:(qk6 r).length <= 15:=by
   unfold qk6
   cases eb:r.base with
   | none=>show (Aa "from " ++ r.opens.getD "None").length <= 15; rw [qfo]; lia
   | some y=>have:y.length <= 8:=(ok.ba y eb).2.1; show (Aa "behind " ++ y).length <= 15; rw [qfo]; lia
  apply useV (p:=λx=>x=some (.str (qk6 r)))
  .intro fin
   refine hb'.elim (λz => ?_) (λz => ?_)
   .refine ⟨_,rfl,_,_,_,_,rfl,rfl,SqL.of (h1.hq),rfl,rfl,_,rfl,qd9 (by rw [z]; rfl) ?_⟩
    have ew:(some (V.str (Aa "from " ++ r.opens.getD "None")):Option V)=some (.str (qk6 r)):=by unfold qk6; rw [z]
    generalize (some (V.str (Aa "from " ++ r.opens.getD "None")):Option V)=x2 at ew |-
    exact fin x2 ew
   .obtain ⟨y,eb⟩:=z
    have eb':qd8 r.base=.str y:=by rw [eb]; rfl
    have y8:y.length <= 8:=(ok.ba y eb).2.1
    refine ⟨_,rfl,_,_,_,_,rfl,rfl,SqL.of (h1.hq),rfl,rfl,_,rfl,qgl (λz=>by rw [eb'] at z; cases z) ?_⟩
    refine ⟨_,rfl,_,_,_,_,rfl,rfl,SqL.of (h1.hq),rfl,_,y,rfl,eb',qae (by lia),?_⟩
    exact fin _ (by unfold qk6; rw [eb])
  rintro x2 rfl
  refine ⟨_,rfl,_,_,rfl,rfl,fz,_,_,rfl,rfl,fz,_,rfl,_,_,_,_,rfl,rfl,SqL.of (h1.hq),rfl,_,_,rfl,rfl,fz,_,_,rfl,rfl,fz,_,rfl,_,_,_,_,rfl,rfl,SqL.of (h1.hq),rfl,_,_,rfl,rfl,fz,?_⟩
  refine ⟨_,rfl,_,_,rfl,rfl,fz,_,rfl,_,_,rfl,rfl,fz,_,_,rfl,rfl,fz,_,rfl,_,_,_,_,rfl,rfl,SqL.of (h1.hq),rfl,_,rfl,qnp (by have:=ok.mn; lia),_,_,rfl,rfl,fz,_,_,rfl,rfl,fz,_,rfl,_,_,_,_,rfl,rfl,SqL.of (h1.hq),rfl,_,_,rfl,rfl,fz,?_⟩
  have elt:=qmm r
  have s00:=Same.refl H
  rw [show (Aa "term " ++ r.name ++ Aa " of " ++ r.who ++ Aa " due " ++ r.owes ++ Aa " " ++ qk6 r ++ Aa " " ++ Aa (toString r.many) ++ Aa " " ++ r.unit)=qak (qbg r) from elt]
  refine ⟨_,rfl,_,_,_,_,rfl,rfl,SqL.of (s00 _ _ h1.hq),rfl,_,rfl,⟨_,SqL.of (s00 _ _ h1.he)⟩,?_⟩
  refine qcb (λv=>match v with | .str y=>.str (qak (.ends r.name y)) | _=>.non) (λσ'=>∃ v,σ'=[v,some (.str r.name)]) (qcu (K:=K) (SqL.of (s00 _ _ h1.he))) (qae (by rw [Ab]; lia)) ⟨none,rfl⟩ (λv σ' J RR' hv sm s4 qq => ?_) qcq λp1 np1 => ?_
  .obtain ⟨v0,rfl⟩:=s4
   obtain ⟨y,hy,rfl⟩:=AI.mp hv
   have y8:y.length <= 8:=(k2 y hy).2.1
   have qq:=qq [some (.str y),some (.str r.name)] ⟨_,rfl⟩
   dsimp only at qq
   rw [<- qmn] at qq
   exact ⟨_,rfl,_,_,rfl,rfl,fz,_,_,rfl,rfl,fz,_,rfl,_,_,rfl,rfl,fz,qq⟩
  rw [show ((r.ends).map V.str).map (λv=>match v with | .str y=>V.str (qak (.ends r.name y)) | _=>.non)=qbh ((r.ends).map (.ends r.name)) by unfold qbh; rw [AR,AR,AR]; rfl]
  obtain ⟨s0,e1⟩:=alc (o:=.lst (qbh ((r.ends).map (.ends r.name)))) np1
  generalize upd H p1 _=H1 at s0 e1 |-
  have s10:=s0
  refine ⟨_,rfl,_,_,_,_,rfl,rfl,SqL.of (s10 _ _ h1.hq),rfl,_,rfl,⟨_,SqL.of (s10 _ _ h1.ha)⟩,?_⟩
  refine qcb (λv=>match v with | .str y=>.str (qak (.anew r.name y)) | _=>.non) (λσ'=>∃ v,σ'=[v,some (.str r.name)]) (qcu (K:=K) (SqL.of (s10 _ _ h1.ha))) (qae (by rw [Ab]; lia)) ⟨none,rfl⟩ (λv σ' J RR' hv sm s4 qq => ?_) qcq λp2 np2 => ?_
  .obtain ⟨v0,rfl⟩:=s4
   obtain ⟨y,hy,rfl⟩:=AI.mp hv
   have y8:y.length <= 8:=(k3 y hy).2.1
   have qq:=qq [some (.str y),some (.str r.name)] ⟨_,rfl⟩
   dsimp only at qq
   rw [<- qmo] at qq
   exact ⟨_,rfl,_,_,rfl,rfl,fz,_,_,rfl,rfl,fz,_,rfl,_,_,rfl,rfl,fz,qq⟩
  rw [show ((r.anew).map V.str).map (λv=>match v with | .str y=>V.str (qak (.anew r.name y)) | _=>.non)=qbh ((r.anew).map (.anew r.name)) by unfold qbh; rw [AR,AR,AR]; rfl]
  obtain ⟨s1,e2⟩:=alc (o:=.lst (qbh ((r.anew).map (.anew r.name)))) np2
  generalize upd H1 p2 _=H2 at s1 e2 |-
  have s20:=s10.trans s1
  refine ⟨qfe,λp3 n3 => ?_⟩
  obtain ⟨s2,e3⟩:=alc (o:=.lst []) n3
  generalize upd H2 p3 _=H3 at s2 e3 |-
  have s30:=s20.trans s2
  have lu:us.length=r.longer.length:=by rw [h1.tl.length,Ab]
  refine ⟨_,rfl,_,_,_,_,rfl,rfl,SqL.of (s30 _ _ h1.hq),rfl,_,rfl,⟨_,SqL.of (s30 _ _ h1.hl)⟩,qd2 (K:=K) (a:=pl) (xs:=us) (λi σ J=>Same H2 J/\J p3=some (.lst (qbh ((r.longer.take i).map λt=>.longer r.name t.1 t.2.1 t.2.2)))/\∃ v7 v8 v9 v10:Option V,σ=[some (.ref p),some (.str r.name),some (.str (qk6 r)),some (.str (qak (qbg r))),some (.ref p1),some (.ref p2),some (.ref p3),v7,v8,v9,v10,none,none]) ⟨s2,e3,none,none,none,none,rfl⟩ (λi σ J _ h=>SqL.of ((s20.trans h.1) _ _ h1.hl)) ?_ ?_⟩
  .rintro i v σ J hv ⟨sJ,hJ,v7,v8,v9,v10,rfl⟩
   obtain ⟨b,t,rfl,g1,g2⟩:=h1.tl.get' hv
   rw [An] at g1
   cases eg:r.longer[i]? with
   | none=>rw [eg] at g1; cases g1
   | some tr =>
   rw [eg] at g1
   cases g1
   have hi:i < r.longer.length:=(Af.mp eg).1
   have tm:=Aw eg
   obtain ⟨⟨b1,b2⟩,b3,b4⟩:=ok.lg tr tm
   have t8:tr.1.length <= 8:=(k4 tr tm).2.1
   have a2:(Aa (toString tr.2.1)).length <= 2:=(qiq b1 (by lia)).2.2.2.1
   have a3:(Aa (toString tr.2.2)).length <= 2:=(qiq b3 (by lia)).2.2.2.1
   refine ⟨_,_,rfl,SqT.of ((s20.trans sJ) _ _ g2),rfl,_,_,rfl,_,_,rfl,_,_,rfl,rfl,?_⟩
   refine ⟨_,rfl,_,_,rfl,rfl,fz,_,_,rfl,rfl,fz,_,rfl,_,_,rfl,rfl,fz,_,_,rfl,rfl,fz,_,rfl,_,rfl,qnp (by lia),_,_,rfl,rfl,fz,?_⟩
   refine ⟨_,rfl,.inl ⟨rfl,_,SqL.of hJ⟩,_,rfl,_,_,rfl,rfl,fz,_,rfl,_,rfl,qnp (by lia),_,_,rfl,rfl,fz,_,_,_,rfl,rfl,hJ,qdn (by unfold qbh; rw [Ab,Ab,Ab,Ap]; lia),?_⟩
   refine ⟨qam sJ n3,?_,_,_,_,_,rfl⟩
   rw [qu,qbs eg,Ay]
   unfold qbh
   rw [Ay,Ay]
   show some (HO.lst (_ ++ [V.str (wS "longer " ++ r.name ++ wS " " ++ tr.1 ++ wS " " ++ nS tr.2.1 ++ wS " times " ++ nS tr.2.2)]))=_
   rw [qjk]; rfl
  .rintro σ H4 ⟨s4,e4,v7,v8,v9,v10,rfl⟩
   rw [lu,B0] at e4
   have s40:=s20.trans s4
   refine ⟨qfe,λp5 n5 => ?_⟩
   obtain ⟨s5,e5⟩:=alc (o:=.lst []) n5
   generalize upd H4 p5 _=H5 at s5 e5 |-
   have s50:=s40.trans s5
   have hs5:=h1.hs.same s50
   have hst':r.still=none \/ ∃ s,r.still=some s:=by
    cases r.still with
    | none=>exact .inl rfl
    | some s=>exact .inr ⟨s,rfl⟩
   apply use2 (p:=λ(H6:Hp) (x:Option V)=>∃ p6,x=some (.ref p6)/\Same H5 H6/\H6 p6=some (.lst (qbh (qgq r.name r.still))))
   .intro fin
    refine hst'.elim (λz => ?_) (λz => ?_)
    .rw [z] at hs5
     have hs5:sv=.non:=hs5
     refine ⟨_,rfl,_,_,_,_,rfl,rfl,SqL.of (s50 _ _ h1.hq),rfl,rfl,_,rfl,qd9 hs5 ?_⟩
     obtain ⟨H6,hH6⟩:∃ H6,H6=H5:=⟨_,rfl⟩
     have qq:∃ p6,some (V.ref p5)=some (.ref p6)/\Same H5 H6/\H6 p6=some (.lst (qbh (qgq r.name r.still))):=⟨p5,rfl,by rw [hH6]; exact Same.refl _,by rw [hH6,z,e5]; rfl⟩
     rw [<- hH6]
     generalize (some (V.ref p5):Option V)=x11 at qq |-
     exact fin H6 x11 qq
    .obtain ⟨s,es⟩:=z
     rw [es] at hs5
     obtain ⟨b,hb,hs5⟩:=hs5
     obtain ⟨q1,q2⟩:=k6 s es
     have q1:s.1.length <= 8:=q1.2.1
     have q2:s.2.length <= 8:=q2.2.1
     refine ⟨_,rfl,_,_,_,_,rfl,rfl,SqL.of (s50 _ _ h1.hq),rfl,rfl,_,rfl,qgl (λz=>by rw [hb] at z; cases z) ?_⟩
     refine ⟨_,rfl,_,_,rfl,rfl,fz,_,_,rfl,rfl,fz,_,rfl,_,_,_,_,rfl,rfl,SqL.of (s50 _ _ h1.hq),rfl,_,_,_,_,hb,rfl,SqT.of hs5,rfl,_,_,rfl,rfl,fz,_,_,rfl,rfl,fz,_,rfl,_,_,_,_,rfl,rfl,SqL.of (s50 _ _ h1.hq),rfl,_,_,_,_,hb,rfl,SqT.of hs5,rfl,_,_,rfl,rfl,fz,qae (show 1 <= 100000 by decide),λp6 n6 => ?_⟩
     refine fin _ (some (.ref p6)) ⟨p6,rfl,zh n6,?_⟩
     rw [qu,es]
     show some (HO.lst [V.str (wS "still " ++ r.name ++ wS " " ++ s.1 ++ wS " " ++ s.2)])=_
     rw [qp9]; rfl
   rintro H6 x11 ⟨p6,rfl,s6,e6⟩
   have s60:=s50.trans s6
   have z4':=z4
   refine ⟨_,rfl,_,_,_,_,rfl,rfl,SqL.of (s60 _ _ h1.hq),rfl,_,rfl,⟨_,SqL.of (s60 _ _ h1.hy)⟩,?_⟩
   refine qcb (λv=>match v with | .str y=>.str (qak (.yields r.name y)) | _=>.non) (λσ'=>∃ v,σ'=[v,some (.str r.name)]) (qcu (K:=K) (SqL.of (s60 _ _ h1.hy))) (qae (by rw [Ab]; lia)) ⟨none,rfl⟩ (λv σ' J RR' hv sm s4 qq => ?_) qcq λp7 np7 => ?_
   .obtain ⟨v0,rfl⟩:=s4
    obtain ⟨y,hy,rfl⟩:=AI.mp hv
    have y8:y.length <= 8:=(ok.yl y hy).2.1
    have qq:=qq [some (.str y),some (.str r.name)] ⟨_,rfl⟩
    dsimp only at qq
    rw [<- qo2] at qq
    exact ⟨_,rfl,_,_,rfl,rfl,fz,_,_,rfl,rfl,fz,_,rfl,_,_,rfl,rfl,fz,qq⟩
   rw [show ((r.yields).map V.str).map (λv=>match v with | .str y=>V.str (qak (.yields r.name y)) | _=>.non)=qbh ((r.yields).map (.yields r.name)) by unfold qbh; rw [AR,AR,AR]; rfl]
   obtain ⟨s6',e7⟩:=alc (o:=.lst (qbh ((r.yields).map (.yields r.name)))) np7
   generalize upd H6 p7 _=H7 at s6' e7 |-
   have s70:=s60.trans s6'
   refine ⟨_,rfl,qae (show 1 <= 100000 by decide),λp8 n8' => ?_⟩
   obtain ⟨s8,e8⟩:=alc (o:=.lst [V.str (qak (qbg r))]) n8'
   generalize upd H7 p8 _=H8 at s8 e8 |-
   have s80:=s70.trans s8
   refine ⟨_,rfl,_,rfl,_,rfl,_,rfl,_,rfl,qae (show 6 <= 100000 by decide),λq nq => ?_⟩
   have s9:=zh (o:=.lst [V.ref p8,V.ref p1,V.ref p2,V.ref p3,V.ref p6,V.ref p7]) nq
   have s89:=s8.trans s9
   have s79:=s6'.trans s89
   have s59:=s6.trans s79
   have s49:=s5.trans s59
   have s29:=s4.trans s49
   refine k q _ _ (s80.free nq) (s80.trans s9) qu rfl λi v rw hv hrw => ?_
   have hi:i < 6:=(Af.mp hv).1
   rcases (by lia:i=0 \/ i=1 \/ i=2 \/ i=3 \/ i=4 \/ i=5) with rfl | rfl | rfl | rfl | rfl | rfl
   .cases hv; cases hrw; exact ⟨p8,rfl,s9 _ _ e8⟩
   .cases hv; cases hrw; exact ⟨p1,rfl,(s1.trans s29) _ _ e1⟩
   .cases hv; cases hrw; exact ⟨p2,rfl,s29 _ _ e2⟩
   .cases hv; cases hrw; exact ⟨p3,rfl,s49 _ _ e4⟩
   .cases hv; cases hrw; exact ⟨p6,rfl,s79 _ _ e6⟩
   .cases hv; cases hrw; exact ⟨p7,rfl,s89 _ _ e7⟩
theorem qth (T:Txt K mg a):FnOk P w K mg base CX0 2 a.fN a.nP ["_law_rule_here"] spRws:=by
 refine T.bF.fn.ok qg0 (λvs H Q E h => ?_) (λcdv A outer s H vs Q E hr h => ?_)
 .obtain ⟨_,_,rfl,_⟩:=h
  all_goals rfl
 .obtain ⟨p,r,rfl,lr,ok,k⟩:=h
  refine ⟨_,(qk (zf (i:=1) qg0.nd rfl (Az rfl) (zq qm))
   (qk (qcr BL rfl (qb8 (zm (qqn T) (hr.mono Ez) rfl T.bV.mgx T.bV.fn.kp T.bV.bd .nil qan (qh (pv 0) qm qj))) (qap (i:=2) qg0.nd rfl (Az rfl)) (qt (zf (i:=1) qg0.nd rfl (Az rfl) (zg qbi (pv 1) (pv 2)))))
   (qt (zb (pv 1))))),?_⟩
  refine ⟨qfe,λq0 n0 => ?_⟩
  obtain ⟨s0,e0⟩:=alc (o:=.lst []) n0
  generalize upd H q0 _=H0 at s0 e0 |-
  refine ⟨_,rfl,p,r,rfl,lr.same s0,ok,λps H1 us nps s1 es lus hus => ?_⟩
  have s01:=s0.trans s1
  have sl:=qvm ok
  have lS:(qhb r).length=6:=rfl
  refine ⟨_,rfl,⟨_,SqL.of es⟩,qd2 (K:=K) (a:=ps) (xs:=us) (λi σ J=>Same H1 J/\(∃ q,J q=some (.lst (qbh ((qhb r).take i).flatten))/\H q=none/\∃ v2:Option V,σ=[some (.ref p),some (.ref q),v2])/\((qhb r).take i).flatten.length <= 100 * i) ⟨Same.refl _,⟨q0,s1 _ _ e0,n0,none,rfl⟩,by simp⟩ (λi σ J _ h=>SqL.of (h.1 _ _ es)) ?_ ?_⟩
  .rintro i v σ J hv ⟨sJ,⟨q,hq,nq,v2,rfl⟩,li⟩
   have hi:i < 6:=by rw [<- lus]; exact (Af.mp hv).1
   obtain ⟨rw',hrw⟩:∃ rw',(qhb r)[i]?=some rw':=⟨_,Aj (by rw [lS]; exact hi)⟩
   obtain ⟨b,rfl,hb⟩:=hus i v rw' hv hrw
   have lb:=sl rw' (Aw hrw)
   have lz:∀ z:List Rw7,(qbh z).length=z.length:=λz=>by unfold qbh; rw [Ab,Ab]
   refine ⟨_,rfl,_,rfl,_,_,_,_,rfl,rfl,hq,sJ _ _ hb,qae (by rw [lz,lz]; lia),λq2 n2 => ?_⟩
   refine ⟨sJ.trans (zh n2),⟨q2,?_,(s01.trans sJ).free n2,_,rfl⟩,?_⟩
   .rw [qu,qbs hrw,List.flatten_append]
    unfold qbh
    rw [Ay,Ay]
    simp
   .rw [qbs hrw,List.flatten_append,Ag]
    simp only [List.flatten_cons,List.flatten_nil,Bw]
    lia
  .rintro σ J ⟨sJ,⟨q,hq,nq,v2,rfl⟩,li⟩
   rw [lus,<- lS,B0] at hq
   exact ⟨_,rfl,k q J nq (s01.trans sJ) hq⟩
theorem qmx (T:Txt K mg a):FnOk P w K mg base CX0 8 a.nY a.nJ ["_law_text"] (spTo a):=by
 refine T.gC.fn.ok qbf (λvs H Q E h => ?_) (λcdv A outer s H vs Q E hr h => ?_)
 .obtain ⟨_,rfl,_⟩:=h
  all_goals rfl
 .obtain ⟨ls,rfl,hls,k,ke⟩:=h
  refine ⟨_,(qk (zf (i:=1) qbf.nd rfl (Az rfl) (zr (qh zp (qh qbu (qh qd0 qm qz) qz) qz)))
   (qk (qzb ⟨rfl,rfl⟩ (λ_ _ _ hx hp=>(qt (zi (qd3 (qht T) (hr.mono Ez) rfl T.kP.mgx T.kP.fn.kp T.kP.bd .nil hx (qh (pv 0) qm qj))))) (ph_no (qd4 (qc3 rfl T.pT) (qd4 (qc3 rfl T.pE) (qd4 (qc3 rfl T.rG) (qd4 (qc3 rfl T.rK) (qd4 (qc3 rfl T.rV) (qd4 (qc3 rfl T.tM) (qd4 (qc3 rfl T.sD) (qd4 (qc3 rfl T.sZ) qw8)))))))) (qoi (i:=2) qbf.nd rfl rfl (qc3 rfl T.fP) (λ_=>(qk (zf (i:=3) qbf.nd rfl (Az rfl) (qj3 (zn qiy (by rfl) T.kJ qaj (qh (pv 2) (qh (zr (qh (qbm (v:=.ref a.kG) rfl T.gX rfl) (qh (qbm (v:=.ref a.kB) rfl T.gM rfl) (qh (qbm (v:=.ref a.kF) rfl T.bS rfl) (qh (qbm (v:=.ref a.k9) rfl T.gA rfl) qm qj) qj) qj) qj)) qm zx) qj))))
   (qt (zf (i:=1) qbf.nd rfl (Az rfl) (zr (qh zp (qh (qh3 (pv 2) rfl) (qh (qd7 (pv 3) (qd7 (zn qcv (by rfl) T.kJ qaj (qh (pv 2) (qh (qbm (v:=.ref a.kN) rfl T.kS rfl) qm qj) qj)) (qe6 (zn qcv (by rfl) T.kJ qaj (qh (pv 2) (qh (qdy (v:=.ty "ValueError") rfl T.gU qcm rfl) qm qj) qj))))) qm qga) qcl) qz)))))) (qoi (i:=2) qbf.nd rfl rfl (qc3 rfl T.gX) (λ_=>(qk (zf (i:=3) qbf.nd rfl (Az rfl) (qj3 (zn qiy (by rfl) T.kJ qaj (qh (pv 2) (qh (zr (qh (qbm (v:=.ref a.kB) rfl T.gM rfl) (qh (qbm (v:=.ref a.kF) rfl T.bS rfl) (qh (qbm (v:=.ref a.k9) rfl T.gA rfl) qm qj) qj) qj)) qm zx) qj))))
   (qt (zf (i:=1) qbf.nd rfl (Az rfl) (zr (qh zp (qh (qh3 (pv 2) rfl) (qh (qd7 (pv 3) (qd7 (zn qcv (by rfl) T.kJ qaj (qh (pv 2) (qh (qbm (v:=.ref a.kN) rfl T.kS rfl) qm qj) qj)) (qe6 (zn qcv (by rfl) T.kJ qaj (qh (pv 2) (qh (qdy (v:=.ty "ValueError") rfl T.gU qcm rfl) qm qj) qj))))) qm qga) qcl) qz)))))) (qoi (i:=2) qbf.nd rfl rfl (qc3 rfl T.bS) (λ_=>(qk (zf (i:=3) qbf.nd rfl (Az rfl) (qj3 (zn qiy (by rfl) T.kJ qaj (qh (pv 2) (qh (zr (qh (qbm (v:=.ref a.kB) rfl T.gM rfl) (qh (qbm (v:=.ref a.k9) rfl T.gA rfl) qm qj) qj)) qm zx) qj))))
   (qt (zf (i:=1) qbf.nd rfl (Az rfl) (zr (qh zp (qh (qh3 (pv 2) rfl) (qh (qd7 (pv 3) (qd7 (zn qcv (by rfl) T.kJ qaj (qh (pv 2) (qh (qbm (v:=.ref a.kN) rfl T.kS rfl) qm qj) qj)) (qe6 (zn qcv (by rfl) T.kJ qaj (qh (pv 2) (qh (qdy (v:=.ty "ValueError") rfl T.gU qcm rfl) qm qj) qj))))) qm qga) qcl) qz)))))) (qoi (i:=2) qbf.nd rfl rfl (qc3 rfl T.gA) (λ_=>(qk (zf (i:=3) qbf.nd rfl (Az rfl) (qj3 (zn qcv (by rfl) T.kJ qaj (qh (pv 2) (qh (qbm (v:=.ref a.kB) rfl T.gM rfl) qm qj) qj))))
   (qt (zf (i:=1) qbf.nd rfl (Az rfl) (zr (qh zp (qh (qh3 (pv 2) rfl) (qh (qd7 (pv 3) (qd7 (zn qcv (by rfl) T.kJ qaj (qh (pv 2) (qh (qbm (v:=.ref a.kN) rfl T.kS rfl) qm qj) qj)) (qe6 (zn qcv (by rfl) T.kJ qaj (qh (pv 2) (qh (qdy (v:=.ty "ValueError") rfl T.gU qcm rfl) qm qj) qj))))) qm qga) qcl) qz)))))) (qoi (i:=2) qbf.nd rfl rfl (qc3 rfl T.gM) (λ_=>(qt (zf (i:=1) qbf.nd rfl (Az rfl) (zr (qh zp (qh (qh3 (pv 2) rfl) (qh (qd7 (zn qcv (by rfl) T.kJ qaj (qh (pv 2) (qh (qbm (v:=.ref a.kN) rfl T.kS rfl) qm qj) qj)) (qe6 (zn qcv (by rfl) T.kJ qaj (qh (pv 2) (qh (qdy (v:=.ty "ValueError") rfl T.gU qcm rfl) qm qj) qj)))) qm qga) qcl) qz))))) ph_nil)))))))
   (qt (zb (pv 1))))),?_⟩
  refine ⟨qls _ _ _,λt0 n0 => ?_⟩
  obtain ⟨s0,e0⟩:=alc (o:=.tup [.str (wS "read"),.non,.bl true]) n0
  change _ at e0
  generalize hH0:upd H t0 _=H0 at s0 e0 |-
  refine ⟨_,rfl,ls,rfl,hls,λrs ok=>⟨λxb H8 As os s8 bk=>⟨_,rfl,(k rs ok).1 t0 H8 (s0.trans s8) (s8 _ _ e0)⟩,?_⟩,λe er => ?_⟩
  .intro x d0 l0 H9 r s9 ex ed el rg
   refine ⟨x,_,rfl,ex,⟨⟨qae (show 8 <= 100000 by decide),λc hc => ?_⟩,?_⟩⟩
   .simp only [Ao,Ar,or_false] at hc
    rcases hc with rfl | rfl | rfl | rfl | rfl | rfl | rfl | rfl
    .exact T.rP
    .exact T.rY
    .exact T.sE
    .exact T.tL
    .exact T.rQ
    .exact T.rH
    .exact T.r8
    .exact T.tQ
   refine qcn T.sW ?_
   refine qcn T.pX ?_
   refine qcn T.pN ?_
   refine qcn T.tE ?_
   refine qgs T.sP ?_
   refine ⟨_,rfl,x,_,d0,false,_,_,rfl,ex,ed,T.gL.is,zc T.fO Ez,rfl,_,rfl,_,_,_,_,_,_,_,rfl,ex,⟨_,ed⟩,T.gL.is,.inr ⟨_,rfl,rfl⟩,qbb T.lG (i:=0) rfl rfl,_,rfl,qb7 ⟨_,rfl,_,_,_,_,_,_,_,rfl,ex,⟨_,ed⟩,T.gL.is,.inl ⟨_,rfl,rfl⟩,qbb T.lG (i:=1) rfl rfl,qls _ _ _,λt ht => ?_⟩⟩
   have st:=zh (o:=.tup [.str (wS "ring"),.ref l0,.bl true]) ht
   exact ⟨_,rfl,(k rs ok).2 t l0 _ r ((s0.trans s9).trans st) qu (st _ _ el) rg⟩
  cases e with
  | rule i =>
   intro x d0 H9 s9 ex ed
   refine ⟨x,_,rfl,ex,⟨⟨qae (show 8 <= 100000 by decide),λc hc => ?_⟩,?_⟩⟩
   .simp only [Ao,Ar,or_false] at hc
    rcases hc with rfl | rfl | rfl | rfl | rfl | rfl | rfl | rfl
    .exact T.sX
    .exact T.pZ
    .exact T.tD
    .exact T.pM
    .exact T.rO
    .exact T.pB
    .exact T.pU
    .exact T.sL
   refine qgs T.sU ?_
   refine ⟨_,rfl,qae (show 4 <= 100000 by decide),λp hp => ?_⟩
   obtain ⟨sp,ep⟩:=alc (o:=.tup [V.ref a.kG,V.ref a.kB,V.ref a.kF,V.ref a.k9]) hp
   generalize upd H9 p _=H10 at sp ep |-
   have kz:([Al a.kG,Al a.kB,Al a.kF,Al a.k9].map λc=>BC K (.ref a.kH) c)=[Al a.kG,Al a.kB,Al a.kF,Al a.k9].map (λ_=>some false):=by
    simp only [A6,B4]
    rw [qbb T.gS (i:=3) (c:=.ref a.kG) (b:=false) rfl rfl,qbb T.gS (i:=6) (c:=.ref a.kB) (b:=false) rfl rfl,qbb T.gS (i:=4) (c:=.ref a.kF) (b:=false) rfl rfl,qbb T.gS (i:=5) (c:=.ref a.k9) (b:=false) rfl rfl]
   refine ⟨_,_,_,_,_,[a.kG,a.kB,a.kF,a.k9],false,rfl,sp _ _ ex,⟨_,sp _ _ ed⟩,T.kT.is,ep,qed kz,_,rfl,?_⟩
   refine ⟨_,rfl,x,_,d0,false,_,_,rfl,(sp _ _ ex),(sp _ _ ed),T.kT.is,zc T.bX Ez,rfl,_,rfl,_,rfl,qb7 ⟨_,rfl,_,_,_,_,_,_,_,rfl,(sp _ _ ex),⟨_,(sp _ _ ed)⟩,T.kT.is,.inr ⟨_,rfl,rfl⟩,qbb T.gS (i:=0) rfl rfl,_,rfl,qb7 ⟨_,rfl,_,_,_,_,_,_,_,rfl,(sp _ _ ex),⟨_,(sp _ _ ed)⟩,T.kT.is,.inl ⟨_,rfl,rfl⟩,qbb T.gS (i:=1) rfl rfl,qls _ _ _,λt ht => ?_⟩⟩⟩
   have st:=zh (o:=.tup [.str (wS "rule"),.int (i:Int),.bl true]) ht
   exact ⟨_,rfl,ke _ er t _ ((s0.trans (s9.trans sp)).trans st) qu⟩
  | term y =>
   intro x d0 H9 s9 ex ed
   refine ⟨x,_,rfl,ex,⟨⟨qae (show 8 <= 100000 by decide),λc hc => ?_⟩,?_⟩⟩
   .simp only [Ao,Ar,or_false] at hc
    rcases hc with rfl | rfl | rfl | rfl | rfl | rfl | rfl | rfl
    .exact T.pF
    .exact T.r6
    .exact T.pP
    .exact T.pI
    .exact T.tH
    .exact T.pQ
    .exact T.pW
    .exact T.pD
   refine qcn T.sV ?_
   refine qgs T.rA ?_
   refine ⟨_,rfl,qae (show 3 <= 100000 by decide),λp hp => ?_⟩
   obtain ⟨sp,ep⟩:=alc (o:=.tup [V.ref a.kB,V.ref a.kF,V.ref a.k9]) hp
   generalize upd H9 p _=H10 at sp ep |-
   have kz:([Al a.kB,Al a.kF,Al a.k9].map λc=>BC K (.ref a.kG) c)=[Al a.kB,Al a.kF,Al a.k9].map (λ_=>some false):=by
    simp only [A6,B4]
    rw [qbb T.gT (i:=6) (c:=.ref a.kB) (b:=false) rfl rfl,qbb T.gT (i:=4) (c:=.ref a.kF) (b:=false) rfl rfl,qbb T.gT (i:=5) (c:=.ref a.k9) (b:=false) rfl rfl]
   refine ⟨_,_,_,_,_,[a.kB,a.kF,a.k9],false,rfl,sp _ _ ex,⟨_,sp _ _ ed⟩,T.kM.is,ep,qed kz,_,rfl,?_⟩
   refine ⟨_,rfl,x,_,d0,false,_,_,rfl,(sp _ _ ex),(sp _ _ ed),T.kM.is,zc T.bO Ez,rfl,_,rfl,_,rfl,qb7 ⟨_,rfl,_,_,_,_,_,_,_,rfl,(sp _ _ ex),⟨_,(sp _ _ ed)⟩,T.kM.is,.inr ⟨_,rfl,rfl⟩,qbb T.gT (i:=0) rfl rfl,_,rfl,qb7 ⟨_,rfl,_,_,_,_,_,_,_,rfl,(sp _ _ ex),⟨_,(sp _ _ ed)⟩,T.kM.is,.inl ⟨_,rfl,rfl⟩,qbb T.gT (i:=1) rfl rfl,qls _ _ _,λt ht => ?_⟩⟩⟩
   have st:=zh (o:=.tup [.str (wS "term"),.str y,.bl true]) ht
   exact ⟨_,rfl,ke _ er t _ ((s0.trans (s9.trans sp)).trans st) qu⟩
  | twice y =>
   intro x d0 H9 s9 ex ed
   refine ⟨x,_,rfl,ex,⟨⟨qae (show 8 <= 100000 by decide),λc hc => ?_⟩,?_⟩⟩
   .simp only [Ao,Ar,or_false] at hc
    rcases hc with rfl | rfl | rfl | rfl | rfl | rfl | rfl | rfl
    .exact T.tN
    .exact T.rD
    .exact T.sF
    .exact T.sS
    .exact T.sT
    .exact T.sR
    .exact T.sN
    .exact T.sQ
   refine qcn T.rL ?_
   refine qcn T.pO ?_
   refine qgs T.rT ?_
   refine ⟨_,rfl,qae (show 2 <= 100000 by decide),λp hp => ?_⟩
   obtain ⟨sp,ep⟩:=alc (o:=.tup [V.ref a.kB,V.ref a.k9]) hp
   generalize upd H9 p _=H10 at sp ep |-
   have kz:([Al a.kB,Al a.k9].map λc=>BC K (.ref a.kF) c)=[Al a.kB,Al a.k9].map (λ_=>some false):=by
    simp only [A6,B4]
    rw [qbb T.dF (i:=6) (c:=.ref a.kB) (b:=false) rfl rfl,qbb T.dF (i:=5) (c:=.ref a.k9) (b:=false) rfl rfl]
   refine ⟨_,_,_,_,_,[a.kB,a.k9],false,rfl,sp _ _ ex,⟨_,sp _ _ ed⟩,T.kZ.is,ep,qed kz,_,rfl,?_⟩
   refine ⟨_,rfl,x,_,d0,false,_,_,rfl,(sp _ _ ex),(sp _ _ ed),T.kZ.is,zc T.nL Ez,rfl,_,rfl,_,rfl,qb7 ⟨_,rfl,_,_,_,_,_,_,_,rfl,(sp _ _ ex),⟨_,(sp _ _ ed)⟩,T.kZ.is,.inr ⟨_,rfl,rfl⟩,qbb T.dF (i:=0) rfl rfl,_,rfl,qb7 ⟨_,rfl,_,_,_,_,_,_,_,rfl,(sp _ _ ex),⟨_,(sp _ _ ed)⟩,T.kZ.is,.inl ⟨_,rfl,rfl⟩,qbb T.dF (i:=1) rfl rfl,qls _ _ _,λt ht => ?_⟩⟩⟩
   have st:=zh (o:=.tup [.str (wS "twice"),.str y,.bl true]) ht
   exact ⟨_,rfl,ke _ er t _ ((s0.trans (s9.trans sp)).trans st) qu⟩
  | unfit i =>
   intro x d0 H9 s9 ex ed
   refine ⟨x,_,rfl,ex,⟨⟨qae (show 8 <= 100000 by decide),λc hc => ?_⟩,?_⟩⟩
   .simp only [Ao,Ar,or_false] at hc
    rcases hc with rfl | rfl | rfl | rfl | rfl | rfl | rfl | rfl
    .exact T.rW
    .exact T.tR
    .exact T.pV
    .exact T.rC
    .exact T.tI
    .exact T.pG
    .exact T.tP
    .exact T.rF
   refine qcn T.rM ?_
   refine qcn T.rR ?_
   refine qcn T.tS ?_
   refine qgs T.tO ?_
   refine ⟨_,rfl,_,_,_,_,_,_,_,rfl,ex,⟨_,ed⟩,T.kK.is,.inr ⟨_,rfl,rfl⟩,qbb T.fE (i:=6) rfl rfl,_,rfl,?_⟩
   refine ⟨_,rfl,x,_,d0,false,_,_,rfl,ex,ed,T.kK.is,zc T.kW Ez,rfl,_,rfl,_,rfl,qb7 ⟨_,rfl,_,_,_,_,_,_,_,rfl,ex,⟨_,ed⟩,T.kK.is,.inr ⟨_,rfl,rfl⟩,qbb T.fE (i:=0) rfl rfl,_,rfl,qb7 ⟨_,rfl,_,_,_,_,_,_,_,rfl,ex,⟨_,ed⟩,T.kK.is,.inl ⟨_,rfl,rfl⟩,qbb T.fE (i:=1) rfl rfl,qls _ _ _,λt ht => ?_⟩⟩⟩
   have st:=zh (o:=.tup [.str (wS "unfit"),.int (i:Int),.bl true]) ht
   exact ⟨_,rfl,ke _ er t _ ((s0.trans s9).trans st) qu⟩
theorem qhv (T:Txt K mg a):FnOk P w K mg base CX0 9 a.hU a.mC ["_law_text", "_law_word", "_law_field"] spRi:=by
 refine T.kQ.fn.ok qkw (λvs H Q E h => ?_) (λcdv A outer s H vs Q E hr h => ?_)
 .obtain ⟨_,_,rfl,_⟩:=h
  all_goals rfl
 .obtain ⟨ls,er,rfl,hls,her,k⟩:=h
  refine ⟨_,(qk (zf (i:=3) qkw.nd rfl (Az rfl) (zm (qmx T) (hr.mono Ez) rfl T.gC.mgx T.gC.fn.kp T.gC.bd .nil qan (qh (pv 0) qm qj)))
   (qk (zj (PW.pt (qez (ze qj5 (zy ja (pv 3) qp (λ_ _=>rfl)) (pv 1) (qad _)) (qez (ze qw3 (zy ja (pv 3) qp (λ_ _=>rfl)) qd0 (qad _)) (qej (zo (zn qf9 (by rfl) T.kJ qaj (qh (zy ja (pv 3) qp (λ_ _=>rfl)) (qh (qdy (v:=.ty "bool") rfl T.pK qso rfl) qm qj) zw))))))) (qt (zb qd0)) qaf)
   (qk (zj (ze qef (pv 1) (zr (qh zp (qh zp qm qz) qz)) (by with_unfolding_all rfl)) (qt (zb (qd7 (zn qf9 (by rfl) T.kJ qaj (qh (zy ja (pv 3) qp (λ_ _=>rfl)) (qh (qdy (v:=.ty "int") rfl T.bP qic rfl) qm qj) zw)) (qe6 (qc0 qay (zy ja (pv 3) qp (λ_ _=>rfl)) (pv 2) (qad _)))))) qaf)
   (qt (zb (qd7 (zn qf9 (by rfl) T.kJ qaj (qh (zy ja (pv 3) qp (λ_ _=>rfl)) (qh (qdy (v:=.ty "str") rfl T.kX qd5 rfl) qm qj) zw)) (qe6 (qc0 qay (zy ja (pv 3) qp (λ_ _=>rfl)) (pv 2) (qad _))))))))),?_⟩
  refine ⟨_,rfl,ls,rfl,hls,(λrs ok=>(by rw [ok] at her; cases her)),λe er2 t H1 s1 ht => ?_⟩
  rw [her] at er2
  cases er2
  cases er with
  | rule i =>
   refine ⟨_,rfl,_,_,_,_,rfl,rfl,SqT.of ht,rfl,_,rfl,rfl,_,rfl,qd9 rfl ⟨_,rfl,_,_,_,_,rfl,rfl,SqT.of ht,rfl,_,_,rfl,rfl,_,rfl,qbp ⟨_,rfl,_,_,_,_,rfl,rfl,SqT.of ht,rfl,_,_,_,_,rfl,.int _,qhz,_,rfl,qbp ?_⟩⟩⟩
   refine ⟨_,rfl,qae (show 2 <= 100000 by decide),λt2 n2 => ?_⟩
   obtain ⟨s2,e2⟩:=alc (o:=.tup [.str (wS "rule"),.str (wS "unfit")]) n2
   generalize upd H1 t2 _=H2 at s2 e2 |-
   have ht2:=s2 _ _ ht
   refine ⟨_,_,rfl,.inr (SqT.of e2),rfl,rfl,_,rfl,qb7 ?_⟩
   exact ⟨_,rfl,_,_,_,_,rfl,rfl,SqT.of ht2,rfl,_,_,_,_,rfl,.int _,qf8,_,rfl,qb7 ⟨_,rfl,_,_,_,_,rfl,rfl,SqT.of ht2,rfl,_,rfl,rfl,by rw [decide_eq_true (rfl:(erF _).2=(erF _).2)]; exact k H2 (s1.trans s2)⟩⟩
  | term y =>
   refine ⟨_,rfl,_,_,_,_,rfl,rfl,SqT.of ht,rfl,_,rfl,rfl,_,rfl,qd9 rfl ⟨_,rfl,_,_,_,_,rfl,rfl,SqT.of ht,rfl,_,_,rfl,rfl,_,rfl,qbp ⟨_,rfl,_,_,_,_,rfl,rfl,SqT.of ht,rfl,_,_,_,_,rfl,.str _,qh2,_,rfl,qbp ?_⟩⟩⟩
   refine ⟨_,rfl,qae (show 2 <= 100000 by decide),λt2 n2 => ?_⟩
   obtain ⟨s2,e2⟩:=alc (o:=.tup [.str (wS "rule"),.str (wS "unfit")]) n2
   generalize upd H1 t2 _=H2 at s2 e2 |-
   have ht2:=s2 _ _ ht
   refine ⟨_,_,rfl,.inr (SqT.of e2),rfl,rfl,_,rfl,qbp ?_⟩
   exact ⟨_,rfl,_,_,_,_,rfl,rfl,SqT.of ht2,rfl,_,_,_,_,rfl,.str _,qgb,_,rfl,qb7 ⟨_,rfl,_,_,_,_,rfl,rfl,SqT.of ht2,rfl,_,rfl,rfl,by rw [decide_eq_true (rfl:(erF _).2=(erF _).2)]; exact k H2 (s1.trans s2)⟩⟩
  | twice y =>
   refine ⟨_,rfl,_,_,_,_,rfl,rfl,SqT.of ht,rfl,_,rfl,rfl,_,rfl,qd9 rfl ⟨_,rfl,_,_,_,_,rfl,rfl,SqT.of ht,rfl,_,_,rfl,rfl,_,rfl,qbp ⟨_,rfl,_,_,_,_,rfl,rfl,SqT.of ht,rfl,_,_,_,_,rfl,.str _,qh2,_,rfl,qbp ?_⟩⟩⟩
   refine ⟨_,rfl,qae (show 2 <= 100000 by decide),λt2 n2 => ?_⟩
   obtain ⟨s2,e2⟩:=alc (o:=.tup [.str (wS "rule"),.str (wS "unfit")]) n2
   generalize upd H1 t2 _=H2 at s2 e2 |-
   have ht2:=s2 _ _ ht
   refine ⟨_,_,rfl,.inr (SqT.of e2),rfl,rfl,_,rfl,qbp ?_⟩
   exact ⟨_,rfl,_,_,_,_,rfl,rfl,SqT.of ht2,rfl,_,_,_,_,rfl,.str _,qgb,_,rfl,qb7 ⟨_,rfl,_,_,_,_,rfl,rfl,SqT.of ht2,rfl,_,rfl,rfl,by rw [decide_eq_true (rfl:(erF _).2=(erF _).2)]; exact k H2 (s1.trans s2)⟩⟩
  | unfit i =>
   refine ⟨_,rfl,_,_,_,_,rfl,rfl,SqT.of ht,rfl,_,rfl,rfl,_,rfl,qd9 rfl ⟨_,rfl,_,_,_,_,rfl,rfl,SqT.of ht,rfl,_,_,rfl,rfl,_,rfl,qbp ⟨_,rfl,_,_,_,_,rfl,rfl,SqT.of ht,rfl,_,_,_,_,rfl,.int _,qhz,_,rfl,qbp ?_⟩⟩⟩
   refine ⟨_,rfl,qae (show 2 <= 100000 by decide),λt2 n2 => ?_⟩
   obtain ⟨s2,e2⟩:=alc (o:=.tup [.str (wS "rule"),.str (wS "unfit")]) n2
   generalize upd H1 t2 _=H2 at s2 e2 |-
   have ht2:=s2 _ _ ht
   refine ⟨_,_,rfl,.inr (SqT.of e2),rfl,rfl,_,rfl,qb7 ?_⟩
   exact ⟨_,rfl,_,_,_,_,rfl,rfl,SqT.of ht2,rfl,_,_,_,_,rfl,.int _,qf8,_,rfl,qb7 ⟨_,rfl,_,_,_,_,rfl,rfl,SqT.of ht2,rfl,_,rfl,rfl,by rw [decide_eq_true (rfl:(erF _).2=(erF _).2)]; exact k H2 (s1.trans s2)⟩⟩
theorem qti (T:Txt K mg a):FnOk P w K mg base CX0 1 a.nD a.fT ["_law_word"] spNm9:=by
 refine T.dH.fn.ok qmi (λvs H Q E h => ?_) (λcdv A outer s H vs Q E hr h => ?_)
 .obtain ⟨_,rfl,_⟩:=h
  all_goals rfl
 .obtain ⟨x,rfl,hx,k⟩:=h
  refine ⟨_,(qk (zj (PW.pt (qez (ze qqu (zn qav (by rfl) T.kI qat (qh (pv 0) qm qj)) qp (qad _)) (qej (ze qx8 (zn qav (by rfl) T.kI qat (qh (pv 0) qm qj)) qp (qad _))))) (qt (zb qd0)) qaf)
   (qk (qcr BL rfl (qm8 (pv 0)) (qap (i:=1) qmi.nd rfl (Az rfl)) (qt (zj (ze qm2 (pv 1) zp (by with_unfolding_all rfl)) (qt (zb qd0)) qaf)))
   (qt (zb qd0)))),?_⟩
  have hz:x.length <= A0:=qae (Au hx Ez)
  have k':Q (.bl (nmB x)) H:=k
  unfold nmB at k'
  refine ⟨_,rfl,_,_,rfl,⟨hz,rfl⟩,_,_,rfl,rfl,_,rfl,?_⟩
  refine qa6 (λc => ?_) (λc => ?_)
  .have c':(x.cps.size:Int) < 1:=of_decide_eq_true c
   rw [decide_eq_false (show ¬ 1 <= x.cps.size by lia),BP,BP] at k'
   exact qb7 k'
  have c':¬ (x.cps.size:Int) < 1:=λz=>c (decide_eq_true z)
  refine ⟨_,rfl,_,_,rfl,⟨hz,rfl⟩,_,_,rfl,rfl,_,rfl,?_⟩
  refine qa6 (λd => ?_) (λd => ?_)
  .have d':8 < (x.cps.size:Int):=of_decide_eq_true d
   rw [decide_eq_false (show ¬ x.cps.size <= 8 by lia),CQ,BP] at k'
   exact k'
  have d':¬ 8 < (x.cps.size:Int):=λz=>d (decide_eq_true z)
  rw [decide_eq_true (show 1 <= x.cps.size by lia),decide_eq_true (show x.cps.size <= 8 by lia),C2,C2] at k'
  refine ⟨_,rfl,_,rfl,qtz (x:=x) (λi σ H'=>H'=H/\∃ v:Option V,σ=[some (.str x),v]/\(x.cps.toList.take i).all low=true) ⟨rfl,none,rfl,rfl⟩ ?_ ?_⟩
  .rintro i c σ H' hc ⟨rfl,v,rfl,ha⟩
   have ec:x.cps.toList[i]?=some c:=by simpa using hc
   refine ⟨_,rfl,_,_,rfl,rfl,_,rfl,?_⟩
   show if (!(!(AM.Str.occurrences az ⟨#[c]⟩ 0 az.length 1).isEmpty))=true then _ else _
   rw [qxy]
   cases e:low c with
   | true =>
    refine qbp ⟨rfl,_,rfl,?_⟩
    rw [CD,ec,Ea,ha]
    simp [e]
   | false =>
    refine qb7 ?_
    have f:x.cps.toList.all low=false:=by
     rw [List.all_eq_false]
     exact ⟨c,Aw ec,by rw [e]; decide⟩
    rw [f] at k'
    exact k'
  .rintro σ H' ⟨rfl,v,rfl,ha⟩
   rw [Bs (by rw [AH]; exact A1 _)] at ha
   rw [ha] at k'
   exact k'
theorem qfw (T:Txt K mg a):FnOk P w K mg base CX0 1 a.hV a.lC ["_law_word", "_law_most"] spWt9:=by
 refine T.kR.fn.ok qng (λvs H Q E h => ?_) (λcdv A outer s H vs Q E hr h => ?_)
 .obtain ⟨_,_,rfl,_⟩:=h
  all_goals rfl
 .obtain ⟨x,m,rfl,hm,k⟩:=h
  refine ⟨_,(qt (zb (qc0 qef (pv 0) (qe0 (N:=["_law_k"]) (js:=[none]) (XN:=["_law_word", "_law_most"]) (xs:=qab qe3) rfl rfl rfl En (qru rfl T.kU (qh qp (qh (zg qba (pv 1) qp) qm zu) qz)) (λ_ _ _ _ _ _=>(qap (i:=0) (show Cd (["_law_k"]:List Str) from by decide +kernel) rfl (Az rfl) (CK rfl))) (λ_ _ _ _ _ _=>qc2) (λ_ _ _ _ _ _=>(qb9 qdk (by rfl) T.kX qd5 (qh (pv 0) qm qj)))) (by with_unfolding_all rfl)))),?_⟩
  have m40:1 <= m/\m <= 40:=by lia
  refine ⟨_,rfl,_,rfl,_,_,rfl,rfl,_,_,rfl,⟨Ez,Ez,by lia,by lia⟩,?_⟩
  refine qcb strV (λσ'=>∃ v,σ'=[v]) qe1 (qae (by rw [Ab,Cm]; lia)) ⟨none,rfl⟩ (λv σ' J RR' hv sm s4 qq => ?_) qcq λp2 n2 => ?_
  .obtain ⟨v0,rfl⟩:=s4
   obtain ⟨j,hj,rfl⟩:=AI.mp hv
   have hj:=Ct.mp hj
   exact ⟨_,rfl,_,rfl,qnp (by lia),qq [some (.int (1 + (j:Int)))] ⟨_,rfl⟩⟩
  have em:((Bh ((m:Int) + 1 - 1).toNat).map λi:Nat=>V.int (1 + (i:Int))).map strV=(qci m).map V.str:=by
   rw [show ((m:Int) + 1 - 1).toNat=m by lia]
   unfold qci
   rw [AR,AR]; rfl
  rw [em]
  obtain ⟨s2,e2⟩:=alc (o:=.lst ((qci m).map V.str)) n2
  generalize upd H p2 _=H2 at s2 e2 |-
  refine ⟨_,_,rfl,.inl (SqL.of e2),rfl,qff _,?_⟩
  have:=k H2 s2
  rw [<- num_in x hm,<- qcy] at this
  exact this
theorem qmy (T:Txt K mg a):FnOk P w K mg base CX0 2 a.lY a.mJ ["_law_words_here"] spGd9:=by
 refine T.gE.fn.ok qg1 (λvs H Q E h => ?_) (λcdv A outer s H vs Q E hr h => ?_)
 .obtain ⟨_,_,rfl,_⟩:=h
  all_goals rfl
 .obtain ⟨p,ws,rfl,hp,hne,hl,hz,k⟩:=h
  refine ⟨_,(qk (zf (i:=1) qg1.nd rfl (Az rfl) (qas qbe (pv 0) (qaq qp) qbd))
   (qk (zj (PW.pt (qc7 (ze qay (zy jb (pv 0) qp (λ_ _=>rfl)) zp (qad _)) (qcp (ze qay (zn qav (by rfl) T.kI qat (qh (pv 0) qm qj)) qp (qad _))))) (qk (zj (PW.pt (qez (ze (que hr.units0) (zq (qh (zy jb (pv 0) qp (λ_ _=>rfl)) (qh (zy jb (pv 0) qp (λ_ _=>rfl)) qm zw) zw)) (zq (qh zp (qh zp qm qz) qz)) (qad _)) (qej (ze qc1 (zy jb (pv 0) qp (λ_ _=>rfl)) (zr (qh zp (qh zp qm qz) qz)) (by with_unfolding_all rfl))))) (qt (zb qd0)) qaf)
   (qk (zj (PW.pt (qez (qd6 (zo (zm (qfw T) (hr.mono Ez) rfl T.kR.mgx T.kR.fn.kp T.kR.bd .nil qan (qh (zy jb (pv 0) qp (λ_ _=>rfl)) (qh qp qm qz) zw)))) (qej (ze qc1 (zy jb (pv 0) qp (λ_ _=>rfl)) (zr (qh zp (qh zp (qh zp qm qz) qz) qz)) (by with_unfolding_all rfl))))) (qt (zb qd0)) qaf)
   (qt (zf (i:=1) qg1.nd rfl (Az rfl) (zq (qh (zy jb (pv 0) qp (λ_ _=>rfl)) (qh (zy jb (pv 0) qp (λ_ _=>rfl)) (qh (zy jb (pv 0) qp (λ_ _=>rfl)) (qh (zy jb (pv 0) qp (λ_ _=>rfl)) qm zw) zw) zw) zw)))))) (qt (zj (PW.pt (qc7 (ze qay (zy jb (pv 0) qp (λ_ _=>rfl)) zp (qad _)) (qcp (ze qay (zn qav (by rfl) T.kI qat (qh (pv 0) qm qj)) qp (qad _))))) (qk (zj (PW.pt (qez (qd6 (zo (zm (qfw T) (hr.mono Ez) rfl T.kR.mgx T.kR.fn.kp T.kR.bd .nil qan (qh (zy jb (pv 0) qp (λ_ _=>rfl)) (qh qp qm qz) zw)))) (qez (ze qj5 (zy jb (pv 0) qp (λ_ _=>rfl)) zp (qad _)) (qej (qd6 (zo (zm (qfw T) (hr.mono Ez) rfl T.kR.mgx T.kR.fn.kp T.kR.bd .nil qan (qh (zy jb (pv 0) qp (λ_ _=>rfl)) (qh qp qm qz) zw)))))))) (qt (zb qd0)) qaf)
   (qt (zf (i:=1) qg1.nd rfl (Az rfl) (qas qbe (pv 0) (qaq qp) (qaq qp))))) (qt (zj (qd6 (PW.pt (qc7 (ze qay (zy jb (pv 0) qp (λ_ _=>rfl)) zp (qad _)) (qcp (ze qay (zn qav (by rfl) T.kI qat (qh (pv 0) qm qj)) qp (qad _)))))) (qt (zj (PW.pt (qez (ze qc1 (zy jb (pv 0) qp (λ_ _=>rfl)) (zr (qh zp (qh zp (qh zp qm qz) qz) qz)) (by with_unfolding_all rfl)) (qej (ze qj5 (zn qav (by rfl) T.kI qat (qh (pv 0) qm qj)) qp (qad _))))) (qt (zb qd0)) qaf)) qaf)))))
   (qt (zb (zn (qix rfl) (by rfl) T.dU qkt (qh (qe0 (N:=["_law_word"]) (js:=[none]) (XN:=["_law_words_here", "_law_names"]) (xs:=qab qia) rfl rfl rfl En (qb8 (pv 1)) (λ_ _ _ _ _ _=>(qap (i:=0) (show Cd (["_law_word"]:List Str) from by decide +kernel) rfl (Az rfl) (CK rfl))) (λ_ _ _ _ _ _=>qc2) (λ_ _ _ _ _ _=>(zm (qti T) (hr.mono Ez) rfl T.dH.mgx T.dH.fn.kp T.dH.bd .nil qan (qh (pv 0) qm qj)))) qm qh1)))))),?_⟩
  obtain ⟨w0,wt,ews⟩:∃ w0 wt,ws=w0 :: wt:=by
   cases ws with
   | nil=>exact absurd rfl hne
   | cons a b=>exact ⟨a,b,rfl⟩
  have h0:atI (ws.map V.str) 0=some (.str w0):=qaz (j:=0) (by rw [ews]; rfl)
  have l1:1 <= ws.length:=by rw [ews]; exact DC _
  have lm:(ws.map V.str).length=ws.length:=Ab _
  refine ⟨_,rfl,_,rfl,_,_,rfl,SqL.of hp,λp1 n1 => ?_⟩
  rw [show (1:Int)=((1:Nat):Int) from rfl,qeu _ 1 (by lia),<- Cs]
  obtain ⟨s1,e1⟩:=alc (o:=.lst ((ws.drop 1).map V.str)) n1
  generalize upd H p1 _=H1 at s1 e1 |-
  have hp1:=s1 _ _ hp
  apply qhd (p:=λH2 y=>Same H H2/\∃ (q:Addr) (ns:List Str),y=some (.ref q)/\H2 q=some (.lst (ns.map V.str))/\ns.length <= 1000/\(∀ z ∈ ns,z.length <= 2000)/\(qdp ws).isSome=ns.all nmB)
  .intro fin
   apply qmu (p:=λH3=>H3=H1/\¬ (w0=wS "term" /\ ws.length=10))
   intro fel
   refine ⟨_,rfl,_,_,_,_,rfl,rfl,SqL.of hp1,h0,rfl,_,rfl,qa6 (λc1 => ?_) (λc1 => ?_)⟩
   rotate_left
   exact qbp (fel H1 ⟨rfl,λz=>c1 (decide_eq_true (by rw [z.1]))⟩)
   rotate_left
   refine ⟨_,rfl,_,_,rfl,.inl ⟨_,SqL.of hp1,rfl⟩,rfl,_,rfl,qa6 (λc2 => ?_) (λc2 => ?_)⟩
   rotate_left
   exact fel H1 ⟨rfl,λz=>c2 (decide_eq_true (by rw [lm,z.2]; rfl))⟩
   .rintro H3 ⟨eH,nt⟩
    rw [eH]
    clear eH
    apply qmu (p:=λH3=>H3=H1/\¬ (w0=wS "longer" /\ ws.length=6))
    intro fel2
    refine ⟨_,rfl,_,_,_,_,rfl,rfl,SqL.of hp1,h0,rfl,_,rfl,qa6 (λc1 => ?_) (λc1 => ?_)⟩
    rotate_left
    exact qbp (fel2 H1 ⟨rfl,λz=>c1 (decide_eq_true (by rw [z.1]))⟩)
    rotate_left
    refine ⟨_,rfl,_,_,rfl,.inl ⟨_,SqL.of hp1,rfl⟩,rfl,_,rfl,qa6 (λc2 => ?_) (λc2 => ?_)⟩
    rotate_left
    exact fel2 H1 ⟨rfl,λz=>c2 (decide_eq_true (by rw [lm,z.2]; rfl))⟩
    .rintro H4 ⟨eH,nl⟩
     rw [eH]
     clear eH
     refine ⟨_,rfl,_,_,_,_,rfl,rfl,SqL.of hp1,h0,rfl,_,rfl,qa6 (λc1 => ?_) (λc1 => ?_)⟩
     .refine ⟨_,rfl,_,_,rfl,.inl ⟨_,SqL.of hp1,rfl⟩,rfl,_,rfl,qa6 (λc2 => ?_) (λc2 => ?_)⟩
      .have n4:¬ (w0=wS "still" /\ ws.length=4):=λz=>by
        rw [lm,z.2] at c2
        exact absurd c2 Ez
       refine ⟨_,rfl,_,_,_,_,rfl,rfl,SqL.of hp1,h0,qae (show 3 <= 100000 by decide),λt3 n3 => ?_⟩
       obtain ⟨s3,e3⟩:=alc (o:=.tup [.str (wS "ends"),.str (wS "anew"),.str (wS "yields")]) n3
       generalize upd H1 t3 _=H5 at s3 e3 |-
       have s15:=s1.trans s3
       have ein:inV (.str w0) ([wS "ends",wS "anew",wS "yields"].map V.str)=decide (w0=wS "ends" \/ w0=wS "anew" \/ w0=wS "yields"):=by
        rw [qcy,Dj]
        simp only [Ao,Ar,or_false]
       refine ⟨_,_,rfl,.inr (SqT.of e3),rfl,rfl,_,rfl,?_⟩
       refine qa6 (λc3 => ?_) (λc3 => ?_)
       all_goals have c3:=c3
       all_goals rw [if_pos rfl,show [V.str (wS "ends"),.str (wS "anew"),.str (wS "yields")]=[wS "ends",wS "anew",wS "yields"].map V.str from rfl,ein] at c3
       .have n3':¬ ((w0=wS "ends" \/ w0=wS "anew" \/ w0=wS "yields")/\ws.length=3):=λz=>by
         rw [decide_eq_true z.1] at c3
         exact absurd c3 Ez
        have:=k H5 s15
        rw [qg6 ews nt nl n4 n3'] at this
        exact qb7 this
       .have h3:w0=wS "ends" \/ w0=wS "anew" \/ w0=wS "yields" := by
         cases e:decide (w0=wS "ends" \/ w0=wS "anew" \/ w0=wS "yields") with
         | true=>exact of_decide_eq_true e
         | false=>rw [e] at c3; exact absurd rfl c3
        refine ⟨_,rfl,_,_,rfl,.inl ⟨_,SqL.of (s3 _ _ hp1),rfl⟩,rfl,_,rfl,qa6 (λc4 => ?_) (λc4 => ?_)⟩
        .have n3':¬ ((w0=wS "ends" \/ w0=wS "anew" \/ w0=wS "yields")/\ws.length=3):=λz=>by
          rw [lm,z.2] at c4
          exact absurd c4 Ez
         have:=k H5 s15
         rw [qg6 ews nt nl n4 n3'] at this
         exact this
        .have l3:ws.length=3:=by
          cases e:decide (V.int ((ws.map V.str).length:Int)=V.int 3) with
          | true=>have:=V.int.inj (of_decide_eq_true e); rw [lm] at this; lia
          | false=>rw [e] at c4; exact absurd rfl c4
         have qq:Same H H5/\∃ (q:Addr) (ns:List Str),some (V.ref p1)=some (.ref q)/\H5 q=some (.lst (ns.map V.str))/\ns.length <= 1000/\(∀ z ∈ ns,z.length <= 2000)/\(qdp ws).isSome=ns.all nmB:=⟨s15,p1,_,rfl,s3 _ _ e1,by rw [AB]; lia,λz hz'=>hz z (B5 hz'),qlb ews h3 l3⟩
         generalize (some (V.ref p1):Option V)=y at qq |-
         exact fin H5 y qq
      .have h4:ws.length=4:=by
        cases e:decide (V.int ((ws.map V.str).length:Int)=V.int 4) with
        | true=>have:=V.int.inj (of_decide_eq_true e); rw [lm] at this; lia
        | false=>rw [e] at c2; exact absurd rfl c2
       have qq:Same H H1/\∃ (q:Addr) (ns:List Str),some (V.ref p1)=some (.ref q)/\H1 q=some (.lst (ns.map V.str))/\ns.length <= 1000/\(∀ z ∈ ns,z.length <= 2000)/\(qdp ws).isSome=ns.all nmB:=⟨s1,p1,_,rfl,e1,by rw [AB]; lia,λz hz'=>hz z (B5 hz'),qqd ews (V.str.inj (of_decide_eq_true c1)) h4⟩
       exact fin H1 _ qq
     .refine qb7 ?_
      have n4:¬ (w0=wS "still" /\ ws.length=4):=λz=>c1 (decide_eq_true (by rw [z.1]))
      refine ⟨_,rfl,_,_,_,_,rfl,rfl,SqL.of hp1,h0,qae (show 3 <= 100000 by decide),λt3 n3 => ?_⟩
      obtain ⟨s3,e3⟩:=alc (o:=.tup [.str (wS "ends"),.str (wS "anew"),.str (wS "yields")]) n3
      generalize upd H1 t3 _=H5 at s3 e3 |-
      have s15:=s1.trans s3
      have ein:inV (.str w0) ([wS "ends",wS "anew",wS "yields"].map V.str)=decide (w0=wS "ends" \/ w0=wS "anew" \/ w0=wS "yields"):=by
       rw [qcy,Dj]
       simp only [Ao,Ar,or_false]
      refine ⟨_,_,rfl,.inr (SqT.of e3),rfl,rfl,_,rfl,?_⟩
      refine qa6 (λc3 => ?_) (λc3 => ?_)
      all_goals have c3:=c3
      all_goals rw [if_pos rfl,show [V.str (wS "ends"),.str (wS "anew"),.str (wS "yields")]=[wS "ends",wS "anew",wS "yields"].map V.str from rfl,ein] at c3
      .have n3':¬ ((w0=wS "ends" \/ w0=wS "anew" \/ w0=wS "yields")/\ws.length=3):=λz=>by
        rw [decide_eq_true z.1] at c3
        exact absurd c3 Ez
       have:=k H5 s15
       rw [qg6 ews nt nl n4 n3'] at this
       exact qb7 this
      .have h3:w0=wS "ends" \/ w0=wS "anew" \/ w0=wS "yields" := by
        cases e:decide (w0=wS "ends" \/ w0=wS "anew" \/ w0=wS "yields") with
        | true=>exact of_decide_eq_true e
        | false=>rw [e] at c3; exact absurd rfl c3
       refine ⟨_,rfl,_,_,rfl,.inl ⟨_,SqL.of (s3 _ _ hp1),rfl⟩,rfl,_,rfl,qa6 (λc4 => ?_) (λc4 => ?_)⟩
       .have n3':¬ ((w0=wS "ends" \/ w0=wS "anew" \/ w0=wS "yields")/\ws.length=3):=λz=>by
         rw [lm,z.2] at c4
         exact absurd c4 Ez
        have:=k H5 s15
        rw [qg6 ews nt nl n4 n3'] at this
        exact this
       .have l3:ws.length=3:=by
         cases e:decide (V.int ((ws.map V.str).length:Int)=V.int 3) with
         | true=>have:=V.int.inj (of_decide_eq_true e); rw [lm] at this; lia
         | false=>rw [e] at c4; exact absurd rfl c4
        have qq:Same H H5/\∃ (q:Addr) (ns:List Str),some (V.ref p1)=some (.ref q)/\H5 q=some (.lst (ns.map V.str))/\ns.length <= 1000/\(∀ z ∈ ns,z.length <= 2000)/\(qdp ws).isSome=ns.all nmB:=⟨s15,p1,_,rfl,s3 _ _ e1,by rw [AB]; lia,λz hz'=>hz z (B5 hz'),qlb ews h3 l3⟩
        generalize (some (V.ref p1):Option V)=y at qq |-
        exact fin H5 y qq
    .have c1:w0=wS "longer" := V.str.inj (of_decide_eq_true c1)
     have l6:ws.length=6:=by have:=V.int.inj (of_decide_eq_true c2); rw [lm] at this; lia
     obtain ⟨wa,wb,wc,wd,we,wf,e6⟩:=six l6
     have h3:atI (ws.map V.str) 3=some (.str wd):=qaz (j:=3) (by rw [e6]; rfl)
     have h4:atI (ws.map V.str) 4=some (.str we):=qaz (j:=4) (by rw [e6]; rfl)
     have h5:atI (ws.map V.str) 5=some (.str wf):=qaz (j:=5) (by rw [e6]; rfl)
     have gl:=qo8 ews c1 e6
     refine ⟨_,rfl,_,_,_,_,rfl,rfl,SqL.of hp1,h3,_,20,rfl,.inr (.inl rfl),λH5 s5 => ?_⟩
     refine ⟨_,rfl,qa6 (λc3 => ?_) (λc3 => ?_)⟩
     .have:=k H5 (s1.trans s5)
      rw [gl,(qs4 c3:due wd 20=false)] at this
      exact qb7 this
     rw [(qs5 c3:due wd 20=true)] at gl
     refine ⟨_,rfl,_,_,_,_,rfl,rfl,SqL.of (s5 _ _ hp1),h4,rfl,_,rfl,qa6 (λc4 => ?_) (λc4 => ?_)⟩
     .have:=k H5 (s1.trans s5)
      rw [gl,decide_eq_false (nd_t c4)] at this
      exact qb7 this
     rw [decide_eq_true (nd_f c4)] at gl
     refine ⟨_,rfl,_,_,_,_,rfl,rfl,SqL.of (s5 _ _ hp1),h5,_,3,rfl,.inr (.inr rfl),λH6 s6=>⟨_,rfl,qa6 (λc5 => ?_) (λc5 => ?_)⟩⟩
     .have:=k H6 ((s1.trans s5).trans s6)
      rw [gl,(qs4 c5:due wf 3=false)] at this
      exact this
     rw [(qs5 c5:due wf 3=true)] at gl
     refine ⟨_,rfl,_,rfl,_,rfl,_,_,rfl,SqL.of (s6 _ _ (s5 _ _ hp1)),λp9 n9 => ?_⟩
     rw [show qfl (ws.map V.str) (some ((1:Nat):Int)) (some 3)=[wb,wc].map V.str by rw [e6]; rfl]
     exact fin _ _ ⟨((s1.trans s5).trans s6).trans (zh n9),p9,[wb,wc],rfl,qu,Bz rfl,λz hz'=>hz z (by rw [e6]; simp only [Ao,Ar,or_false] at hz' |-; rcases hz' with h | h <;> simp [h]),gl⟩
   .have c1:w0=wS "term" := V.str.inj (of_decide_eq_true c1)
    have l6:ws.length=10:=by have:=V.int.inj (of_decide_eq_true c2); rw [lm] at this; lia
    obtain ⟨wa,wx,wb,ww,wc,wo,wd,wy,wm,wu,e6⟩:=ten l6
    have a1:atI (ws.map V.str) 1=some (.str wx):=qaz (j:=1) (by rw [e6]; rfl)
    have a2:atI (ws.map V.str) 2=some (.str wb):=qaz (j:=2) (by rw [e6]; rfl)
    have a3:atI (ws.map V.str) 3=some (.str ww):=qaz (j:=3) (by rw [e6]; rfl)
    have a4:atI (ws.map V.str) 4=some (.str wc):=qaz (j:=4) (by rw [e6]; rfl)
    have a5:atI (ws.map V.str) 5=some (.str wo):=qaz (j:=5) (by rw [e6]; rfl)
    have a6:atI (ws.map V.str) 6=some (.str wd):=qaz (j:=6) (by rw [e6]; rfl)
    have a7:atI (ws.map V.str) 7=some (.str wy):=qaz (j:=7) (by rw [e6]; rfl)
    have a8:atI (ws.map V.str) 8=some (.str wm):=qaz (j:=8) (by rw [e6]; rfl)
    have a9:atI (ws.map V.str) 9=some (.str wu):=qaz (j:=9) (by rw [e6]; rfl)
    have gl:=qs6 ews c1 e6
    refine ⟨_,rfl,_,_,_,_,rfl,rfl,SqL.of hp1,a2,_,rfl,_,_,_,_,rfl,rfl,SqL.of hp1,a4,qae (show 2 <= 100000 by decide),λq1 m1 => ?_⟩
    obtain ⟨t1,g1⟩:=alc (o:=.lst [.str wb,.str wc]) m1
    generalize upd H1 q1 _=H5 at t1 g1 |-
    refine ⟨qae (show 2 <= 100000 by decide),λq2 m2 => ?_⟩
    obtain ⟨t2,g2⟩:=alc (o:=.lst [.str (wS "of"),.str (wS "due")]) m2
    generalize upd H5 q2 _=H6 at t2 g2 |-
    have hp6:=t2 _ _ (t1 _ _ hp1)
    have s16:=(s1.trans t1).trans t2
    refine ⟨_,_,_,_,rfl,rfl,SqL.of (t2 _ _ g1),SqL.of g2,rfl,rfl,_,rfl,?_⟩
    refine qa6 (λc3 => ?_) (λc3 => ?_)
    .have c3:=qs4 c3
     rw [eq2S] at c3
     have:=k H6 s16
     rw [gl,c3] at this
     exact qb7 this
    have c3:=qs5 c3
    rw [eq2S] at c3
    rw [c3] at gl
    refine ⟨_,rfl,_,_,_,_,rfl,rfl,SqL.of hp6,a6,qae (show 2 <= 100000 by decide),λq3 m3 => ?_⟩
    obtain ⟨t3,g3⟩:=alc (o:=.tup [.str (wS "from"),.str (wS "behind")]) m3
    generalize upd H6 q3 _=H7 at t3 g3 |-
    have hp7:=t3 _ _ hp6
    have s17:=s16.trans t3
    refine ⟨_,_,rfl,.inr (SqT.of g3),rfl,rfl,_,rfl,qa6 (λc4 => ?_) (λc4 => ?_)⟩
    .have:=k H7 s17
     rw [gl,<- qxz,(qs4 c4:inV (.str wd) ([wS "from",wS "behind"].map V.str)=false)] at this
     exact this
    rw [<- qxz,(qs5 c4:inV (.str wd) ([wS "from",wS "behind"].map V.str)=true)] at gl
    refine ⟨_,rfl,_,_,_,_,rfl,rfl,SqL.of hp7,a8,_,40,rfl,.inl rfl,λH8 s8=>⟨_,rfl,qa6 (λc5 => ?_) (λc5 => ?_)⟩⟩
    .have:=k H8 (s17.trans s8)
     rw [gl,(qs4 c5:due wm 40=false)] at this
     exact qb7 this
    rw [(qs5 c5:due wm 40=true)] at gl
    have hp8:=s8 _ _ hp7
    refine ⟨_,rfl,_,_,_,_,rfl,rfl,SqL.of hp8,a9,qae (show 3 <= 100000 by decide),λq4 m4 => ?_⟩
    obtain ⟨t4,g4⟩:=alc (o:=.tup [.str (wS "days"),.str (wS "weeks"),.str (wS "court")]) m4
    generalize upd H8 q4 _=H9 at t4 g4 |-
    have hp9:=t4 _ _ hp8
    have s19:=(s17.trans s8).trans t4
    refine ⟨_,_,rfl,.inr (SqT.of g4),rfl,rfl,_,rfl,qa6 (λc6 => ?_) (λc6 => ?_)⟩
    .have:=k H9 s19
     rw [gl,<- qcy,(qs4 c6:inV (.str wu) (qbv.map V.str)=false)] at this
     exact this
    rw [<- qcy,(qs5 c6:inV (.str wu) (qbv.map V.str)=true)] at gl
    refine ⟨_,rfl,_,_,_,_,rfl,rfl,SqL.of hp9,a1,_,rfl,_,_,_,_,rfl,rfl,SqL.of hp9,a3,_,rfl,_,_,_,_,rfl,rfl,SqL.of hp9,a5,_,rfl,_,_,_,_,rfl,rfl,SqL.of hp9,a7,qae (show 4 <= 100000 by decide),λq5 m5 => ?_⟩
    exact fin _ _ ⟨s19.trans (zh m5),q5,[wx,ww,wo,wy],rfl,qu,Bz rfl,λz hz'=>hz z (by rw [e6]; simp only [Ao,Ar,or_false] at hz' |-; rcases hz' with h | h | h | h <;> simp [h]),gl⟩
  rintro H2 y ⟨s2,q,ns,rfl,hq,ln,hn,er⟩
  refine ⟨_,rfl,_,rfl,⟨_,SqL.of hq⟩,?_⟩
  refine qcb nmV9 (λσ'=>∃ v,σ'=[v]) (qcu (K:=K) (SqL.of hq)) (qae (by rw [Ab]; lia)) ⟨none,rfl⟩ (λv σ' J RR' hv sm s4 qq => ?_) qcq λp3 n3 => ?_
  .obtain ⟨v0,rfl⟩:=s4
   obtain ⟨z,hz',rfl⟩:=AI.mp hv
   exact ⟨_,rfl,z,rfl,hn z hz',qq [some (.str z)] ⟨_,rfl⟩⟩
  rw [show (ns.map V.str).map nmV9=(ns.map nmB).map V.bl by rw [AR,AR]; rfl]
  obtain ⟨s3,e3⟩:=alc (o:=.lst ((ns.map nmB).map V.bl)) n3
  generalize upd H2 p3 _=H3 at s3 e3 |-
  refine ⟨p3,ns.map nmB,rfl,SqL.of e3,?_⟩
  have:=k H3 (s2.trans s3)
  rw [er] at this
  rw [CY]
  exact this
theorem qpc (T:Txt K mg a):FnOk P w K mg base CX0 1 a.nF a.lW ["_law_words_here", "_law_way", "_law_cell"] spSp9:=by
 refine T.bA.fn.ok qa1 (λvs H Q E h => ?_) (λcdv A outer s H vs Q E hr h => ?_)
 .obtain ⟨_,_,_,_,rfl,_⟩:=h
  all_goals rfl
 .obtain ⟨p,ws,wy,c,rfl,hp,hne,hl,hz,w8,k⟩:=h
  refine ⟨_,(qk (zf (i:=3) qa1.nd rfl (Az rfl) (zg qal (pv 2) (zn qav (by rfl) T.kI qat (qh (pv 0) qm qj))))
   (qk (zf (i:=4) qa1.nd rfl (Az rfl) (zy jb (pv 0) (pv 3) (λ_ _=>rfl)))
   (qk (zf (i:=5) qa1.nd rfl (Az rfl) (zg qal (zg qa8 (pv 2) qp) (zg qba (zn qav (by rfl) T.kI qat (qh (pv 4) qm qj)) qp)))
   (qk (zf (i:=6) qa1.nd rfl (Az rfl) (zy qpk zp (zg qal (zg qa8 (pv 2) qp) qp) (λ_ _=>rfl)))
   (qk (zf (i:=7) qa1.nd rfl (Az rfl) (zq (qh zp (qh zp (qh zp (qh zp (qh zp (qh zp (qh zp (qh zp (qh zp (qh zp (qh zp (qh zp qm qz) qz) qz) qz) qz) qz) qz) qz) qz) qz) qz) qz)))
   (qk (zf (i:=7) qa1.nd rfl (Az rfl) (zg qbi (pv 7) (zq (qh zp (qh zp (qh zp (qh zp (qh zp (qh zp (qh zp (qh zp qm qz) qz) qz) qz) qz) qz) qz) qz))))
   (qk (zf (i:=7) qa1.nd rfl (Az rfl) (zg qbi (pv 7) (zq (qh zp (qh zp (qh zp (qh zp (qh zp (qh zp qm qz) qz) qz) qz) qz) qz))))
   (qk (zf (i:=8) qa1.nd rfl (Az rfl) (zq (qh (zy jb (zg qbi (pv 7) (zq (qh zp qm qz))) (zg qal (zg qa8 (pv 2) qp) qp) (λ_ _=>rfl)) qm zw)))
   (qk (zj (ze qay (pv 1) qp (qad _)) (qt (zf (i:=8) qa1.nd rfl (Az rfl) (zq qm))) qaf)
   (qk (zj (ze qay (pv 1) qp (qad _)) (qt (zf (i:=8) qa1.nd rfl (Az rfl) (zq (qh (pv 4) (qh (pv 4) qm qj) qj)))) qaf)
   (qk (zj (ze qay (pv 1) qp (qad _)) (qt (zf (i:=8) qa1.nd rfl (Az rfl) (zq (qh zp (qh (pv 4) qm qj) qz)))) qaf)
   (qk (zj (ze qay (pv 1) qp (qad _)) (qt (zf (i:=8) qa1.nd rfl (Az rfl) (zq (qh (zg qac (zg qac (qas qhi (pv 4) qbd (qaq (pv 5))) (pv 6)) (qas qhi (pv 4) (qaq (pv 5)) qbd)) qm zu)))) qaf)
   (qk (zj (ze qay (pv 1) qp (qad _)) (qt (zf (i:=8) qa1.nd rfl (Az rfl) (zq (qh (zg qac (zg qac (qas qhi (pv 4) qbd (qaq (pv 5))) (pv 6)) (qas qhi (pv 4) (qaq (zg qba (pv 5) qp)) qbd)) qm zu)))) qaf)
   (qk (zj (PW.pt (qc7 (ze qay (pv 1) qp (qad _)) (qcp (ze qay (zn qav (by rfl) T.kI qat (qh (pv 0) qm qj)) qp (qad _))))) (qt (zf (i:=3) qa1.nd rfl (Az rfl) (zy jb (zq (qh qp (qh qp (qh qp (qh qp (qh qp (qh qp qm qz) qz) qz) qz) qz) qz)) (zg qal (pv 2) qp) (λ_ _=>rfl)))) qaf)
   (qk (zj (PW.pt (qc7 (ze qay (pv 1) qp (qad _)) (qcp (ze qay (zn qav (by rfl) T.kI qat (qh (pv 0) qm qj)) qp (qad _))))) (qt (zf (i:=3) qa1.nd rfl (Az rfl) (zg qba qp (zg qal (pv 2) qp)))) qaf)
   (qk (zj (ze qqu (pv 1) qp (qad _)) (qt (zb (zg qbi (zg qbi (qas qbe (pv 0) qbd (qaq (pv 3))) (pv 8)) (qas qbe (pv 0) (qaq (zg qba (pv 3) qp)) qbd)))) qaf)
   (qk (zj (ze qay (zg qal (pv 2) qp) qp (qad _)) (qt (zb (zg qbi (pv 0) (zq (qh (zy jb (zq (qh zp (qh zp (qh zp qm qz) qz) qz)) (zg qal (zg qa8 (pv 2) qp) qp) (λ_ _=>rfl)) qm zw))))) qaf)
   (qt (zb (zq (qh (zy jb (zq (qh zp (qh zp (qh zp (qh zp qm qz) qz) qz) qz)) (zg qal (zg qa8 (pv 2) qp) qp) (λ_ _=>rfl)) qm zw))))))))))))))))))))),?_⟩
  have l1:1 <= ws.length:=Ed.mpr hne
  have lm:(ws.map V.str).length=ws.length:=Ab _
  obtain ⟨j,ej,jn⟩:∃ j:Nat,c % (((ws.map V.str).length:Nat):Int)=(j:Int)/\j < ws.length:=by
   rw [lm]
   exact md c ws.length l1
  have aj:atI (ws.map V.str) (j:Int)=some (.str ws[j]):=qaz (by rw [An,Aj jn]; rfl)
  have wz:=hz ws[j] (Bv jn)
  refine ⟨_,rfl,_,rfl,_,_,rfl,.inl ⟨_,SqL.of hp,rfl⟩,_,_,rfl,rfl,pos (by rw [lm]; lia),?_⟩
  dsimp only []
  rw [ej]
  generalize ws[j]=wd at aj wz
  have lw:wd.length <= 8:=wz.1
  refine ⟨_,rfl,_,rfl,_,_,_,_,rfl,rfl,SqL.of hp,aj,_,rfl,_,_,rfl,rfl,⟨Ez,Ez⟩,_,rfl,_,_,rfl,⟨qae (Au lw Ez),rfl⟩,_,_,rfl,rfl,_,_,rfl,rfl,pos (by lia),?_⟩
  dsimp only []
  obtain ⟨n,en,nn⟩:∃ n:Nat,c / 11 % ((wd.length:Int) + 1)=(n:Int)/\n < wd.length + 1:=md _ (wd.length + 1) (DC _)
  rw [en]
  obtain ⟨sj,es,hs⟩:∃ n:Nat,c / 97 % 12=(n:Int)/\n < 12:=md _ 12 Ez
  obtain ⟨sc,as,os⟩:=sg_at hs
  refine ⟨_,rfl,_,_,rfl,rfl,⟨Ez,Ez⟩,_,_,rfl,rfl,(pos Ez),_,_,_,rfl,rfl,qae qvx.2.2,(show atI sgT.cps.toList (c / 97 % 12)=_ by rw [es]; exact as),?_⟩
  generalize (⟨#[sc]⟩:Str)=sg at os |-
  refine ⟨qae (show 12 <= 100000 by decide),λq1 n1 => ?_⟩
  generalize hh:upd H q1 _=H1
  obtain ⟨s1,e1⟩:=alg hh n1
  clear hh
  refine ⟨_,rfl,qae (show 8 <= 100000 by decide),λq2 n2 => ?_⟩
  generalize hh:upd H1 q2 _=H2
  obtain ⟨s2,e2⟩:=alg hh n2
  clear hh
  refine ⟨_,_,_,_,rfl,rfl,s2 _ _ e1,e2,qae (show 20 <= 100000 by decide),λq3 n3 => ?_⟩
  generalize hh:upd H2 q3 _=H3
  obtain ⟨s3,e3⟩:=alg hh n3
  clear hh
  refine ⟨_,rfl,qae (show 6 <= 100000 by decide),λq4 n4 => ?_⟩
  generalize hh:upd H3 q4 _=H4
  obtain ⟨s4,e4⟩:=alg hh n4
  clear hh
  refine ⟨_,_,_,_,rfl,rfl,s4 _ _ e3,e4,qae (show 26 <= 100000 by decide),λq5 n5 => ?_⟩
  generalize hh:upd H4 q5 _=H5
  obtain ⟨s5,e5⟩:=alg hh n5
  clear hh
  refine ⟨_,rfl,qae (show 1 <= 100000 by decide),λq6 n6 => ?_⟩
  generalize hh:upd H5 q6 _=H6
  obtain ⟨s6,e6⟩:=alg hh n6
  clear hh
  refine ⟨_,_,_,_,rfl,rfl,s6 _ _ e5,e6,qae (show 27 <= 100000 by decide),λq7 n7 => ?_⟩
  generalize hh:upd H6 q7 _=H7
  obtain ⟨s7,e7⟩:=alg hh n7
  clear hh
  have e7:H7 q7=some (.lst (oddL.map V.str)):=e7
  have s17:Same H H7:=s1.trans (s2.trans (s3.trans (s4.trans (s5.trans (s6.trans s7)))))
  obtain ⟨oj,eo,ho⟩:∃ n:Nat,c / 11 % 27=(n:Int)/\n < 27:=md _ 27 Ez
  obtain ⟨ox,ao,oo⟩:=qqe odd_ok ho
  refine ⟨_,rfl,_,_,rfl,rfl,⟨Ez,Ez⟩,_,_,rfl,rfl,(pos Ez),_,_,_,_,rfl,rfl,SqL.of e7,(show atI (oddL.map V.str) (c / 11 % 27)=_ by rw [eo]; exact ao),qae (show 1 <= 100000 by decide),λq n8 => ?_⟩
  dsimp only [List.set_cons_succ,List.set_cons_zero]
  generalize hh:upd H7 q _=H8
  obtain ⟨s,hq⟩:=alg hh n8
  clear hh
  have s:Same H H8:=s17.trans s
  have lq:[ox].length <= 2:=Bz rfl
  have oq:=qlc oo
  have hq:H8 q=some (.lst ([ox].map V.str)):=hq
  clear s17 e7 s1 s2 s3 s4 s5 s6 s7 e1 e2 e3 e4 e5 e6
  generalize [ox]=ss at lq oq hq
  clear n8 n7
  show qrs _ _ _ [some (.ref p),some (.int (wy:Int)),some (.int c),some (.int (j:Int)),some (.str wd),some (.int (n:Int)),some (.str sg),some (.ref q5),some (.ref q)] H8
  apply qhd (p:=qlu H)
  .intro fin
   refine ⟨_,rfl,rfl,_,rfl,qa6 (λc1 => ?_) (λc1 => ?_)⟩
   .refine ⟨qae (show 0 <= 100000 by decide),λq1 m1 => ?_⟩
    generalize hh:upd H8 q1 _=J
    obtain ⟨t1,g1⟩:=alg hh m1
    clear hh
    have fi:qlu H J (some (.ref q1)):=⟨s.trans t1,q1,[],rfl,g1,Bz rfl,(λz hz=>nomatch hz)⟩
    show qfx _ [some (.ref p),some (.int (wy:Int)),some (.int c),some (.int (j:Int)),some (.str wd),some (.int (n:Int)),some (.str sg),some (.ref q5),some (.ref q1)] J
    generalize (some (V.ref q1):Option V)=y at fi |-
    exact fin J y fi
   .exact fin H8 _ ⟨s,q,ss,rfl,hq,lq,oq⟩
  clear s hq oq lq
  rintro H10 y ⟨s,q,ss,rfl,hq,lq,oq⟩
  apply qhd (p:=qlu H)
  .intro fin
   refine ⟨_,rfl,rfl,_,rfl,qa6 (λc1 => ?_) (λc1 => ?_)⟩
   .refine ⟨_,rfl,_,rfl,qae (show 2 <= 100000 by decide),λq1 m1 => ?_⟩
    generalize hh:upd H10 q1 _=J
    obtain ⟨t1,g1⟩:=alg hh m1
    clear hh
    have fi:qlu H J (some (.ref q1)):=⟨s.trans t1,q1,[wd,wd],rfl,g1,Bz rfl,(qvy wz.up wz.up)⟩
    show qfx _ [some (.ref p),some (.int (wy:Int)),some (.int c),some (.int (j:Int)),some (.str wd),some (.int (n:Int)),some (.str sg),some (.ref q5),some (.ref q1)] J
    generalize (some (V.ref q1):Option V)=y at fi |-
    exact fin J y fi
   .exact fin H10 _ ⟨s,q,ss,rfl,hq,lq,oq⟩
  clear s hq oq lq
  rintro H11 y ⟨s,q,ss,rfl,hq,lq,oq⟩
  apply qhd (p:=qlu H)
  .intro fin
   refine ⟨_,rfl,rfl,_,rfl,qa6 (λc1 => ?_) (λc1 => ?_)⟩
   .refine ⟨_,rfl,qae (show 2 <= 100000 by decide),λq1 m1 => ?_⟩
    generalize hh:upd H11 q1 _=J
    obtain ⟨t1,g1⟩:=alg hh m1
    clear hh
    have fi:qlu H J (some (.ref q1)):=⟨s.trans t1,q1,[wS "",wd],rfl,g1,Bz rfl,(qvy emp_ok wz.up)⟩
    show qfx _ [some (.ref p),some (.int (wy:Int)),some (.int c),some (.int (j:Int)),some (.str wd),some (.int (n:Int)),some (.str sg),some (.ref q5),some (.ref q1)] J
    generalize (some (V.ref q1):Option V)=y at fi |-
    exact fin J y fi
   .exact fin H11 _ ⟨s,q,ss,rfl,hq,lq,oq⟩
  clear s hq oq lq
  rintro H12 y ⟨s,q,ss,rfl,hq,lq,oq⟩
  apply qhd (p:=qlu H)
  .intro fin
   refine ⟨_,rfl,rfl,_,rfl,qa6 (λc1 => ?_) (λc1 => ?_)⟩
   .refine ⟨_,rfl,_,rfl,_,rfl,_,rfl,qae (Au lw Ez),_,rfl,_,_,rfl,rfl,qae (hl0 (wz.slice _ _).up.1 os.up.1),_,rfl,_,rfl,_,rfl,_,rfl,qae (Au lw Ez),_,_,rfl,rfl,qae (hl0 ((wz.slice _ _).app os).up.1 (wz.slice _ _).up.1),qae (show 1 <= 100000 by decide),λq1 m1 => ?_⟩
    generalize hh:upd H12 q1 _=J
    obtain ⟨t1,g1⟩:=alg hh m1
    clear hh
    have fi:qlu H J (some (.ref q1)):=⟨s.trans t1,q1,[Cw wd none (some (n:Int)) ++ sg ++ Cw wd (some (n:Int)) none],rfl,g1,Bz rfl,(qlc (((wz.slice _ _).app os).app (wz.slice _ _)))⟩
    show qfx _ [some (.ref p),some (.int (wy:Int)),some (.int c),some (.int (j:Int)),some (.str wd),some (.int (n:Int)),some (.str sg),some (.ref q5),some (.ref q1)] J
    generalize (some (V.ref q1):Option V)=y at fi |-
    exact fin J y fi
   .exact fin H12 _ ⟨s,q,ss,rfl,hq,lq,oq⟩
  clear s hq oq lq
  rintro H13 y ⟨s,q,ss,rfl,hq,lq,oq⟩
  apply qhd (p:=qlu H)
  .intro fin
   refine ⟨_,rfl,rfl,_,rfl,qa6 (λc1 => ?_) (λc1 => ?_)⟩
   .refine ⟨_,rfl,_,rfl,_,rfl,_,rfl,qae (Au lw Ez),_,rfl,_,_,rfl,rfl,qae (hl0 (wz.slice _ _).up.1 os.up.1),_,rfl,_,rfl,_,_,rfl,rfl,_,rfl,_,rfl,qae (Au lw Ez),_,_,rfl,rfl,qae (hl0 ((wz.slice _ _).app os).up.1 (wz.slice _ _).up.1),qae (show 1 <= 100000 by decide),λq1 m1 => ?_⟩
    generalize hh:upd H13 q1 _=J
    obtain ⟨t1,g1⟩:=alg hh m1
    clear hh
    have fi:qlu H J (some (.ref q1)):=⟨s.trans t1,q1,[Cw wd none (some (n:Int)) ++ sg ++ Cw wd (some ((n:Int) + 1)) none],rfl,g1,Bz rfl,(qlc (((wz.slice _ _).app os).app (wz.slice _ _)))⟩
    show qfx _ [some (.ref p),some (.int (wy:Int)),some (.int c),some (.int (j:Int)),some (.str wd),some (.int (n:Int)),some (.str sg),some (.ref q5),some (.ref q1)] J
    generalize (some (V.ref q1):Option V)=y at fi |-
    exact fin J y fi
   .exact fin H13 _ ⟨s,q,ss,rfl,hq,lq,oq⟩
  clear s hq oq lq
  rintro H14 y ⟨s,q,ss,rfl,hq,lq,oq⟩
  apply qhd (p:=λJ y=>Same H14 J/\∃ i:Nat,y=some (.int (i:Int))/\i < ws.length)
  .intro fin
   refine ⟨_,rfl,rfl,_,rfl,qa6 (λc1 => ?_) (λc1 => ?_)⟩
   .refine ⟨_,rfl,_,_,rfl,.inl ⟨_,SqL.of (s _ _ hp),rfl⟩,rfl,_,rfl,qa6 (λc2 => ?_) (λc2 => ?_)⟩
    .have l10:ws.length=10:=by have:=V.int.inj (of_decide_eq_true c2); rw [lm] at this; lia
     obtain ⟨k6,e6,h6⟩:∃ n:Nat,c % 6=(n:Int)/\n < 6:=md _ 6 Ez
     obtain ⟨v6,a6,g6⟩:=six_at h6
     refine ⟨qae (show 6 <= 100000 by decide),λq1 m1 => ?_⟩
     generalize hh:upd H14 q1 _=J
     obtain ⟨t1,g1⟩:=alg hh m1
     clear hh
     refine ⟨_,rfl,_,_,rfl,rfl,(pos Ez),_,_,_,_,rfl,rfl,SqL.of g1,(show atI _ (c % 6)=_ by rw [e6]; exact a6),?_⟩
     have fi:Same H14 J/\∃ i:Nat,some (V.int (v6:Int))=some (.int (i:Int))/\i < ws.length:=⟨t1,v6,rfl,by rw [l10]; exact g6⟩
     show qfx _ [some (.ref p),some (.int (wy:Int)),some (.int c),some (.int (v6:Int)),some (.str wd),some (.int (n:Int)),some (.str sg),some (.ref q5),some (.ref q)] J
     generalize (some (V.int (v6:Int)):Option V)=y at fi |-
     exact fin J y fi
    .exact fin H14 _ ⟨λ_ _ z=>z,j,rfl,jn⟩
   .exact qbp (fin H14 _ ⟨λ_ _ z=>z,j,rfl,jn⟩)
  clear ej aj jn j
  rintro H15 y ⟨t15,j,rfl,jn⟩
  have s15:=s.trans t15
  have hq5:=t15 _ _ hq
  clear t15 hq s
  apply useO (p:=λy=>∃ i:Nat,y=some (.int (i:Int))/\i < ws.length)
  .intro fin
   refine ⟨_,rfl,rfl,_,rfl,qa6 (λc1 => ?_) (λc1 => ?_)⟩
   .refine ⟨_,rfl,_,_,rfl,.inl ⟨_,SqL.of (s15 _ _ hp),rfl⟩,rfl,_,rfl,qa6 (λc2 => ?_) (λc2 => ?_)⟩
    .have l10:ws.length=6:=by have:=V.int.inj (of_decide_eq_true c2); rw [lm] at this; lia
     obtain ⟨k6,e6,h6⟩:∃ n:Nat,c % 3=(n:Int)/\n < 3:=md _ 3 Ez
     refine ⟨_,rfl,_,_,rfl,rfl,(pos Ez),_,_,rfl,rfl,?_⟩
     have fi:∃ i:Nat,some (V.int (3 + c % 3))=some (.int (i:Int))/\i < ws.length:=⟨3 + k6,by rw [e6]; rfl,by lia⟩
     show qfx _ [some (.ref p),some (.int (wy:Int)),some (.int c),some (.int (3 + c % 3)),some (.str wd),some (.int (n:Int)),some (.str sg),some (.ref q5),some (.ref q)] H15
     generalize (some (V.int (3 + c % 3)):Option V)=y at fi |-
     exact fin y fi
    .exact fin _ ⟨j,rfl,jn⟩
   .exact qbp (fin _ ⟨j,rfl,jn⟩)
  clear jn j
  rintro y ⟨j,rfl,jn⟩
  have hp5:=s15 _ _ hp
  refine ⟨_,rfl,_,_,rfl,rfl,_,rfl,qa6 (λc1 => ?_) (λc1 => ?_)⟩
  .refine ⟨_,rfl,_,rfl,_,rfl,_,_,rfl,SqL.of hp5,λi1 k1 => ?_⟩
   rw [qgk _ j (by rw [lm]; lia),<- B7]
   generalize hh:upd H15 i1 _=J1
   obtain ⟨t1,g1⟩:=alg hh k1
   clear hh
   refine ⟨_,rfl,_,_,_,_,rfl,rfl,g1,t1 _ _ hq5,qae (by rw [Ab,Ab,Ap]; lia),λi2 k2 => ?_⟩
   rw [<- Ay]
   generalize hh:upd J1 i2 _=J2
   obtain ⟨t2,g2⟩:=alg hh k2
   clear hh
   refine ⟨_,rfl,_,rfl,_,_,rfl,rfl,_,rfl,_,_,rfl,SqL.of (t2 _ _ (t1 _ _ hp5)),λi3 k3 => ?_⟩
   rw [show (j:Int) + 1=((j + 1:Nat):Int) from rfl,qeu _ (j + 1) (by rw [lm]; lia),<- Cs]
   generalize hh:upd J2 i3 _=J3
   obtain ⟨t3,g3⟩:=alg hh k3
   clear hh
   refine ⟨_,_,_,_,rfl,rfl,t3 _ _ g2,g3,qae (by rw [Ab,Ab,Ag,Ap,AB]; lia),λi4 k4 => ?_⟩
   rw [<- Ay]
   refine k i4 _ _ (s15.trans (t1.trans (t2.trans (t3.trans (zh k4))))) qu (by rw [Ag,Ag,Ap,AB]; lia) λz hz' => ?_
   rcases Ax.mp hz' with h | h
   .rcases Ax.mp h with h | h
    .exact (hz z (Bu h)).up
    .exact oq z h
   .exact (hz z (B5 h)).up
  refine ⟨_,rfl,_,_,rfl,rfl,(pos Ez),rfl,_,rfl,qa6 (λc2 => ?_) (λc2 => ?_)⟩
  .obtain ⟨x3,ex,hx⟩:∃ n:Nat,c / 2 % 3=(n:Int)/\n < 3:=md _ 3 Ez
   obtain ⟨x,ax,xo⟩:=qqe (L:=[wS "",wS "a",wS "\t"]) (b:=17) En hx
   refine ⟨_,rfl,qae (show 3 <= 100000 by decide),λi1 k1 => ?_⟩
   generalize hh:upd H15 i1 _=J1
   obtain ⟨t1,g1⟩:=alg hh k1
   clear hh
   refine ⟨_,rfl,_,_,rfl,rfl,⟨Ez,Ez⟩,_,_,rfl,rfl,(pos Ez),_,_,_,_,rfl,rfl,SqL.of g1,(show atI ([wS "",wS "a",wS "\t"].map V.str) (c / 2 % 3)=_ by rw [ex]; exact ax),qae (show 1 <= 100000 by decide),λi2 k2 => ?_⟩
   generalize hh:upd J1 i2 _=J2
   obtain ⟨t2,g2⟩:=alg hh k2
   clear hh
   refine ⟨_,_,_,_,rfl,rfl,t2 _ _ (t1 _ _ hp5),g2,qae (by rw [lm]; show _ + 1 <= _; lia),λi4 k4 => ?_⟩
   refine k i4 (ws ++ [x]) _ (s15.trans (t1.trans (t2.trans (zh k4)))) (by rw [qu,Ay]; rfl) (by rw [Ag]; show _ + 1 <= _; lia) λz hz' => ?_
   rcases Ax.mp hz' with h | h
   .exact (hz z h).up
   .exact qlc xo z h
  .obtain ⟨x3,ex,hx⟩:∃ n:Nat,c / 2 % 4=(n:Int)/\n < 4:=md _ 4 Ez
   obtain ⟨x,ax,xo⟩:=qqe (L:=[wS "",wS "term",wS "rule",wS " "]) (b:=17) En hx
   refine ⟨qae (show 4 <= 100000 by decide),λi1 k1 => ?_⟩
   generalize hh:upd H15 i1 _=J1
   obtain ⟨t1,g1⟩:=alg hh k1
   clear hh
   refine ⟨_,rfl,_,_,rfl,rfl,⟨Ez,Ez⟩,_,_,rfl,rfl,(pos Ez),_,_,_,_,rfl,rfl,SqL.of g1,(show atI ([wS "",wS "term",wS "rule",wS " "].map V.str) (c / 2 % 4)=_ by rw [ex]; exact ax),qae (show 1 <= 100000 by decide),λi2 k2 => ?_⟩
   exact k i2 [x] _ (s15.trans (t1.trans (zh k2))) qu (Bz rfl) (qlc xo)
theorem qlj (T:Txt K mg a):FnOk P w K mg base CX0 2 a.mQ a.mD ["_law_script"] (spFo9 K):=by
 refine T.gD.fn.ok qdw (λvs H Q E h => ?_) (λcdv A outer s H vs Q E hr h => ?_)
 .obtain ⟨_,_,rfl,_⟩:=h
  all_goals rfl
 .obtain ⟨l,ns,rfl,hS,k⟩:=h
  refine ⟨_,(qk (zf (i:=1) qdw.nd rfl (Az rfl) (zm (qhu T) (hr.mono Ez) rfl T.kO.mgx T.kO.fn.kp T.kO.bd .nil qan (qh (zg qba (zg qem qp (zm (qaw T) (hr.mono Ez) rfl T.k8.mgx T.k8.fn.kp T.k8.bd .nil qan (qh (pv 0) (qh qp qm qz) qj))) qp) (qh qp qm qz) zu)))
   (qk (zf (i:=2) qdw.nd rfl (Az rfl) (zg qal (zm (qaw T) (hr.mono Ez) rfl T.k8.mgx T.k8.fn.kp T.k8.bd .nil qan (qh (pv 0) (qh qp qm qz) qj)) qp))
   (qk (zf (i:=3) qdw.nd rfl (Az rfl) (zq (qh (zg qac (zg qac (zg qac (zg qac zp (zy jb (pv 1) (pv 2) (λ_ _=>rfl))) zp) (zy jb (pv 1) (zg qhf qp (pv 2)) (λ_ _=>rfl))) zp) qm zu)))
   (qk (zf (i:=3) qdw.nd rfl (Az rfl) (zg qbi (pv 3) (qe0 (N:=["_law_kind"]) (js:=[none]) (XN:=["_law_script", "_law_kinds", "_law_turn", "_law_rows_here"]) (xs:=qab qfc) rfl rfl rfl En (qb8 (qas qbe (pv 1) (qaq qp) (qaq qp))) (λ_ _ _ _ _ _=>(qap (i:=0) (show Cd (["_law_kind"]:List Str) from by decide +kernel) rfl (Az rfl) (CK rfl))) (λ_ _ _ _ _ _=>qc2) (λ_ _ _ _ _ _=>(zg qac zp (pv 0))))))
   (qk (zf (i:=3) qdw.nd rfl (Az rfl) (zg qbi (pv 3) (zq (qh zp qm qz))))
   (qt (zb (zg qbi (pv 3) (qe0 (N:=["_law_kind"]) (js:=[none]) (XN:=["_law_script", "_law_kinds", "_law_turn", "_law_rows_here"]) (xs:=qab qfc) rfl rfl rfl En (qb8 (qas qbe (pv 1) qbd (qaq qp))) (λ_ _ _ _ _ _=>(qap (i:=0) (show Cd (["_law_kind"]:List Str) from by decide +kernel) rfl (Az rfl) (CK rfl))) (λ_ _ _ _ _ _=>(qq0 (ze (qlm (K:=K) rfl) (pv 0) (zr (qh zp (qh zp qm qz) qz)) (by with_unfolding_all rfl)))) (λ_ _ _ _ _ _=>(zg qac zp (pv 0)))))))))))),?_⟩
  refine ⟨_,rfl,_,_,_,rfl,hS,Ez,_,_,rfl,rfl,qoa Ez Ez,_,_,rfl,rfl,_,52,rfl,.inr ⟨by lia,Ez⟩,λp1 H1 ks n1 s1 e1 lk nd ok => ?_⟩
  refine ⟨_,rfl,_,_,_,rfl,s1.seq hS,Ez,_,_,rfl,rfl,(pos Ez),?_⟩
  dsimp only []
  obtain ⟨t,et,ht⟩:∃ t:Nat,cell ns 3 % 10=(t:Int)/\t < 10:=md _ 10 Ez
  rw [et]
  have fk:Fk ks t:=⟨lk,nd,ok,ht⟩
  have at1:atI (ks.map V.str) (t:Int)=some (.str (nm ks t)):=qaz (by rw [An,fk.at (by lia)]; rfl)
  have at2:atI (ks.map V.str) (51 - (t:Int))=some (.str (nm ks (51 - t))):=by
   rw [show (51 - (t:Int))=((51 - t:Nat):Int) by lia]
   exact qaz (by rw [An,fk.at (by lia)]; rfl)
  have z1:(nm ks t).length <= 8:=(ok _ (fk.mem (by lia))).2.1
  have z2:(nm ks (51 - t)).length <= 8:=(ok _ (fk.mem (by lia))).2.1
  refine ⟨_,rfl,_,rfl,_,_,_,_,rfl,rfl,SqL.of e1,at1,_,_,rfl,rfl,fz,_,_,rfl,rfl,fz,_,rfl,_,rfl,_,_,rfl,rfl,_,_,_,_,rfl,rfl,SqL.of e1,at2,_,_,rfl,rfl,fz,_,_,rfl,rfl,fz,qae (show 1 <= 100000 by decide),λq2 n2 => ?_⟩
  generalize hh:upd H1 q2 _=H2
  obtain ⟨s2,e2⟩:=alg hh n2
  clear hh
  have e2:H2 q2=some (.lst (qbh [qbg (fA ks t)])):=by
   rw [e2]
   show some (HO.lst [V.str (wS "term a of b due " ++ nm ks t ++ wS " from " ++ nm ks (51 - t) ++ wS " 40 weeks")])=_
   rw [lineA]; rfl
  have e12:=s2 _ _ e1
  have cu:qfl (ks.map V.str) (some 11) (some 40)=((ks.take 40).drop 11).map V.str:=by
   have:=cut2 (ks.map V.str) 11 40 (by rw [Ab,lk]; decide) (by rw [Ab,lk]; decide)
   rw [<- B7,<- Cs] at this
   exact this
  have cu2:qfl (ks.map V.str) none (some 14)=(ks.take 14).map V.str:=by
   have:=qgk (ks.map V.str) 14 (by rw [Ab,lk]; decide)
   rw [<- B7] at this
   exact this
  refine ⟨_,rfl,_,rfl,_,rfl,_,rfl,_,_,rfl,SqL.of e12,λq3 n3 => ?_⟩
  rw [cu]
  generalize hh:upd H2 q3 _=H3
  obtain ⟨s3,e3⟩:=alg hh n3
  clear hh
  refine ⟨_,rfl,⟨_,SqL.of e3⟩,?_⟩
  refine qcb (λv=>match v with | .str y=>.str (qak (.ends (wS "a") y)) | _=>.non) (λσ'=>∃ v,σ'=[v]) (qcu (K:=K) (SqL.of e3)) (qae (by rw [Ab,AB,Ap]; lia)) ⟨none,rfl⟩ (λv σ' J RR' hv sm s4 qq => ?_) qcq λq4 n4 => ?_
  .obtain ⟨v0,rfl⟩:=s4
   obtain ⟨y,hy,rfl⟩:=AI.mp hv
   have y8:y.length <= 8:=(ok y (Bu (B5 hy))).2.1
   have qq:=qq [some (.str y)] ⟨_,rfl⟩
   dsimp only at qq
   rw [<- lineE] at qq
   exact ⟨_,rfl,_,_,rfl,rfl,fz,qq⟩
  rw [show (((ks.take 40).drop 11).map V.str).map (λv=>match v with | .str y=>V.str (qak (.ends (wS "a") y)) | _=>.non)=qbh (((ks.take 40).drop 11).map (.ends (wS "a"))) by unfold qbh; rw [AR,AR,AR]; rfl]
  generalize hh:upd H3 q4 _=H4
  obtain ⟨s4,e4⟩:=alg hh n4
  clear hh
  have s24:=s3.trans s4
  refine ⟨_,_,_,_,rfl,rfl,s24 _ _ e2,e4,qae (by rw [qa2,qa2,Ab,AB,Ap]; show 1 + _ <= _; lia),λq5 n5 => ?_⟩
  generalize hh:upd H4 q5 _=H5
  obtain ⟨s5,e5⟩:=alg hh n5
  clear hh
  refine ⟨_,rfl,qae (show 1 <= 100000 by decide),λq6 n6 => ?_⟩
  generalize hh:upd H5 q6 _=H6
  obtain ⟨s6,e6⟩:=alg hh n6
  clear hh
  have e6:H6 q6=some (.lst (qbh [qbg (fC 14 ks)])):=by
   rw [e6]
   show some (HO.lst [V.str (wS "term c of c due a from c 1 days")])=_
   rw [lineC 14 ks]; rfl
  refine ⟨_,_,_,_,rfl,rfl,s6 _ _ e5,e6,qae (by rw [Ag,qa2,qa2,qa2,Ab,AB,Ap]; show 1 + _ + 1 <= _; lia),λq7 n7 => ?_⟩
  generalize hh:upd H6 q7 _=H7
  obtain ⟨s7,e7⟩:=alg hh n7
  clear hh
  have s27:=s24.trans (s5.trans (s6.trans s7))
  refine ⟨_,rfl,_,rfl,_,rfl,_,_,rfl,SqL.of (s27 _ _ e12),λq8 n8 => ?_⟩
  rw [cu2]
  generalize hh:upd H7 q8 _=H8
  obtain ⟨s8,e8⟩:=alg hh n8
  clear hh
  refine ⟨_,rfl,⟨_,SqL.of e8⟩,?_⟩
  refine qpy (λv=>match v with | .str y=>nAC y | _=>false) (λv=>match v with | .str y=>.str (qak (.anew (wS "c") y)) | _=>.non) (λσ'=>∃ v,σ'=[v]) (qcu (K:=K) (SqL.of e8)) (qae (by rw [Ab,Ap]; lia)) ⟨none,rfl⟩ (λv σ' J N R hv sm s4 hN hR => ?_) qcq λq9 H9 n9 s9 e9 => ?_
  .obtain ⟨v0,rfl⟩:=s4
   obtain ⟨y,hy,rfl⟩:=AI.mp hv
   have y8:y.length <= 8:=(ok y (Bu hy)).2.1
   refine ⟨_,rfl,qae (show 2 <= 100000 by decide),λtq tn => ?_⟩
   generalize hh:upd J tq _=J1
   obtain ⟨t1,g1⟩:=alg hh tn
   clear hh
   refine ⟨_,_,rfl,.inr (SqT.of g1),rfl,rfl,_,rfl,qa6 (λc => ?_) (λc => ?_)⟩
   .have c:(!inV (.str y) ([wS "a",wS "c"].map V.str))=true:=c
    rw [qxz] at c
    have hR:=hR [some (.str y)] J1 ⟨_,rfl⟩ t1 c
    dsimp only at hR
    rw [<- lineN] at hR
    exact ⟨_,rfl,_,_,rfl,rfl,fz,hR⟩
   .have c:¬ (!inV (.str y) ([wS "a",wS "c"].map V.str))=true:=c
    rw [qxz,Bool.not_eq_true] at c
    exact hN [some (.str y)] J1 ⟨_,rfl⟩ t1 c
  have ef:((((ks.take 14).map V.str).filter (λv=>match v with | .str y=>nAC y | _=>false)).map (λv=>match v with | .str y=>V.str (qak (.anew (wS "c") y)) | _=>.non))=qbh ((((ks.take 14).filter nAC).take 14).map (.anew (wS "c"))):=by
   rw [Bs fk.anew.2,List.filter_map,AR]
   unfold qbh
   rw [AR,AR]; rfl
  rw [ef] at e9
  refine ⟨_,_,_,_,rfl,rfl,(s8.trans s9) _ _ e7,e9,qae (by rw [Ag,Ag,qa2,qa2,qa2,qa2,Ab,Ab,AB,Ap,Ap]; show 1 + _ + 1 + _ <= _; lia),λqa na => ?_⟩
  refine k qa _ ks t (s1.trans (s2.trans (s27.trans (s8.trans (s9.trans (zh na)))))) ?_ fk
  rw [qu,Fk.rows 14]
  unfold qbh
  simp only [Ay,A6,B4,AY,Bd,AG]
theorem qqo (T:Txt K mg a):FnOk P w K mg base CX0 10 a.mF a.lV ["_law_script"] (spEa9 K):=by
 refine T.bZ.fn.ok qet (λvs H Q E h => ?_) (λcdv A outer s H vs Q E hr h => ?_)
 .obtain ⟨_,_,rfl,_⟩:=h
  all_goals rfl
 .obtain ⟨l,ns,rfl,hS,k⟩:=h
  refine ⟨_,(qk (zf (i:=1) qet.nd rfl (Az rfl) (zm (qlj T) (hr.mono Ez) rfl T.gD.mgx T.gD.fn.kp T.gD.bd .nil qan (qh (pv 0) qm qj)))
   (qk (zf (i:=2) qet.nd rfl (Az rfl) (zg qba qp (zg qal (zm (qaw T) (hr.mono Ez) rfl T.k8.mgx T.k8.fn.kp T.k8.bd .nil qan (qh (pv 0) (qh qp qm qz) qj)) qp)))
   (qk (zf (i:=3) qet.nd rfl (Az rfl) (zy jb (qca Bb BU BV qep (zy jb (pv 1) qp (λ_ _=>rfl)) (qh zp qm qz)) qp (λ_ _=>rfl)))
   (qk (zf (i:=4) qet.nd rfl (Az rfl) (qca Bb C7 C8 qh5 zp (qh (zg qbi (zg qbi (qas qbe (pv 1) qbd (qaq (pv 2))) (zq (qh (zg qac (zg qac zp (pv 3)) zp) qm zu))) (qas qbe (pv 1) (qaq (pv 2)) qbd)) qm zu)))
   (qt (zb (zm (qhv T) (hr.mono Ez) rfl T.kQ.mgx T.kQ.fn.kp T.kQ.bd .nil qan (qh (pv 4) (qh zp (qh (pv 2) qm qj) qz) qj)))))))),?_⟩
  refine ⟨_,rfl,l,ns,rfl,hS,λqw H1 ks t s1 e1 fk => ?_⟩
  refine ⟨_,rfl,_,_,_,rfl,s1.seq hS,Ez,_,_,rfl,rfl,(pos Ez),_,_,rfl,rfl,?_⟩
  dsimp only []
  obtain ⟨m,em,hm⟩:∃ t:Nat,cell ns 37 % 39=(t:Int)/\t < 39:=md _ 39 Ez
  rw [em,show 1 + (m:Int)=((1 + m:Nat):Int) from rfl]
  have h1n:1 <= 1 + m:=DO _ _
  have h39:1 + m <= 39:=by lia
  generalize 1 + m=n at h1n h39
  have aok:=fk.okAll 14
  have la:=fk.lenAll
  have l40:40 <= (qaa [fA ks t,fC 14 ks]).length:=by
   have:=congrArg Dg fk.take
   rw [fk.len,Ap] at this
   lia
  have zk:(nm ks t).length <= 8:=(fk.ok _ (fk.mem (by have:=fk.t; lia))).2.1
  have ro:qdb (qbg (fA ks t)):=aok _ (by rw [Fk.rows]; exact Ak)
  have rl:qdb (.longer (wS "a") (nm ks t) 7 1):=⟨qgt,fk.ok _ (fk.mem (by have:=fk.t; lia)),Ez,Ez⟩
  have a0:atI (qbh (qaa [fA ks t,fC 14 ks])) 0=some (.str (qak (qbg (fA ks t)))):=qaz (j:=0) (by rw [Fk.rows]; rfl)
  have lb:=qnu aok (by lia) n (x:=qak (.longer (wS "a") (nm ks t) 7 1)) ⟨by have:=(qee rl).1; lia,(qee rl).2.1⟩ (λz=>by rw [z] at l40; exact absurd l40 Ez)
  have rb7:qda (((qaa [fA ks t,fC 14 ks]).take n).map qak ++ [qak (.longer (wS "a") (nm ks t) 7 1)] ++ ((qaa [fA ks t,fC 14 ks]).drop n).map qak)=.error (.unfit n):=by
   rw [AG]
   exact fk.early h1n h39 _
  have jo:=qiu lb
  have ta:=qlf (qaa [fA ks t,fC 14 ks]) n (qak (.longer (wS "a") (nm ks t) 7 1))
  generalize ((qaa [fA ks t,fC 14 ks]).take n).map qak ++ [qak (.longer (wS "a") (nm ks t) 7 1)] ++ ((qaa [fA ks t,fC 14 ks]).drop n).map qak=LL at lb rb7 jo ta
  obtain ⟨sl1,sl2⟩:=qgx (qak (qbg (fA ks t))) 32
  rw [<- qha] at sl1 sl2
  have eb:=qe2 (qak (qbg (fA ks t))) 32
  rw [<- qha] at eb
  have sz:(qak (qbg (fA ks t))).length <= 90:=(qee ro).1
  refine ⟨_,rfl,_,_,_,_,rfl,rfl,SqL.of e1,a0,rfl,_,_,rfl,rfl,rfl,qae (Au sz Ez),qae (Au sl1 (by lia)),qae (Au eb (by lia)),λpp n1 => ?_⟩
  rw [qfu ro]
  generalize hh:upd H1 pp _=H2
  obtain ⟨s2,e2⟩:=alg hh n1
  clear hh
  have a5:atI ((qax (qbg (fA ks t))).map V.str) 5=some (.str (nm ks t)):=rfl
  refine ⟨_,_,_,_,rfl,rfl,SqL.of e2,a5,?_⟩
  have e12:=s2 _ _ e1
  clear sz sl1 sl2 eb
  rw [<- lineL] at ta
  generalize hR:qaa [fA ks t,fC 14 ks]=RW at ta e12 la l40
  refine ⟨rfl,_,rfl,_,rfl,_,rfl,_,_,rfl,SqL.of e12,λp5 n5 => ?_⟩
  rw [qo1]
  generalize hh:upd H2 p5 _=J5
  obtain ⟨s5,e5⟩:=alg hh n5
  clear hh
  refine ⟨_,rfl,_,_,rfl,rfl,qae (hl0 En (Au zk Ez)),_,_,rfl,rfl,qae (hl0 (hl En (Au zk Ez)) En),qae (show 1 <= 100000 by decide),λp6 n6 => ?_⟩
  generalize hh:upd J5 p6 _=J6
  obtain ⟨s6,e6⟩:=alg hh n6
  clear hh
  refine ⟨_,_,_,_,rfl,rfl,s6 _ _ e5,e6,qae (by rw [Ap,qa2]; show _ + 1 <= _; lia),λp7 n7 => ?_⟩
  generalize hh:upd J6 p7 _=J7
  obtain ⟨s7,e7⟩:=alg hh n7
  clear hh
  have s47:=s5.trans (s6.trans s7)
  refine ⟨_,rfl,_,rfl,_,rfl,_,_,rfl,SqL.of (s47 _ _ e12),λp8 n8 => ?_⟩
  rw [qeu _ n (by rw [qa2]; lia)]
  generalize hh:upd J7 p8 _=J8
  obtain ⟨s8,e8⟩:=alg hh n8
  clear hh
  refine ⟨_,_,_,_,rfl,rfl,s8 _ _ e7,e8,qae (by rw [Ag,Ap,AB,qa2]; show _ + 1 + _ <= _; lia),λp9 n9 => ?_⟩
  rw [<- ta]
  generalize hh:upd J8 p9 _=J9
  obtain ⟨s9,e9⟩:=alg hh n9
  clear hh
  have s49:=s47.trans (s8.trans s9)
  refine ⟨_,p9,LL,rfl,rfl,SqL.of e9,jo.1,?_⟩
  rw [jo.2]
  exact ⟨_,rfl,_,rfl,LL,.unfit n,rfl,lb,rb7,λHA sA=>k HA (s1.trans (s2.trans (s49.trans sA)))⟩
theorem qf0 (T:Txt K mg a):FnOk P w K mg base CX0 1 a.dR a.mP ["self"] (spTn a):=by
 refine T.dZ.fn.ok qjr (λvs H Q E h => ?_) (λcdv A outer s H vs Q E hr h => ?_)
 .obtain ⟨_,_,_,_,rfl,_⟩:=h
  all_goals rfl
 .obtain ⟨x,rs,As,os,rfl,hb,ln,l6,k⟩:=h
  refine ⟨_,(qt (zb (qb9 (qpv rfl) (by rfl) T.gI qeh (qh (qbc (pv 0) rfl) qm qcl)))),?_⟩
  obtain ⟨dx,po,pd,h1,h2,h3⟩:=hb
  have e:(dcR rs As).map (λkv=>L2.kV kv.1)=(rs.map RR.name).map V.str:=by
   rw [show (λkv:Key × V=>L2.kV kv.1)=L2.kV ∘ Prod.fst from rfl,<- AR,qox ln,AR,AR]; rfl
  refine ⟨_,rfl,_,_,_,_,_,rfl,h1,T.gK,zc T.dD Ez,rfl,_,_,rfl,h3,λl hl => ?_⟩
  exact k l _ hl (zh hl) (by rw [qu]; exact congrArg (λz=>some (HO.lst z)) e)
theorem okLaw (T:Txt K mg a):FnOk P w K mg base CX0 11 a.nI a.mR ["_law_script"] (qrb K):=by
 refine T.rU.fn.ok qdm (λvs H Q E h => ?_) (λcdv A outer s H vs Q E hr h => ?_)
 .obtain ⟨_,_,rfl,_⟩:=h
  all_goals rfl
 .obtain ⟨l,ns,rfl,hS,hlen,k⟩:=h
  refine ⟨_,(qk (zf (i:=1) qdm.nd rfl (Az rfl) (zg qal (zm (qaw T) (hr.mono Ez) rfl T.k8.mgx T.k8.fn.kp T.k8.bd .nil qan (qh (pv 0) (qh qp qm qz) qj)) qp))
   (qk (zf (i:=2) qdm.nd rfl (Az rfl) (zm (qhu T) (hr.mono Ez) rfl T.kO.mgx T.kO.fn.kp T.kO.bd .nil qan (qh (zm (qaw T) (hr.mono Ez) rfl T.k8.mgx T.k8.fn.kp T.k8.bd .nil qan (qh (pv 0) (qh qp qm qz) qj)) (qh (pv 1) qm qj) zt)))
   (qk (zf (i:=3) qdm.nd rfl (Az rfl) (zm (qhu T) (hr.mono Ez) rfl T.kO.mgx T.kO.fn.kp T.kO.bd .nil qan (qh (zm (qaw T) (hr.mono Ez) rfl T.k8.mgx T.k8.fn.kp T.k8.bd .nil qan (qh (pv 0) (qh (zg qhf qp (qb9 qrw (by rfl) T.bP qic (qh (qc0 qay (zg qal (zg qa8 (zm (qaw T) (hr.mono Ez) rfl T.k8.mgx T.k8.fn.kp T.k8.bd .nil qan (qh (pv 0) (qh qp qm qz) qj)) qp) qp) qp (qad _)) qm qt2))) qm zu) qj)) (qh qp qm qz) zt)))
   (qk (zf (i:=4) qdm.nd rfl (Az rfl) (zq qm))
   (qk (qcr BL rfl (qb8 (zm (qqm T) (hr.mono Ez) rfl T.bY.mgx T.bY.fn.kp T.bY.bd .nil qan (qh (pv 0) (qh (pv 2) (qh (pv 3) (qh qp qm qz) qj) qj) qj))) (qap (i:=5) qdm.nd rfl (Az rfl)) (qt (zf (i:=4) qdm.nd rfl (Az rfl) (zg qbi (pv 4) (zm (qth T) (hr.mono Ez) rfl T.bF.mgx T.bF.fn.kp T.bF.bd .nil qan (qh (pv 5) qm qj))))))
   (qk (zf (i:=6) qdm.nd rfl (Az rfl) (zm (qaw T) (hr.mono Ez) rfl T.k8.mgx T.k8.fn.kp T.k8.bd .nil qan (qh (pv 0) (qh qp qm qz) qj)))
   (qk (zf (i:=7) qdm.nd rfl (Az rfl) (zg qbi (pv 4) (zq (qh zp (qh zp qm qz) qz))))
   (qk (zf (i:=7) qdm.nd rfl (Az rfl) (zg qbi (pv 7) (zq (qh zp (qh zp (qh zp qm qz) qz) qz))))
   (qk (zj (ze qay (zg qal (pv 6) qp) qp (qad _)) (qk (zf (i:=4) qdm.nd rfl (Az rfl) (qas qbe (zm (qlj T) (hr.mono Ez) rfl T.gD.mgx T.gD.fn.kp T.gD.bd .nil qan (qh (pv 0) qm qj)) qbd (qaq qp)))
   (qt (zf (i:=2) qdm.nd rfl (Az rfl) (zq (qh zp (qh zp qm qz) qz))))) qaf)
   (qk (zj (PW.pt (qc7 (ze qay (zg qal (pv 6) qp) qp (qad _)) (qcp (qd6 (zo (zm (qqo T) (hr.mono Ez) rfl T.bZ.mgx T.bZ.fn.kp T.bZ.bd .nil qan (qh (pv 0) qm qj))))))) (qt (zb qd0)) qaf)
   (qk (zf (i:=8) qdm.nd rfl (Az rfl) (qca Bb BU BV qep (zy jb (pv 7) (zg qal (zg qa8 (pv 6) qp) (zn qav (by rfl) T.kI qat (qh (pv 7) qm qj))) (λ_ _=>rfl)) (qh zp qm qz)))
   (qk (zj (PW.pt (qc7 (ze qay (zg qal (zm (qaw T) (hr.mono Ez) rfl T.k8.mgx T.k8.fn.kp T.k8.bd .nil qan (qh (pv 0) (qh qp qm qz) qj)) qp) qp (qad _)) (qcp (ze qx8 (zn qav (by rfl) T.kI qat (qh (pv 4) qm qj)) qp (qad _))))) (qt (zf (i:=8) qdm.nd rfl (Az rfl) (qca Bb BU BV qep (zy jb (pv 4) (zg qal (zg qa8 (pv 6) qp) (zn qav (by rfl) T.kI qat (qh (pv 4) qm qj))) (λ_ _=>rfl)) (qh zp qm qz)))) qaf)
   (qk (zj (PW.pt (qez (ze qj5 (zg qal (pv 6) qp) qp (qad _)) (qej (ze qay (zg qal (zg qa8 (zm (qaw T) (hr.mono Ez) rfl T.k8.mgx T.k8.fn.kp T.k8.bd .nil qan (qh (pv 0) (qh qp qm qz) qj)) qp) qp) qp (qad _))))) (qt (zf (i:=8) qdm.nd rfl (Az rfl) (zm (qpc T) (hr.mono Ez) rfl T.bA.mgx T.bA.fn.kp T.bA.bd .nil qan (qh (pv 8) (qh (zg qal (zm (qaw T) (hr.mono Ez) rfl T.k8.mgx T.k8.fn.kp T.k8.bd .nil qan (qh (pv 0) (qh qp qm qz) qj)) qp) (qh (zg qa8 (zm (qaw T) (hr.mono Ez) rfl T.k8.mgx T.k8.fn.kp T.k8.bd .nil qan (qh (pv 0) (qh qp qm qz) qj)) qp) qm zu) zu) qj)))) qaf)
   (qk (zf (i:=9) qdm.nd rfl (Az rfl) (zg qal (zm (qaw T) (hr.mono Ez) rfl T.k8.mgx T.k8.fn.kp T.k8.bd .nil qan (qh (pv 0) (qh qp qm qz) qj)) (zg qba (zn qav (by rfl) T.kI qat (qh (pv 4) qm qj)) qp)))
   (qk (zf (i:=10) qdm.nd rfl (Az rfl) (qca Bb C7 C8 qh5 zp (qh (pv 8) qm qj)))
   (qk (zj (PW.pt (qc7 (ze (qoq hr.units0) (pv 4) (zq qm) (qad _)) (qcp (ze qay (pv 10) zp (qad _))))) (qt (zb (qc0 (qoq hr.units0) (qj8 (zm (qht T) (hr.mono Ez) rfl T.kP.mgx T.kP.fn.kp T.kP.bd .nil qye (qh zp qm qz)) T.gK T.lP (qf0 T) (hr.mono Ez) T.dZ.bd .nil qan) (zq qm) (qad _)))) qaf)
   (qk (zj (PW.pt (qc7 (ze qay (zn qav (by rfl) T.kI qat (qh (pv 4) qm qj)) qp (qad _)) (qcp (zo (zm (qmy T) (hr.mono Ez) rfl T.gE.mgx T.gE.fn.kp T.gE.bd .nil qan (qh (qca Bb BU BV qep (pv 10) (qh zp qm qz)) qm zt)))))) (qt (zf (i:=9) qdm.nd rfl (Az rfl) qp)) (qt (zj (zo (zm (qmy T) (hr.mono Ez) rfl T.gE.mgx T.gE.fn.kp T.gE.bd .nil qan (qh (qca Bb BU BV qep (pv 10) (qh zp qm qz)) qm zt))) (qt (zb (qc0 qj5 (zy ja (zm (qmx T) (hr.mono Ez) rfl T.gC.mgx T.gC.fn.kp T.gC.bd .nil qan (qh (qca Bb C7 C8 qh5 zp (qh (zg qbi (zg qbi (qas qbe (pv 4) qbd (qaq (pv 9))) (zq (qh (pv 10) qm qj))) (qas qbe (pv 4) (qaq (pv 9)) qbd)) qm zu)) qm zt)) qp (λ_ _=>rfl)) zp (qad _)))) qaf)))
   (qk (zf (i:=11) qdm.nd rfl (Az rfl) (qca Bb C7 C8 qh5 zp (qh (zg qbi (zg qbi (qas qbe (pv 4) qbd (qaq (pv 9))) (zq (qh (pv 10) qm qj))) (qas qbe (pv 4) (qaq (pv 9)) qbd)) qm zu)))
   (qk (zj (PW.pt (qez (qd6 (zo (zm (qhv T) (hr.mono Ez) rfl T.kQ.mgx T.kQ.fn.kp T.kQ.bd .nil qan (qh (pv 11) (qh zp (qh (pv 9) qm qj) qz) qj)))) (qej (qd6 (zo (zm (qhv T) (hr.mono Ez) rfl T.kQ.mgx T.kQ.fn.kp T.kQ.bd .nil qan (qh (pv 11) (qh zp (qh (pv 9) qm qj) qz) qj))))))) (qt (zb qd0)) qaf)
   (qt (zb (qc0 (qy5 hr.units0) (qj8 (zm (qht T) (hr.mono Ez) rfl T.kP.mgx T.kP.fn.kp T.kP.bd .nil qye (qh (qca Bb C7 C8 qh5 zp (qh (pv 4) qm qj)) qm zt)) T.gK T.lP (qf0 T) (hr.mono Ez) T.dZ.bd .nil qan) (pv 2) (qad _))))))))))))))))))))))),?_⟩
  refine ⟨_,rfl,_,_,_,rfl,hS,Ez,_,_,rfl,rfl,(pos Ez),?_⟩
  dsimp only []
  obtain ⟨m,em,hm⟩:∃ m:Nat,cell ns 0 % 7=(m:Int)/\m <= 6:=mdl _ 6
  rw [em]
  refine ⟨_,rfl,_,_,_,rfl,hS,Ez,_,rfl,?_⟩
  dsimp only []
  refine ⟨_,m,rfl,.inl (by lia),λp1 H1 nms n1 s1 e1 l1 nd1 ok1 => ?_⟩
  refine ⟨_,rfl,_,rfl,_,_,_,rfl,s1.seq hS,Ez,_,_,rfl,rfl,⟨Ez,Ez⟩,_,_,rfl,rfl,(pos Ez),rfl,.inr ⟨_,rfl,?_⟩⟩
  dsimp only []
  obtain ⟨sm,es,hs0,hs1⟩:∃ sm:Int,(if decide (V.int (cell ns 0 / 7 % 3)=V.int 1)=true then (1:Int) else 0)=sm/\0 <= sm/\sm <= 1:=⟨_,rfl,by split <;> decide,by split <;> decide⟩
  rw [es]
  refine ⟨_,_,rfl,rfl,_,_,_,rfl,s1.seq hS,by lia,?_⟩
  dsimp only []
  refine ⟨_,14,rfl,.inl Ez,λp2 H2 kinds n2 s2 e2 l2 nd2 ok2 => ?_⟩
  have s12:=s1.trans s2
  refine ⟨qfe,λq0 n0 => ?_⟩
  generalize hh:upd H2 q0 _=H3
  obtain ⟨s3,e0⟩:=alg hh n0
  clear hh
  have s13:=s12.trans s3
  refine ⟨_,rfl,_,rfl,_,rfl,l,p1,p2,ns,nms,kinds,40,rfl,s13.seq hS,(s2.trans s3) _ _ e1,s3 _ _ e2,nd1,by lia,nd2,by lia,by lia,ok2,Ez,Ez,λp4 H4 qs rs lrs lnr grs sum => ?_⟩
  have gt:GT rs:=gt_of grs lnr ok1 nd1 (by lia) Ez sum
  have bk:BkT rs:=⟨gt,_,ranked grs lnr nd1⟩
  have gn:=qs2 grs lnr
  have l40:=gt.ln
  have s14:=s13.trans lrs.sm
  have lq:=lrs.ln
  refine ⟨_,rfl,⟨_,SqL.of lrs.hp⟩,qd2 (K:=K) (a:=p4) (xs:=qs.map V.ref) (λi σ J=>Same H4 J/\∃ qw,J qw=some (.lst (qbh (qaa (rs.take i))))/\∃ v5:Option V,σ=[some (.ref l),some (.int (m:Int)),some (.ref p1),some (.ref p2),some (.ref qw),v5,none,none,none,none,none,none]) ⟨λ_ _ z=>z,q0,lrs.sm _ _ e0,none,rfl⟩ (λi σ J _ h=>SqL.of (h.1 _ _ lrs.hp)) ?_ ?_⟩
  .rintro i v σ J hv ⟨sJ,qw,hw,v5,rfl⟩
   rw [An] at hv
   cases eq:qs[i]? with
   | none=>rw [eq] at hv; cases hv
   | some qi =>
   rw [eq] at hv
   cases hv
   have hi:i < rs.length:=by rw [<- lq]; exact (Af.mp eq).1
   have hr:rs[i]?=some rs[i]:=Aj hi
   have hnx:=qx4 hr
   have hll:hd rs (i + 1) <= (qaa rs).length:=by
    have:=hd_le (rs:=rs) (show i + 1 <= rs.length by lia)
    unfold hd at this
    rw [B0] at this
    exact this
   unfold hd at hnx hll
   refine ⟨_,rfl,_,rfl,qi,rs[i],rfl,(lrs.lr i qi _ eq hr).same sJ,gt.ok _ (Bv hi),λpz J3 nz s3 ez=>⟨_,_,_,_,rfl,rfl,s3 _ _ hw,ez,qae (by rw [qa2,qa2]; lia),λq2 n2 => ?_⟩⟩
   refine ⟨sJ.trans (s3.trans (zh n2)),q2,?_,_,rfl⟩
   rw [qu,qbs hr]
   unfold qaa qbh
   rw [Bp,Ay,Ay]
   simp [Bk]
  rintro σ H5 ⟨s5,qw,hw,v5,rfl⟩
  rw [Ab,lq,B0] at hw
  have s15:=s14.trans s5
  have hn5:H5 p1=some (.lst ((rs.map RR.name).map V.str)):=by rw [gn]; exact (s2.trans (s3.trans (lrs.sm.trans s5))) _ _ e1
  refine ⟨_,rfl,_,_,_,rfl,s15.seq hS,Ez,?_⟩
  dsimp only []
  generalize cell ns 34=c
  refine ⟨_,rfl,qae (show 2 <= 100000 by decide),λq1 m1 => ?_⟩
  generalize hh:upd H5 q1 _=H6
  obtain ⟨s6,e6⟩:=alg hh m1
  clear hh
  refine ⟨_,_,_,_,rfl,rfl,s6 _ _ hw,e6,qae (by rw [qa2]; show _ + 2 <= _; lia),λq2 m2 => ?_⟩
  generalize hh:upd H6 q2 _=H7
  obtain ⟨s7,e7⟩:=alg hh m2
  clear hh
  refine ⟨_,rfl,qae (show 3 <= 100000 by decide),λq3 m3 => ?_⟩
  generalize hh:upd H7 q3 _=H8
  obtain ⟨s8,e8⟩:=alg hh m3
  clear hh
  refine ⟨_,_,_,_,rfl,rfl,s8 _ _ e7,e8,qae (by rw [Ag,qa2]; show _ + 2 + 3 <= _; lia),λpb m4 => ?_⟩
  generalize hh:upd H8 pb _=H9
  obtain ⟨s9,eb⟩:=alg hh m4
  clear hh
  have eb:H9 pb=some (.lst (qbh (qaa rs ++ qhe))):=by
   rw [eb,show qbh (qaa rs ++ qhe)=qbh (qaa rs) ++ qbh qhe by unfold qbh; rw [Ay,Ay],qqf,AG]
   rfl
  have bok:∀ row ∈ qaa rs ++ qhe,qdb row:=λrow h=>(Ax.mp h).elim (qla gt.ok row) (qx3 row)
  have bln:(qaa rs ++ qhe).length=(qaa rs).length + 5:=by rw [Ag]; rfl
  generalize qaa rs ++ qhe=BR at eb bok bln
  have s59:=s6.trans (s7.trans (s8.trans s9))
  have s19:=s15.trans s59
  show qrs _ _ _ [some (.ref l),some (.int (m:Int)),some (.ref p1),some (.ref p2),some (.ref qw),v5,some (.int c),some (.ref pb),none,none,none,none] H9
  apply useH2 (p:=P3 H9)
  .intro fin
   refine ⟨_,rfl,_,_,rfl,rfl,(pos Ez),rfl,_,rfl,qa6 (λc1 => ?_) (λc1 => ?_)⟩
   .refine ⟨_,rfl,l,ns,rfl,s19.seq hS,λqf J1 ks t t1 ef fk => ?_⟩
    refine ⟨_,rfl,_,_,rfl,SqL.of ef,λqr nr => ?_⟩
    rw [show qfl (qbh (qaa [fA ks t,fC 14 ks])) none (some 40)=qbh (qaa [fA ks t,fC 9 ks]) by rw [show (40:Int)=((40:Nat):Int) from rfl,qo1,<- fk.take]; unfold qbh; rw [B7,B7]]
    generalize hh:upd J1 qr _=J2
    obtain ⟨t2,er⟩:=alg hh nr
    clear hh
    refine ⟨qae (show 2 <= 100000 by decide),λpn nn => ?_⟩
    generalize hh:upd J2 pn _=J3
    obtain ⟨t3,en⟩:=alg hh nn
    clear hh
    have fi:P3 H9 J3 (some (.ref pn)) (some (.ref qr)):=⟨t1.trans (t2.trans t3),[fA ks t,fC 9 ks],pn,qr,rfl,rfl,en,t3 _ _ er,fk.bk⟩
    show qfx _ [some (.ref l),some (.int (m:Int)),some (.ref pn),some (.ref p2),some (.ref qr),v5,some (.int c),some (.ref pb),none,none,none,none] J3
    generalize (some (V.ref pn):Option V)=y2 at fi |-
    generalize (some (V.ref qr):Option V)=y4 at fi |-
    exact fin J3 y2 y4 fi
   .exact fin H9 _ _ ⟨λ_ _ z=>z,rs,p1,qw,rfl,rfl,s59 _ _ hn5,s59 _ _ hw,bk⟩
  rintro H10 y2 y4 ⟨t10,rs2,pn,qr,rfl,rfl,hn,hr,bk2⟩
  have l2:=bk2.gt.ln
  have aok:=qla bk2.gt.ok
  have s10:=s19.trans t10
  apply qmu (p:=λJ=>Same H10 J)
  .intro fin
   refine ⟨_,rfl,_,_,rfl,rfl,(pos Ez),rfl,_,rfl,qa6 (λc1 => ?_) (λc1 => ?_)⟩
   .refine ⟨_,rfl,l,ns,rfl,s10.seq hS,λJ1 t1=>⟨_,rfl,qbp ?_⟩⟩
    exact fin J1 t1
   .exact qbp (fin H10 (λ_ _ z=>z))
  intro H11 t11
  have s11:=s10.trans t11
  have hb:=(t10.trans t11) _ _ eb
  obtain ⟨j,ej,hj⟩:∃ j:Nat,c / 5 % (((qbh BR).length:Nat):Int)=(j:Int)/\j < BR.length:=by rw [qa2]; exact md _ BR.length (by lia)
  obtain ⟨row0,a0,ro0⟩:=qv3 hj bok
  have f0:=spf (x:=qak row0) (Au (qee ro0).1 Ez)
  refine ⟨_,rfl,_,rfl,_,_,rfl,rfl,⟨Ez,Ez⟩,_,rfl,_,_,rfl,.inl ⟨_,SqL.of hb,rfl⟩,_,_,rfl,rfl,pos (by rw [qa2]; lia),_,_,_,_,rfl,rfl,SqL.of hb,(show atI (qbh BR) (c / 5 % (((qbh BR).length:Nat):Int))=_ by rw [ej]; exact a0),?_⟩
  refine ⟨rfl,_,_,rfl,rfl,rfl,f0.1,f0.2.1,f0.2.2,λpw nw => ?_⟩
  rw [qfu ro0]
  generalize hh:upd H11 pw _=H12
  obtain ⟨t12,ew⟩:=alg hh nw
  clear hh
  have s12':=s11.trans t12
  have hr12:=(t11.trans t12) _ _ hr
  have ww0:=qrl ro0
  show qrs _ _ _ [some (.ref l),some (.int (m:Int)),some (.ref pn),some (.ref p2),some (.ref qr),v5,some (.int c),some (.ref pb),some (.ref pw),none,none,none] H12
  apply qhd (p:=PW8 H12)
  .intro fin
   refine ⟨_,rfl,_,_,_,rfl,s12'.seq hS,Ez,_,_,rfl,rfl,(pos Ez),rfl,_,rfl,qa6 (λc1 => ?_) (λc1 => ?_)⟩
   .refine ⟨_,rfl,_,_,rfl,.inl ⟨_,SqL.of hr12,rfl⟩,_,_,rfl,rfl,_,rfl,qa6 (λc2 => ?_) (λc2 => ?_)⟩
    .have lp:1 <= (qaa rs2).length:=by
      have:=of_decide_eq_true c2
      rw [qa2] at this
      lia
     obtain ⟨j2,ej2,hj2⟩:∃ j:Nat,c / 5 % (((qbh (qaa rs2)).length:Nat):Int)=(j:Int)/\j < (qaa rs2).length:=by rw [qa2]; exact md _ _ lp
     obtain ⟨row1,a1,ro1⟩:=qv3 hj2 aok
     have f1:=spf (x:=qak row1) (Au (qee ro1).1 Ez)
     refine ⟨_,rfl,_,rfl,_,_,rfl,rfl,⟨Ez,Ez⟩,_,rfl,_,_,rfl,.inl ⟨_,SqL.of hr12,rfl⟩,_,_,rfl,rfl,pos (by rw [qa2]; lia),_,_,_,_,rfl,rfl,SqL.of hr12,(show atI (qbh (qaa rs2)) (c / 5 % (((qbh (qaa rs2)).length:Nat):Int))=_ by rw [ej2]; exact a1),?_⟩
     refine ⟨rfl,_,_,rfl,rfl,rfl,f1.1,f1.2.1,f1.2.2,λpx nx => ?_⟩
     rw [qfu ro1]
     generalize hh:upd H12 px _=J1
     obtain ⟨t1,ex⟩:=alg hh nx
     clear hh
     have fi:PW8 H12 J1 (some (.ref px)):=⟨t1,px,qax row1,rfl,ex,qrl ro1⟩
     show qfx _ [some (.ref l),some (.int (m:Int)),some (.ref pn),some (.ref p2),some (.ref qr),v5,some (.int c),some (.ref pb),some (.ref px),none,none,none] J1
     generalize (some (V.ref px):Option V)=y at fi |-
     exact fin J1 y fi
    .exact fin H12 _ ⟨λ_ _ z=>z,pw,_,rfl,ew,ww0⟩
   .exact qbp (fin H12 _ ⟨λ_ _ z=>z,pw,_,rfl,ew,ww0⟩)
  rintro H13 y ⟨t13,px,ws,rfl,ex,hne,hl10,ok8⟩
  have s13':=s12'.trans t13
  show qfx _ [some (.ref l),some (.int (m:Int)),some (.ref pn),some (.ref p2),some (.ref qr),v5,some (.int c),some (.ref pb),some (.ref px),none,none,none] H13
  apply qhd (p:=PW17 H13)
  .intro fin
   apply qmu (p:=λJ=>J=H13)
   intro fel
   refine ⟨_,rfl,_,_,rfl,rfl,(pos Ez),rfl,_,rfl,qa6 (λc1 => ?_) (λc1 => ?_)⟩
   exact qb7 (fel H13 rfl)
   refine ⟨_,rfl,_,_,_,rfl,s13'.seq hS,Ez,_,_,rfl,rfl,⟨Ez,Ez⟩,_,_,rfl,rfl,(pos Ez),rfl,_,rfl,qa6 (λc2 => ?_) (λc2 => ?_)⟩
   exact fel H13 rfl
   rotate_left
   .intro H13' eH
    rw [eH]
    clear eH
    obtain ⟨w8,e8,h8⟩:∃ j:Nat,cell ns 35 % 8=(j:Int)/\j < 8:=md _ 8 Ez
    refine ⟨_,rfl,_,rfl,_,_,_,rfl,s13'.seq hS,Ez,_,_,rfl,rfl,(pos Ez),_,rfl,_,_,_,rfl,s13'.seq hS,Ez,_,_,rfl,rfl,⟨Ez,Ez⟩,?_⟩
    dsimp only []
    rw [e8]
    refine ⟨px,ws,w8,_,rfl,ex,hne,hl10,ok8,h8,λq ss J t1 g1 l11 o17 => ?_⟩
    have fi:PW17 H13 J (some (.ref q)):=⟨t1,q,ss,rfl,g1,l11,o17⟩
    show qrs _ _ _ [some (.ref l),some (.int (m:Int)),some (.ref pn),some (.ref p2),some (.ref qr),v5,some (.int c),some (.ref pb),some (.ref q),none,none,none] J
    generalize (some (V.ref q):Option V)=y at fi |-
    exact fin J y fi
   .exact fin H13 _ ⟨λ_ _ z=>z,px,ws,rfl,ex,Nat.le_succ_of_le hl10,λz hz=>(ok8 z hz).up⟩
  rintro H14 y ⟨t14,pz,ss,rfl,ez,l11,ok17⟩
  have s14':=s13'.trans t14
  have t24:=(t11.trans t12).trans (t13.trans t14)
  have hr14:=t24 _ _ hr
  have hn14:=t24 _ _ hn
  have jo:=qv1 l11 ok17
  obtain ⟨n,en,nl⟩:∃ n:Nat,cell ns 37 % ((((qbh (qaa rs2)).length:Nat):Int) + 1)=(n:Int)/\n < (qaa rs2).length + 1:=by rw [qa2]; exact md _ ((qaa rs2).length + 1) (DC _)
  refine ⟨_,rfl,_,_,_,rfl,s14'.seq hS,Ez,_,rfl,_,_,rfl,.inl ⟨_,SqL.of hr14,rfl⟩,_,_,rfl,rfl,_,_,rfl,rfl,pos (by lia),?_⟩
  dsimp only []
  rw [en]
  refine ⟨rfl,_,rfl,_,pz,ss,rfl,rfl,SqL.of ez,jo.1,?_⟩
  have oR:=jo.2
  generalize Txt.join (wS " ") ss=row at oR |-
  show qrs _ _ _ [some (.ref l),some (.int (m:Int)),some (.ref pn),some (.ref p2),some (.ref qr),v5,some (.int c),some (.ref pb),some (.ref pz),some (.int (n:Int)),some (.str row),none] H14
  clear jo ez l11 ok17 ok8 hne hl10 ex t13 t12 t11 hb ew ww0 en ro0 a0 f0 ej hj
  apply qmu (p:=λJ=>Same H14 J/\(qaa rs2=[]->row ≠ wS ""))
  .intro fin
   refine ⟨_,rfl,qfe,λqe ne => ?_⟩
   generalize hh:upd H14 qe _=J1
   obtain ⟨t1,g1⟩:=alg hh ne
   clear hh
   refine ⟨_,_,_,rfl,rfl,SqL.of (t1 _ _ hr14),SqL.of g1,_,rfl,qa6 (λc1 => ?_) (λc1 => ?_)⟩
   .refine ⟨_,rfl,rfl,_,rfl,qa6 (λc2 => ?_) (λc2 => ?_)⟩
    .refine ⟨[],congrArg (λx=>[V.str x]) qv5,qx5,λrs' ok => ?_,(λer h=>nomatch h)⟩
     cases (show (.ok []:Except Er (List RR))=.ok rs' from ok)
     refine ⟨λxb HB As os sB bk => ?_,λx5 d5 l5 H5' r5 _ _ _ _ rg => ?_⟩
     .have bk':=bk.bk
      obtain ⟨dx,po,pd,hx1,hx2,hx3⟩:=bk'
      refine ⟨_,_,_,rfl,hx1,rfl,xb,[],As,os,rfl,bk.bk,bk.ln,bk.l6,λqn HC nn sC eC => ?_⟩
      refine ⟨qfe,λq9 n9 => ?_⟩
      exact ⟨_,_,_,rfl,rfl,SqL.of (zh n9 _ _ eC),SqL.of qu,k _⟩
     .exact (qrj (rk:=λ_=>0) (λk b e=>by unfold bo bsR at e; simp at e) rg).elim
    .exact fin J1 ⟨t1,λ_ z=>c2 (decide_eq_true (by rw [z]))⟩
   .exact qbp (fin J1 ⟨t1,λz=>absurd (by rw [z]; rfl) c1⟩)
  rintro H15 ⟨t15,nee⟩
  have s15':=s14'.trans t15
  have hr15:=t15 _ _ hr14
  have hn15:=t15 _ _ hn14
  have fR:=spf (x:=row) (Au oR.1 Ez)
  have sm:=sp_sm oR
  have lrl:(qbh (qaa rs2)).length=(qaa rs2).length:=qa2 _
  apply qhd (p:=PAt (qaa rs2).length row H15)
  .intro fin
   apply qmu (p:=λJ=>Same H15 J/\((qaa rs2).length <= 39 \/ (opR row).isSome=false))
   intro fel
   refine ⟨_,rfl,_,_,rfl,.inl ⟨_,SqL.of hr15,rfl⟩,rfl,_,rfl,qa6 (λc1 => ?_) (λc1 => ?_)⟩
   refine ⟨_,rfl,rfl,_,_,rfl,rfl,rfl,fR.1,fR.2.1,fR.2.2,λpq nq => ?_⟩
   generalize hh:upd H15 pq _=J1
   obtain ⟨t1,g1⟩:=alg hh nq
   clear hh
   refine ⟨pq,BE row (wS " "),rfl,g1,qv4 row,sm.1,sm.2,λJ2 t2=>⟨_,rfl,qa6 (λc2 => ?_) (λc2 => ?_)⟩⟩
   have le:(qaa rs2).length=40:=by have:=V.int.inj (of_decide_eq_true c1); lia
   have fi:PAt (qaa rs2).length row H15 J2 (some (.int 40)):=⟨t1.trans t2,40,rfl,by lia,.inl rfl⟩
   show qfx _ [some (.ref l),some (.int (m:Int)),some (.ref pn),some (.ref p2),some (.ref qr),v5,some (.int c),some (.ref pb),some (.ref pz),some (.int 40),some (.str row),none] J2
   generalize (some (V.int 40):Option V)=y at fi |-
   exact fin J2 y fi
   exact fel J2 ⟨t1.trans t2,.inr (DB.mpr c2)⟩
   exact qbp (fel H15 ⟨λ_ _ z=>z,.inl (by
    have:(qaa rs2).length ≠ 40:=λz=>c1 (decide_eq_true (by rw [lrl,z]; rfl))
    lia)⟩)
   rintro J ⟨tJ,hJ⟩
   refine ⟨_,rfl,rfl,_,_,rfl,rfl,rfl,fR.1,fR.2.1,fR.2.2,λpq nq => ?_⟩
   generalize hh:upd J pq _=J1
   obtain ⟨t1,g1⟩:=alg hh nq
   clear hh
   refine ⟨pq,BE row (wS " "),rfl,g1,qv4 row,sm.1,sm.2,λJ2 t2=>⟨_,rfl,qa6 (λc2 => ?_) (λc2 => ?_)⟩⟩
   .have l39:(qaa rs2).length <= 39:=by
     rcases hJ with h | h
     .exact h
     .exact absurd c2 (by show ¬ (opR row).isSome=true; rw [h]; decide)
    have lb:=qnu aok (by lia) n oR nee
    have jo:=qiu lb
    have ta:=qlf (qaa rs2) n row
    have nr:∀ j,qda (((qaa rs2).take n).map qak ++ [row] ++ ((qaa rs2).drop n).map qak) ≠ .error (.rule j):=λj=>qx2 (λx hx=>by
     rcases Ax.mp hx with hx | hx
     .rcases Ax.mp hx with hx | hx
      .obtain ⟨r,hr,rfl⟩:=AI.mp hx
       rw [qj1 (aok r (Bu hr))]; rfl
      .rw [Ai.mp hx]; exact c2
     .obtain ⟨r,hr,rfl⟩:=AI.mp hx
      rw [qj1 (aok r (B5 hr))]; rfl) (by
     rw [Ag,Ag,Ab,Ab,Ap,AB]
     show _ + 1 + _ <= _
     lia)
    generalize ((qaa rs2).take n).map qak ++ [row] ++ ((qaa rs2).drop n).map qak=LL at lb jo ta nr
    have hr9:=(tJ.trans (t1.trans t2)) _ _ hr15
    refine ⟨rfl,_,rfl,_,rfl,_,rfl,_,_,rfl,SqL.of hr9,λp5 n5 => ?_⟩
    rw [qo1]
    generalize hh:upd J2 p5 _=J5
    obtain ⟨s5,e5⟩:=alg hh n5
    clear hh
    refine ⟨_,rfl,qae (show 1 <= 100000 by decide),λp6 n6 => ?_⟩
    generalize hh:upd J5 p6 _=J6
    obtain ⟨s6,e6⟩:=alg hh n6
    clear hh
    refine ⟨_,_,_,_,rfl,rfl,s6 _ _ e5,e6,qae (by rw [Ap,qa2]; show _ + 1 <= _; lia),λp7 n7 => ?_⟩
    generalize hh:upd J6 p7 _=J7
    obtain ⟨s7,e7⟩:=alg hh n7
    clear hh
    have s47:=s5.trans (s6.trans s7)
    refine ⟨_,rfl,_,rfl,_,rfl,_,_,rfl,SqL.of (s47 _ _ hr9),λp8 n8 => ?_⟩
    rw [qeu _ n (by rw [qa2]; lia)]
    generalize hh:upd J7 p8 _=J8
    obtain ⟨s8,e8⟩:=alg hh n8
    clear hh
    refine ⟨_,_,_,_,rfl,rfl,s8 _ _ e7,e8,qae (by rw [Ag,Ap,AB,qa2]; show _ + 1 + _ <= _; lia),λp9 n9 => ?_⟩
    rw [<- ta]
    generalize hh:upd J8 p9 _=J9
    obtain ⟨s9,e9⟩:=alg hh n9
    clear hh
    have s49:=s47.trans (s8.trans s9)
    refine ⟨_,p9,LL,rfl,rfl,SqL.of e9,jo.1,?_⟩
    rw [jo.2]
    refine ⟨LL,rfl,lb,λrs' ok=>⟨λt H' s' e' => ?_,λt l' H' r s' e' el rg => ?_⟩,λe er t H' s' e' => ?_⟩
    .refine ⟨_,_,_,_,rfl,rfl,SqT.of e',rfl,rfl,?_⟩
     have kk:=k H'
     rw [<- show (!decide (V.str (wS "read")=V.str (wS "rule")))=true by decide +kernel] at kk
     exact kk
    .refine ⟨_,_,_,_,rfl,rfl,SqT.of e',rfl,rfl,?_⟩
     have kk:=k H'
     rw [<- show (!decide (V.str (wS "ring")=V.str (wS "rule")))=true by decide +kernel] at kk
     exact kk
    .cases e with
     | rule j=>exact absurd er (nr j)
     | term y =>
      refine ⟨_,_,_,_,rfl,rfl,SqT.of e',rfl,rfl,?_⟩
      have kk:=k H'
      rw [<- show (!decide (V.str (wS "term")=V.str (wS "rule")))=true by decide +kernel] at kk
      exact kk
     | twice y =>
      refine ⟨_,_,_,_,rfl,rfl,SqT.of e',rfl,rfl,?_⟩
      have kk:=k H'
      rw [<- show (!decide (V.str (wS "twice")=V.str (wS "rule")))=true by decide +kernel] at kk
      exact kk
     | unfit y =>
      refine ⟨_,_,_,_,rfl,rfl,SqT.of e',rfl,rfl,?_⟩
      have kk:=k H'
      rw [<- show (!decide (V.str (wS "unfit")=V.str (wS "rule")))=true by decide +kernel] at kk
      exact kk
   .exact fin J2 _ ⟨tJ.trans (t1.trans t2),n,rfl,by lia,.inr (Option.isNone_iff_eq_none.mp (by cases e:opR row with | none=>rfl | some r=>exact absurd (by show (opR row).isSome=true; rw [e]; rfl) c2))⟩
  rintro H16 y ⟨t16,n2,rfl,hn2,or2⟩
  have s16':=s15'.trans t16
  have hr16:=t16 _ _ hr15
  have hn16:=t16 _ _ hn15
  have lb:=qnu aok (by lia) n2 oR nee
  have rb7:qda (((qaa rs2).take n2).map qak ++ [row] ++ ((qaa rs2).drop n2).map qak)=.error (.rule n2):=by
   rw [AG]
   exact qvz bk2.gt hn2 or2 _
  have jo:=qiu lb
  have ta:=qlf (qaa rs2) n2 row
  generalize ((qaa rs2).take n2).map qak ++ [row] ++ ((qaa rs2).drop n2).map qak=LL at lb rb7 jo ta
  refine ⟨rfl,_,rfl,_,rfl,_,rfl,_,_,rfl,SqL.of hr16,λp5 n5 => ?_⟩
  rw [qo1]
  generalize hh:upd H16 p5 _=J5
  obtain ⟨s5,e5⟩:=alg hh n5
  clear hh
  refine ⟨_,rfl,qae (show 1 <= 100000 by decide),λp6 n6 => ?_⟩
  generalize hh:upd J5 p6 _=J6
  obtain ⟨s6,e6⟩:=alg hh n6
  clear hh
  refine ⟨_,_,_,_,rfl,rfl,s6 _ _ e5,e6,qae (by rw [Ap,qa2]; show _ + 1 <= _; lia),λp7 n7 => ?_⟩
  generalize hh:upd J6 p7 _=J7
  obtain ⟨s7,e7⟩:=alg hh n7
  clear hh
  have s47:=s5.trans (s6.trans s7)
  refine ⟨_,rfl,_,rfl,_,rfl,_,_,rfl,SqL.of (s47 _ _ hr16),λp8 n8 => ?_⟩
  rw [qeu _ n2 (by rw [qa2]; lia)]
  generalize hh:upd J7 p8 _=J8
  obtain ⟨s8,e8⟩:=alg hh n8
  clear hh
  refine ⟨_,_,_,_,rfl,rfl,s8 _ _ e7,e8,qae (by rw [Ag,Ap,AB,qa2]; show _ + 1 + _ <= _; lia),λp9 n9 => ?_⟩
  rw [<- ta]
  generalize hh:upd J8 p9 _=J9
  obtain ⟨s9,e9⟩:=alg hh n9
  clear hh
  have s49:=s47.trans (s8.trans s9)
  refine ⟨_,p9,LL,rfl,rfl,SqL.of e9,jo.1,?_⟩
  rw [jo.2]
  refine ⟨_,rfl,_,rfl,LL,.rule n2,rfl,lb,rb7,λHA sA=>⟨_,rfl,qbp ⟨_,rfl,_,rfl,LL,.rule n2,rfl,lb,rb7,λHB sB=>⟨_,rfl,qbp ?_⟩⟩⟩⟩
  have s4A:=s49.trans (sA.trans sB)
  have lg:=qs3 aok (by lia)
  have jg:=qiu lg
  refine ⟨rfl,_,rfl,_,qr,(qaa rs2).map qak,rfl,rfl,SqL.of (s4A _ _ hr16),jg.1,?_⟩
  rw [jg.2]
  refine ⟨_,rfl,lg,λrs' ok => ?_,(λer h=>(by rw [qmt bk2.gt] at h; cases h))⟩
  rw [qmt bk2.gt] at ok
  cases ok
  refine ⟨λxb HB As os sB bk => ?_,λx5 d5 l5 H5' r5 _ _ _ _ rg => ?_⟩
  .have bk':=bk.bk
   obtain ⟨dx,po,pd,hx1,hx2,hx3⟩:=bk'
   refine ⟨_,_,_,rfl,hx1,rfl,xb,rs2,As,os,rfl,bk.bk,bk.ln,bk.l6,λqn HC nn sC eC => ?_⟩
   have flb:((rs2.map RR.name).map V.str).all qct=true:=by rw [CY]; exact AQ.mpr λ_ _=>rfl
   refine ⟨_,rfl,_,_,_,_,rfl,rfl,SqL.of eC,SqL.of (sC _ _ (sB _ _ (s4A _ _ hn16))),flb,flb,?_⟩
   rw [qma flb]
   exact k _
  .obtain ⟨rk,hrk⟩:=bk2.rk
   exact (qrj hrk rg).elim
end
set_option maxHeartbeats 4000000 in
theorem all_mk {l:PySem.W.OpenLaw} {w:World} {K:Ae} {h:Heap} {mg:Str->Option Value} {fa:Addr} (X:K.In h) (G:h.Ns A7 mg) (hfa:mg "law" = some (.ref fa))
  {C_Adrift C_Book C_CourtError C_Full C_NoAct C_NoDay C_NoName C_NoRow C_NoRule C_NoTable C_NoTerm C_Parted C_Ring C_Rule C_Twice C_Unfit f0 f1 f2 f3 f4 f5 f6 f7 f8 f9 f10 f11 f12:Addr} {od12 an12:Option Addr} {sl12:Array (Option Value)} {oc12 kV12 dc12 pm12 cd12 ct12 dV12:Value} {f13 f14 f15 f16 f17 f18 f19 f20 f21 f22 f23 f24 f25 f26 f27 f28 f29 f30 f31 f32 f33 f34 f35 f36 f37 f38 f39 f40 f41 f42 f43:Addr} {od43 an43:Option Addr} {sl43:Array (Option Value)} {oc43 kV43 dc43 pm43 cd43 ct43:Value} {tk_LONGEST_NAME tk_MOST_ROWS tk_MOST_TERMS tk_MOST_LONGER_ROWS:Tok} {A_UNITS:Addr} {oa_UNITS:Option Addr} {na_UNITS:Nat} {tt0_UNITS tt1_UNITS tt2_UNITS:Tok} {sa_UNITS:Array (Option Value)} {A_FORMS:Addr} {oa_FORMS:Option Addr} {na_FORMS:Nat} {sa_FORMS:Array (Option Value)} {A_FORMS_0:Addr} {oa_FORMS_0:Option Addr} {na_FORMS_0:Nat} {tt0_FORMS_0 tt1_FORMS_0 tt2_FORMS_0 tt3_FORMS_0 tt4_FORMS_0 tt5_FORMS_0 tt6_FORMS_0 tt7_FORMS_0 tt8_FORMS_0 tt9_FORMS_0:Tok} {sa_FORMS_0:Array (Option Value)} {A_FORMS_1:Addr} {oa_FORMS_1:Option Addr} {na_FORMS_1:Nat} {tt0_FORMS_1 tt1_FORMS_1 tt2_FORMS_1 tt3_FORMS_1 tt4_FORMS_1 tt5_FORMS_1 tt6_FORMS_1 tt7_FORMS_1 tt8_FORMS_1 tt9_FORMS_1:Tok} {sa_FORMS_1:Array (Option Value)} {A_FORMS_2:Addr} {oa_FORMS_2:Option Addr} {na_FORMS_2:Nat} {tt0_FORMS_2 tt1_FORMS_2 tt2_FORMS_2:Tok} {sa_FORMS_2:Array (Option Value)} {A_FORMS_3:Addr} {oa_FORMS_3:Option Addr} {na_FORMS_3:Nat} {tt0_FORMS_3 tt1_FORMS_3 tt2_FORMS_3:Tok} {sa_FORMS_3:Array (Option Value)} {A_FORMS_4:Addr} {oa_FORMS_4:Option Addr} {na_FORMS_4:Nat} {tt0_FORMS_4 tt1_FORMS_4 tt2_FORMS_4 tt3_FORMS_4 tt4_FORMS_4 tt5_FORMS_4:Tok} {sa_FORMS_4:Array (Option Value)} {A_FORMS_5:Addr} {oa_FORMS_5:Option Addr} {na_FORMS_5:Nat} {tt0_FORMS_5 tt1_FORMS_5 tt2_FORMS_5 tt3_FORMS_5:Tok} {sa_FORMS_5:Array (Option Value)} {A_FORMS_6:Addr} {oa_FORMS_6:Option Addr} {na_FORMS_6:Nat} {tt0_FORMS_6 tt1_FORMS_6 tt2_FORMS_6:Tok} {sa_FORMS_6:Array (Option Value)}
  (ca_Adrift:AA K A7 "Adrift" = some (some (.ref C_Adrift))) (ca_Book:AA K A7 "Book" = some (some (.ref C_Book))) (ca_CourtError:AA K A7 "CourtError" = some (some (.ref C_CourtError))) (ca_Full:AA K A7 "Full" = some (some (.ref C_Full))) (ca_NoAct:AA K A7 "NoAct" = some (some (.ref C_NoAct))) (ca_NoDay:AA K A7 "NoDay" = some (some (.ref C_NoDay))) (ca_NoName:AA K A7 "NoName" = some (some (.ref C_NoName))) (ca_NoRow:AA K A7 "NoRow" = some (some (.ref C_NoRow))) (ca_NoRule:AA K A7 "NoRule" = some (some (.ref C_NoRule))) (ca_NoTable:AA K A7 "NoTable" = some (some (.ref C_NoTable))) (ca_NoTerm:AA K A7 "NoTerm" = some (some (.ref C_NoTerm))) (ca_Parted:AA K A7 "Parted" = some (some (.ref C_Parted))) (ca_Ring:AA K A7 "Ring" = some (some (.ref C_Ring))) (ca_Rule:AA K A7 "Rule" = some (some (.ref C_Rule))) (ca_Twice:AA K A7 "Twice" = some (some (.ref C_Twice))) (ca_Unfit:AA K A7 "Unfit" = some (some (.ref C_Unfit))) (p0:Pd K "is_figure" qiz f0) (p1:Pd K "is_written_number" qc5 f1) (p2:Pd K "number" qnc f2) (p3:Pm K C_Ring "__init__" "Ring.__init__" qi0 f3) (p4:Pd K "untaken" qkl f4) (p5:Pd K "hanging_order" qe8 f5) (p6:Pd K "is_small_letter" qeq f6) (p7:Pd K "is_name" qjx f7) (p8:Pm K C_Book "__init__" "Book.__init__" qi1 f8) (p9:Pd K "lines_of" qkm f9) (p10:Pd K "value_of" qkn f10) (p11:Pd K "row_of" qnd f11) (a12:AK K (.ref C_Rule) "__init__" = some (some (.ref f12))) (t12:Ci K (.ref f12)=some (.type "function")) (l12:K.lookup f12=some ⟨oc12,od12,.func (Bx "__init__" "Rule.__init__" (qb5 qb0) (qbq qb0) (qab qb0) dV12 kV12 dc12 pm12 an12 cd12 ct12),sl12⟩) (c12:Ca K cd12 "Rule.__init__" = true) (k12:Be K (.ref f12)=true) (pk12:∀ (u0 u1 u2 u3 u4 u5 u6 u7 u8:Value) (S:Setting),PySem.W.peek K S (bindArgs (Bx "__init__" "Rule.__init__" (qb5 qb0) (qbq qb0) (qab qb0) dV12 kV12 dc12 pm12 an12 cd12 ct12) ⟨[u0,u1,u2,u3,u4,u5,u6,u7,u8],[]⟩)=some [(Aa "self",u0),(Aa "name",u1),(Aa "who",u2),(Aa "owes",u3),(Aa "opens",u4),(Aa "base",u5),(Aa "many",u6),(Aa "unit",u7),(Aa "still",u8)]) (pe_RuleInit_8:∀ (u0 u1 u2 u3 u4 u5 u6 u7:Value) (S:Setting),PySem.W.peek K S (bindArgs (Bx "__init__" "Rule.__init__" (qb5 qb0) (qbq qb0) (qab qb0) dV12 kV12 dc12 pm12 an12 cd12 ct12) ⟨[u0,u1,u2,u3,u4,u5,u6,u7],[]⟩)=some [(Aa "self",u0),(Aa "name",u1),(Aa "who",u2),(Aa "owes",u3),(Aa "opens",u4),(Aa "base",u5),(Aa "many",u6),(Aa "unit",u7),(Aa "still",BI)]) (p13:Pm K C_Twice "__init__" "Twice.__init__" qhl f13) (p14:Pm K C_Unfit "__init__" "Unfit.__init__" qhm f14) (p15:Pd K "read_term" qi2 f15) (p16:Pm K C_NoTerm "__init__" "NoTerm.__init__" qgh f16) (p17:Pm K C_Rule "all_kinds" "Rule.all_kinds" qdz f17) (p18:Pd K "kinds_in" qko f18) (p19:Pd K "is_unfit" qh7 f19) (p20:Pd K "read_more" qi3 f20) (p21:Pd K "read_row" qkp f21) (p22:Pd K "settle_yields" qe9 f22) (p23:Pd K "settle_names" qfn f23) (p24:Pm K C_NoRule "__init__" "NoRule.__init__" qgi f24) (p25:Pd K "read_book" qi4 f25) (p26:Pd K "_law_cell_at" qhn f26) (p27:Pd K "_law_words" qi5 f27) (p28:Pd K "_law_yields" qho f28) (p29:Pd K "_law_base" qh8 f29) (p30:Pd K "_law_rule" qh9 f30) (p31:Pd K "_law_rules" qgy f31) (p32:Pd K "_law_sorts" qeg f32) (p33:Pd K "_law_rows" qkq f33) (p34:Pd K "_law_told" qkr f34) (p35:Pd K "_law_right" qi6 f35) (p36:Pd K "_law_name" qks f36) (p37:Pd K "_law_written" qe3 f37) (p38:Pd K "_law_good" qia f38) (p39:Pd K "_law_spoilt" qhp f39) (p40:Pd K "_law_forty" qfc f40) (p41:Pd K "_law_early" qi7 f41) (p42:Pm K C_Book "term_names" "Book.term_names" qer f42) (a43:AA K A7 "law" = some (some (.ref f43))) (l43:K.lookup f43=some ⟨oc43,od43,.func (Bx "law" "law" (qb5 qsn) (qbq qsn) (qab qsn) .none kV43 dc43 pm43 an43 cd43 ct43),sl43⟩) (c43:Ca K cd43 "law" = true) (k43:Be K (.ref f43)=true) (z_ValueError:AA K A7 "ValueError" = some none) (z_all:AA K A7 "all" = some none) (z_any:AA K A7 "any" = some none) (z_bool:AA K A7 "bool" = some none) (z_enumerate:AA K A7 "enumerate" = some none) (z_int:AA K A7 "int" = some none) (z_isinstance:AA K A7 "isinstance" = some none) (z_len:AA K A7 "len" = some none) (z_list:AA K A7 "list" = some none) (z_range:AA K A7 "range" = some none) (z_reversed:AA K A7 "reversed" = some none) (z_str:AA K A7 "str" = some none) (z_zip:AA K A7 "zip" = some none) (q_LONGEST_NAME:AA K A7 "LONGEST_NAME" = some (some (.int 8 tk_LONGEST_NAME))) (q_MOST_ROWS:AA K A7 "MOST_ROWS" = some (some (.int 40 tk_MOST_ROWS))) (q_MOST_TERMS:AA K A7 "MOST_TERMS" = some (some (.int 6 tk_MOST_TERMS))) (q_MOST_LONGER_ROWS:AA K A7 "MOST_LONGER_ROWS" = some (some (.int 2 tk_MOST_LONGER_ROWS))) (q_UNITS:AA K A7 "UNITS" = some (some (.ref A_UNITS))) (lt_UNITS:K.lookup A_UNITS=some ⟨.type "tuple",oa_UNITS,.seq #[.str (Aa "days") tt0_UNITS,.str (Aa "weeks") tt1_UNITS,.str (Aa "court") tt2_UNITS] na_UNITS,sa_UNITS⟩) (q_FORMS:AA K A7 "FORMS" = some (some (.ref A_FORMS))) (lt_FORMS:K.lookup A_FORMS=some ⟨.type "tuple",oa_FORMS,.seq #[.ref A_FORMS_0,.ref A_FORMS_1,.ref A_FORMS_2,.ref A_FORMS_3,.ref A_FORMS_4,.ref A_FORMS_5,.ref A_FORMS_6] na_FORMS,sa_FORMS⟩) (lt_FORMS_0:K.lookup A_FORMS_0=some ⟨.type "tuple",oa_FORMS_0,.seq #[.str (Aa "term") tt0_FORMS_0,.str (Aa "NAME") tt1_FORMS_0,.str (Aa "of") tt2_FORMS_0,.str (Aa "NAME") tt3_FORMS_0,.str (Aa "due") tt4_FORMS_0,.str (Aa "NAME") tt5_FORMS_0,.str (Aa "from") tt6_FORMS_0,.str (Aa "NAME") tt7_FORMS_0,.int 40 tt8_FORMS_0,.str (Aa "UNIT") tt9_FORMS_0] na_FORMS_0,sa_FORMS_0⟩) (lt_FORMS_1:K.lookup A_FORMS_1=some ⟨.type "tuple",oa_FORMS_1,.seq #[.str (Aa "term") tt0_FORMS_1,.str (Aa "NAME") tt1_FORMS_1,.str (Aa "of") tt2_FORMS_1,.str (Aa "NAME") tt3_FORMS_1,.str (Aa "due") tt4_FORMS_1,.str (Aa "NAME") tt5_FORMS_1,.str (Aa "behind") tt6_FORMS_1,.str (Aa "NAME") tt7_FORMS_1,.int 40 tt8_FORMS_1,.str (Aa "UNIT") tt9_FORMS_1] na_FORMS_1,sa_FORMS_1⟩) (lt_FORMS_2:K.lookup A_FORMS_2=some ⟨.type "tuple",oa_FORMS_2,.seq #[.str (Aa "ends") tt0_FORMS_2,.str (Aa "NAME") tt1_FORMS_2,.str (Aa "NAME") tt2_FORMS_2] na_FORMS_2,sa_FORMS_2⟩) (lt_FORMS_3:K.lookup A_FORMS_3=some ⟨.type "tuple",oa_FORMS_3,.seq #[.str (Aa "anew") tt0_FORMS_3,.str (Aa "NAME") tt1_FORMS_3,.str (Aa "NAME") tt2_FORMS_3] na_FORMS_3,sa_FORMS_3⟩) (lt_FORMS_4:K.lookup A_FORMS_4=some ⟨.type "tuple",oa_FORMS_4,.seq #[.str (Aa "longer") tt0_FORMS_4,.str (Aa "NAME") tt1_FORMS_4,.str (Aa "NAME") tt2_FORMS_4,.int 20 tt3_FORMS_4,.str (Aa "times") tt4_FORMS_4,.int 3 tt5_FORMS_4] na_FORMS_4,sa_FORMS_4⟩) (lt_FORMS_5:K.lookup A_FORMS_5=some ⟨.type "tuple",oa_FORMS_5,.seq #[.str (Aa "still") tt0_FORMS_5,.str (Aa "NAME") tt1_FORMS_5,.str (Aa "NAME") tt2_FORMS_5,.str (Aa "NAME") tt3_FORMS_5] na_FORMS_5,sa_FORMS_5⟩) (lt_FORMS_6:K.lookup A_FORMS_6=some ⟨.type "tuple",oa_FORMS_6,.seq #[.str (Aa "yields") tt0_FORMS_6,.str (Aa "NAME") tt1_FORMS_6,.str (Aa "NAME") tt2_FORMS_6] na_FORMS_6,sa_FORMS_6⟩) (cc_Book:qwv K C_Book=true) (cm_Book:mkB K C_Book f8=true) (cn_Book:xNo K C_Book ["name", "who", "owes", "opens", "base", "many", "unit", "still", "ends", "anew", "longer", "yields", "order", "by_name", "names", "at"]=true) (ct_dBookTermNames:qq5 K C_Book "term_names" f42=true) (cb_CourtError:qug K C_CourtError=true) (cx_NoRule:qpq K C_NoRule (some (.ref f24))=true) (cn_NoRule:xNo K C_NoRule ["name", "who", "owes", "opens", "base", "many", "unit", "still", "ends", "anew", "longer", "yields", "order", "by_name", "names", "at"]=true) (ck_NoRule:qgf K C_NoRule [Al C_CourtError,BW "ValueError",Al C_NoRule,Al C_NoTerm,Al C_Twice,Al C_Unfit,Al C_Ring] [true,true,true,false,false,false,false]=true) (cx_NoTerm:qpq K C_NoTerm (some (.ref f16))=true) (cn_NoTerm:xNo K C_NoTerm ["name", "who", "owes", "opens", "base", "many", "unit", "still", "ends", "anew", "longer", "yields", "order", "by_name", "names", "at"]=true) (ck_NoTerm:qgf K C_NoTerm [Al C_CourtError,BW "ValueError",Al C_NoRule,Al C_NoTerm,Al C_Twice,Al C_Unfit,Al C_Ring] [true,true,false,true,false,false,false]=true) (cx_Ring:qpq K C_Ring (some (.ref f3))=true) (cn_Ring:xNo K C_Ring ["name", "who", "owes", "opens", "base", "many", "unit", "still", "ends", "anew", "longer", "yields", "order", "by_name", "names", "at"]=true) (ck_Ring:qgf K C_Ring [Al C_CourtError,BW "ValueError",Al C_NoRule,Al C_NoTerm,Al C_Twice,Al C_Unfit,Al C_Ring] [true,true,false,false,false,false,true]=true) (cc_Rule:qwv K C_Rule=true) (cm_Rule:mkB K C_Rule f12=true) (cn_Rule:xNo K C_Rule ["name", "who", "owes", "opens", "base", "many", "unit", "still", "ends", "anew", "longer", "yields", "order", "by_name", "names", "at"]=true) (ct_dRuleAllKinds:qq5 K C_Rule "all_kinds" f17=true) (cx_Twice:qpq K C_Twice (some (.ref f13))=true) (cn_Twice:xNo K C_Twice ["name", "who", "owes", "opens", "base", "many", "unit", "still", "ends", "anew", "longer", "yields", "order", "by_name", "names", "at"]=true) (ck_Twice:qgf K C_Twice [Al C_CourtError,BW "ValueError",Al C_NoRule,Al C_NoTerm,Al C_Twice,Al C_Unfit,Al C_Ring] [true,true,false,false,true,false,false]=true) (cx_Unfit:qpq K C_Unfit (some (.ref f14))=true) (cn_Unfit:xNo K C_Unfit ["name", "who", "owes", "opens", "base", "many", "unit", "still", "ends", "anew", "longer", "yields", "order", "by_name", "names", "at"]=true) (ck_Unfit:qgf K C_Unfit [Al C_CourtError,BW "ValueError",Al C_NoRule,Al C_NoTerm,Al C_Twice,Al C_Unfit,Al C_Ring] [true,true,false,false,false,true,false]=true) (cr_NoRule:qhj K C_NoRule=true) (ch_NoRule_Adrift:(Ac K (.ref C_NoRule) (.ref C_Adrift) == some false)=true) (ch_NoRule_Full:(Ac K (.ref C_NoRule) (.ref C_Full) == some false)=true) (ch_NoRule_NoAct:(Ac K (.ref C_NoRule) (.ref C_NoAct) == some false)=true) (ch_NoRule_NoDay:(Ac K (.ref C_NoRule) (.ref C_NoDay) == some false)=true) (ch_NoRule_NoName:(Ac K (.ref C_NoRule) (.ref C_NoName) == some false)=true) (ch_NoRule_NoRow:(Ac K (.ref C_NoRule) (.ref C_NoRow) == some false)=true) (ch_NoRule_NoRule:(Ac K (.ref C_NoRule) (.ref C_NoRule) == some true)=true) (ch_NoRule_NoTable:(Ac K (.ref C_NoRule) (.ref C_NoTable) == some false)=true) (ch_NoRule_NoTerm:(Ac K (.ref C_NoRule) (.ref C_NoTerm) == some false)=true) (ch_NoRule_Parted:(Ac K (.ref C_NoRule) (.ref C_Parted) == some false)=true) (ch_NoRule_Ring:(Ac K (.ref C_NoRule) (.ref C_Ring) == some false)=true) (ch_NoRule_Twice:(Ac K (.ref C_NoRule) (.ref C_Twice) == some false)=true) (ch_NoRule_Unfit:(Ac K (.ref C_NoRule) (.ref C_Unfit) == some false)=true) (cr_NoTerm:qhj K C_NoTerm=true) (ch_NoTerm_Adrift:(Ac K (.ref C_NoTerm) (.ref C_Adrift) == some false)=true) (ch_NoTerm_Full:(Ac K (.ref C_NoTerm) (.ref C_Full) == some false)=true) (ch_NoTerm_NoAct:(Ac K (.ref C_NoTerm) (.ref C_NoAct) == some false)=true) (ch_NoTerm_NoDay:(Ac K (.ref C_NoTerm) (.ref C_NoDay) == some false)=true) (ch_NoTerm_NoName:(Ac K (.ref C_NoTerm) (.ref C_NoName) == some false)=true) (ch_NoTerm_NoRow:(Ac K (.ref C_NoTerm) (.ref C_NoRow) == some false)=true) (ch_NoTerm_NoRule:(Ac K (.ref C_NoTerm) (.ref C_NoRule) == some false)=true) (ch_NoTerm_NoTable:(Ac K (.ref C_NoTerm) (.ref C_NoTable) == some false)=true) (ch_NoTerm_NoTerm:(Ac K (.ref C_NoTerm) (.ref C_NoTerm) == some true)=true) (ch_NoTerm_Parted:(Ac K (.ref C_NoTerm) (.ref C_Parted) == some false)=true) (ch_NoTerm_Ring:(Ac K (.ref C_NoTerm) (.ref C_Ring) == some false)=true) (ch_NoTerm_Twice:(Ac K (.ref C_NoTerm) (.ref C_Twice) == some false)=true) (ch_NoTerm_Unfit:(Ac K (.ref C_NoTerm) (.ref C_Unfit) == some false)=true) (cr_Ring:qhj K C_Ring=true) (ch_Ring_Adrift:(Ac K (.ref C_Ring) (.ref C_Adrift) == some false)=true) (ch_Ring_Full:(Ac K (.ref C_Ring) (.ref C_Full) == some false)=true) (ch_Ring_NoAct:(Ac K (.ref C_Ring) (.ref C_NoAct) == some false)=true) (ch_Ring_NoDay:(Ac K (.ref C_Ring) (.ref C_NoDay) == some false)=true) (ch_Ring_NoName:(Ac K (.ref C_Ring) (.ref C_NoName) == some false)=true) (ch_Ring_NoRow:(Ac K (.ref C_Ring) (.ref C_NoRow) == some false)=true) (ch_Ring_NoRule:(Ac K (.ref C_Ring) (.ref C_NoRule) == some false)=true) (ch_Ring_NoTable:(Ac K (.ref C_Ring) (.ref C_NoTable) == some false)=true) (ch_Ring_NoTerm:(Ac K (.ref C_Ring) (.ref C_NoTerm) == some false)=true) (ch_Ring_Parted:(Ac K (.ref C_Ring) (.ref C_Parted) == some false)=true) (ch_Ring_Ring:(Ac K (.ref C_Ring) (.ref C_Ring) == some true)=true) (ch_Ring_Twice:(Ac K (.ref C_Ring) (.ref C_Twice) == some false)=true) (ch_Ring_Unfit:(Ac K (.ref C_Ring) (.ref C_Unfit) == some false)=true) (cr_Twice:qhj K C_Twice=true) (ch_Twice_Adrift:(Ac K (.ref C_Twice) (.ref C_Adrift) == some false)=true) (ch_Twice_Full:(Ac K (.ref C_Twice) (.ref C_Full) == some false)=true) (ch_Twice_NoAct:(Ac K (.ref C_Twice) (.ref C_NoAct) == some false)=true) (ch_Twice_NoDay:(Ac K (.ref C_Twice) (.ref C_NoDay) == some false)=true) (ch_Twice_NoName:(Ac K (.ref C_Twice) (.ref C_NoName) == some false)=true) (ch_Twice_NoRow:(Ac K (.ref C_Twice) (.ref C_NoRow) == some false)=true) (ch_Twice_NoRule:(Ac K (.ref C_Twice) (.ref C_NoRule) == some false)=true) (ch_Twice_NoTable:(Ac K (.ref C_Twice) (.ref C_NoTable) == some false)=true) (ch_Twice_NoTerm:(Ac K (.ref C_Twice) (.ref C_NoTerm) == some false)=true) (ch_Twice_Parted:(Ac K (.ref C_Twice) (.ref C_Parted) == some false)=true) (ch_Twice_Ring:(Ac K (.ref C_Twice) (.ref C_Ring) == some false)=true) (ch_Twice_Twice:(Ac K (.ref C_Twice) (.ref C_Twice) == some true)=true) (ch_Twice_Unfit:(Ac K (.ref C_Twice) (.ref C_Unfit) == some false)=true) (cr_Unfit:qhj K C_Unfit=true) (ch_Unfit_Adrift:(Ac K (.ref C_Unfit) (.ref C_Adrift) == some false)=true) (ch_Unfit_Full:(Ac K (.ref C_Unfit) (.ref C_Full) == some false)=true) (ch_Unfit_NoAct:(Ac K (.ref C_Unfit) (.ref C_NoAct) == some false)=true) (ch_Unfit_NoDay:(Ac K (.ref C_Unfit) (.ref C_NoDay) == some false)=true) (ch_Unfit_NoName:(Ac K (.ref C_Unfit) (.ref C_NoName) == some false)=true) (ch_Unfit_NoRow:(Ac K (.ref C_Unfit) (.ref C_NoRow) == some false)=true) (ch_Unfit_NoRule:(Ac K (.ref C_Unfit) (.ref C_NoRule) == some false)=true) (ch_Unfit_NoTable:(Ac K (.ref C_Unfit) (.ref C_NoTable) == some false)=true) (ch_Unfit_NoTerm:(Ac K (.ref C_Unfit) (.ref C_NoTerm) == some false)=true) (ch_Unfit_Parted:(Ac K (.ref C_Unfit) (.ref C_Parted) == some false)=true) (ch_Unfit_Ring:(Ac K (.ref C_Unfit) (.ref C_Ring) == some false)=true) (ch_Unfit_Twice:(Ac K (.ref C_Unfit) (.ref C_Twice) == some false)=true) (ch_Unfit_Unfit:(Ac K (.ref C_Unfit) (.ref C_Unfit) == some true)=true)
  : ∃ fd:AD,(∀ (s:Ah) (v:Value),BindsTo s fd ⟨[v],[]⟩ [("_law_script",v)])/\∀ base:Heap,K.In base->base.Ns A7 mg->FnOk l.prog w K mg base CX0 11 fa fd ["_law_script"] (qrb K):=by
 have e:=hfa.symm.trans (AV X G a43)
 cases e
 obtain ⟨g0,d0⟩:=qbr X G p0 (ps:=["sign"]) λ_ _ _ _ _ _=>qf1 λ_=>rfl
 obtain ⟨g1,d1⟩:=qbr X G p1 (ps:=["text", "most_figures"]) λ_ _ _ _ _ _=>qib λ_ _=>rfl
 obtain ⟨g2,d2⟩:=qbr X G p2 (ps:=["text", "most"]) λ_ _ _ _ _ _=>qib λ_ _=>rfl
 obtain ⟨g3,d3⟩:=qjf p3 (ps:=["self", "names"]) λ_ _ _ _ _ _=>qib λ_ _=>rfl
 obtain ⟨g4,d4⟩:=qbr X G p4 (ps:=["name", "bases", "taken"]) λ_ _ _ _ _ _=>qlr λ_ _ _=>rfl
 obtain ⟨g5,d5⟩:=qbr X G p5 (ps:=["rules"]) λ_ _ _ _ _ _=>qf1 λ_=>rfl
 obtain ⟨g6,d6⟩:=qbr X G p6 (ps:=["sign"]) λ_ _ _ _ _ _=>qf1 λ_=>rfl
 obtain ⟨g7,d7⟩:=qbr X G p7 (ps:=["thing"]) λ_ _ _ _ _ _=>qf1 λ_=>rfl
 obtain ⟨g8,d8⟩:=qjf p8 (ps:=["self", "rules"]) λ_ _ _ _ _ _=>qib λ_ _=>rfl
 obtain ⟨g9,d9⟩:=qbr X G p9 (ps:=["text"]) λ_ _ _ _ _ _=>qf1 λ_=>rfl
 obtain ⟨g10,d10⟩:=qbr X G p10 (ps:=["word", "asked"]) λ_ _ _ _ _ _=>qib λ_ _=>rfl
 obtain ⟨g11,d11⟩:=qbr X G p11 (ps:=["line"]) λ_ _ _ _ _ _=>qf1 λ_=>rfl
 obtain ⟨g13,d13⟩:=qjf p13 (ps:=["self", "name"]) λ_ _ _ _ _ _=>qib λ_ _=>rfl
 obtain ⟨g14,d14⟩:=qjf p14 (ps:=["self", "at"]) λ_ _ _ _ _ _=>qib λ_ _=>rfl
 obtain ⟨g15,d15⟩:=qbr X G p15 (ps:=["told", "at", "row"]) λ_ _ _ _ _ _=>qlr λ_ _ _=>rfl
 obtain ⟨g16,d16⟩:=qjf p16 (ps:=["self", "name"]) λ_ _ _ _ _ _=>qib λ_ _=>rfl
 obtain ⟨g17,d17⟩:=qjf p17 (ps:=["self"]) λ_ _ _ _ _ _=>qf1 λ_=>rfl
 obtain ⟨g18,d18⟩:=qbr X G p18 (ps:=["row"]) λ_ _ _ _ _ _=>qf1 λ_=>rfl
 obtain ⟨g19,d19⟩:=qbr X G p19 (ps:=["rule", "row"]) λ_ _ _ _ _ _=>qib λ_ _=>rfl
 obtain ⟨g20,d20⟩:=qbr X G p20 (ps:=["rule", "at", "row"]) λ_ _ _ _ _ _=>qlr λ_ _ _=>rfl
 obtain ⟨g21,d21⟩:=qbr X G p21 (ps:=["told", "at", "row"]) λ_ _ _ _ _ _=>qlr λ_ _ _=>rfl
 obtain ⟨g22,d22⟩:=qbr X G p22 (ps:=["told", "rule", "at", "other"]) λ_ _ _ _ _ _=>arg4 λ_ _ _ _=>rfl
 obtain ⟨g23,d23⟩:=qbr X G p23 (ps:=["told", "at", "row"]) λ_ _ _ _ _ _=>qlr λ_ _ _=>rfl
 obtain ⟨g24,d24⟩:=qjf p24 (ps:=["self", "at"]) λ_ _ _ _ _ _=>qib λ_ _=>rfl
 obtain ⟨g25,d25⟩:=qbr X G p25 (ps:=["text"]) λ_ _ _ _ _ _=>qf1 λ_=>rfl
 obtain ⟨g26,d26⟩:=qbr X G p26 (ps:=["_law_script", "_law_k"]) λ_ _ _ _ _ _=>qib λ_ _=>rfl
 obtain ⟨g27,d27⟩:=qbr X G p27 (ps:=["_law_cell", "_law_many"]) λ_ _ _ _ _ _=>qib λ_ _=>rfl
 obtain ⟨g28,d28⟩:=qbr X G p28 (ps:=["_law_script", "_law_at", "_law_names"]) λ_ _ _ _ _ _=>qlr λ_ _ _=>rfl
 obtain ⟨g29,d29⟩:=qbr X G p29 (ps:=["_law_script", "_law_at", "_law_names"]) λ_ _ _ _ _ _=>qlr λ_ _ _=>rfl
 obtain ⟨g30,d30⟩:=qbr X G p30 (ps:=["_law_script", "_law_at", "_law_names", "_law_kinds"]) λ_ _ _ _ _ _=>arg4 λ_ _ _ _=>rfl
 obtain ⟨g31,d31⟩:=qbr X G p31 (ps:=["_law_script", "_law_names", "_law_kinds", "_law_most"]) λ_ _ _ _ _ _=>arg4 λ_ _ _ _=>rfl
 obtain ⟨g32,d32⟩:=qbr X G p32 (ps:=["_law_rule_here"]) λ_ _ _ _ _ _=>qf1 λ_=>rfl
 obtain ⟨g33,d33⟩:=qbr X G p33 (ps:=["_law_rule_here"]) λ_ _ _ _ _ _=>qf1 λ_=>rfl
 obtain ⟨g34,d34⟩:=qbr X G p34 (ps:=["_law_text"]) λ_ _ _ _ _ _=>qf1 λ_=>rfl
 obtain ⟨g35,d35⟩:=qbr X G p35 (ps:=["_law_text", "_law_word", "_law_field"]) λ_ _ _ _ _ _=>qlr λ_ _ _=>rfl
 obtain ⟨g36,d36⟩:=qbr X G p36 (ps:=["_law_word"]) λ_ _ _ _ _ _=>qf1 λ_=>rfl
 obtain ⟨g37,d37⟩:=qbr X G p37 (ps:=["_law_word", "_law_most"]) λ_ _ _ _ _ _=>qib λ_ _=>rfl
 obtain ⟨g38,d38⟩:=qbr X G p38 (ps:=["_law_words_here"]) λ_ _ _ _ _ _=>qf1 λ_=>rfl
 obtain ⟨g39,d39⟩:=qbr X G p39 (ps:=["_law_words_here", "_law_way", "_law_cell"]) λ_ _ _ _ _ _=>qlr λ_ _ _=>rfl
 obtain ⟨g40,d40⟩:=qbr X G p40 (ps:=["_law_script"]) λ_ _ _ _ _ _=>qf1 λ_=>rfl
 obtain ⟨g41,d41⟩:=qbr X G p41 (ps:=["_law_script"]) λ_ _ _ _ _ _=>qf1 λ_=>rfl
 obtain ⟨g42,d42⟩:=qjf p42 (ps:=["self"]) λ_ _ _ _ _ _=>qf1 λ_=>rfl
 have F12:=qwz (st:=qb0) l12 c12 k12
 have b12:Binds K _ ["self", "name", "who", "owes", "opens", "base", "many", "unit", "still"] []:=qup (ds:=[]) λus hl S=>match us,hl with | [u0,u1,u2,u3,u4,u5,u6,u7,u8],_=>pk12 u0 u1 u2 u3 u4 u5 u6 u7 u8 S
 have F43:=qpm (st:=qsn) l43 c43 k43
 have b43:=F43.binds (ps:=["_law_script"]) λ_ _ _ _ _ _ us hl=>match us,hl with | [_],_=>rfl
 have he_RuleInit_8:Binds K _ ["self", "name", "who", "owes", "opens", "base", "many", "unit", "still"] [.none]:=qup λus hl S=>match us,(show us.length=8 by rw [Ag] at hl; exact Nat.add_right_cancel hl) with | [u0,u1,u2,u3,u4,u5,u6,u7],_=>pe_RuleInit_8 u0 u1 u2 u3 u4 u5 u6 u7 S
 have T:Txt K mg { nO:=f0,nG:=g0,lQ:=f1,mE:=g1,lT:=f2,nW:=g2,fJ:=f3,mB:=g3,nR:=f4,fX:=g4,mM:=f5,nZ:=g5,pA:=f6,lD:=g6,fM:=f7,lU:=g7,dQ:=f8,mI:=g8,nU:=f9,fW:=g9,nX:=f10,nC:=g10,fU:=f11,mL:=g11,dP:=f12,dN:=_,fF:=f13,nN:=g13,dX:=f14,lF:=g14,mO:=f15,fV:=g15,dS:=f16,fS:=g16,dY:=f17,nH:=g17,hZ:=f18,fY:=g18,hG:=f19,lK:=g19,lJ:=f20,nA:=g20,nB:=f21,mY:=g21,hX:=f22,lI:=g22,nV:=f23,mH:=g23,fK:=f24,lO:=g24,mU:=f25,nQ:=g25,fL:=f26,lZ:=g26,lR:=f27,nE:=g27,lH:=f28,nM:=g28,nK:=f29,lE:=g29,mT:=f30,fZ:=g30,mK:=f31,mS:=g31,fQ:=f32,mV:=g32,fN:=f33,nP:=g33,nY:=f34,nJ:=g34,hU:=f35,mC:=g35,nD:=f36,fT:=g36,hV:=f37,lC:=g37,lY:=f38,mJ:=g38,nF:=f39,lW:=g39,mQ:=f40,mD:=g40,mF:=f41,lV:=g41,dR:=f42,mP:=g42,nI:=fa,mR:=_,gN:=C_Adrift,kL:=C_Book,kN:=C_CourtError,gQ:=C_Full,gO:=C_NoAct,gP:=C_NoDay,gJ:=C_NoName,gG:=C_NoRow,kH:=C_NoRule,gH:=C_NoTable,kG:=C_NoTerm,gR:=C_Parted,kB:=C_Ring,k7:=C_Rule,kF:=C_Twice,k9:=C_Unfit,dO:=A_UNITS,gZ:=A_FORMS,bM:=A_FORMS_0,dL:=A_FORMS_1,bG:=A_FORMS_2,bH:=A_FORMS_3,bT:=A_FORMS_4,bN:=A_FORMS_5,dE:=A_FORMS_6 }:={
  bC:=d0,
  bJ:=d1,
  gY:=d2,
  fG:=d3,
  bE:=d4,
  bK:=d5,
  bI:=d6,
  bQ:=d7,
  mW:=d8,
  bU:=d9,
  bB:=d10,
  dB:=d11,
  r9:=⟨F12,b12,t12⟩,
  fB:=d13,
  kY:=d14,
  dJ:=d15,
  gF:=d16,
  lN:=d17,
  dM:=d18,
  dI:=d19,
  dA:=d20,
  bL:=d21,
  bW:=d22,
  bR:=d23,
  dW:=d24,
  kP:=d25,
  k8:=d26,
  kO:=d27,
  bD:=d28,
  dG:=d29,
  dC:=d30,
  bY:=d31,
  bV:=d32,
  bF:=d33,
  gC:=d34,
  kQ:=d35,
  dH:=d36,
  kR:=d37,
  gE:=d38,
  bA:=d39,
  gD:=d40,
  bZ:=d41,
  dZ:=d42,
  rU:=⟨F43,AV X G a43,b43⟩,
  pT:=AV X G ca_Adrift,
  rJ:=AV X G ca_Book,
  gK:=qul cc_Book,
  tG:=qyf cm_Book,
  dD:=cn_Book,
  lP:=qq6 ct_dBookTermNames,
  kS:=AV X G ca_CourtError,
  gW:=xb_of cb_CourtError,
  pE:=AV X G ca_Full,
  rG:=AV X G ca_NoAct,
  rK:=AV X G ca_NoDay,
  rV:=AV X G ca_NoName,
  tM:=AV X G ca_NoRow,
  fP:=AV X G ca_NoRule,
  kT:=qoh cx_NoRule,
  bX:=cn_NoRule,
  gS:=ck_NoRule,
  sD:=AV X G ca_NoTable,
  gX:=AV X G ca_NoTerm,
  kM:=qoh cx_NoTerm,
  bO:=cn_NoTerm,
  gT:=ck_NoTerm,
  sZ:=AV X G ca_Parted,
  gM:=AV X G ca_Ring,
  gL:=qoh cx_Ring,
  fO:=cn_Ring,
  lG:=ck_Ring,
  sI:=AV X G ca_Rule,
  kD:=qul cc_Rule,
  pY:=qyf cm_Rule,
  kE:=cn_Rule,
  tK:=qq6 ct_dRuleAllKinds,
  bS:=AV X G ca_Twice,
  kZ:=qoh cx_Twice,
  nL:=cn_Twice,
  dF:=ck_Twice,
  gA:=AV X G ca_Unfit,
  kK:=qoh cx_Unfit,
  kW:=cn_Unfit,
  fE:=ck_Unfit,
  fD:=qoj cr_NoRule,
  sX:=beq_iff_eq.mp ch_NoRule_Adrift,
  pZ:=beq_iff_eq.mp ch_NoRule_Full,
  tD:=beq_iff_eq.mp ch_NoRule_NoAct,
  pM:=beq_iff_eq.mp ch_NoRule_NoDay,
  rO:=beq_iff_eq.mp ch_NoRule_NoName,
  pB:=beq_iff_eq.mp ch_NoRule_NoRow,
  sU:=beq_iff_eq.mp ch_NoRule_NoRule,
  pU:=beq_iff_eq.mp ch_NoRule_NoTable,
  tU:=beq_iff_eq.mp ch_NoRule_NoTerm,
  sL:=beq_iff_eq.mp ch_NoRule_Parted,
  xC:=beq_iff_eq.mp ch_NoRule_Ring,
  xA:=beq_iff_eq.mp ch_NoRule_Twice,
  tV:=beq_iff_eq.mp ch_NoRule_Unfit,
  fH:=qoj cr_NoTerm,
  pF:=beq_iff_eq.mp ch_NoTerm_Adrift,
  r6:=beq_iff_eq.mp ch_NoTerm_Full,
  pP:=beq_iff_eq.mp ch_NoTerm_NoAct,
  pI:=beq_iff_eq.mp ch_NoTerm_NoDay,
  tH:=beq_iff_eq.mp ch_NoTerm_NoName,
  pQ:=beq_iff_eq.mp ch_NoTerm_NoRow,
  sV:=beq_iff_eq.mp ch_NoTerm_NoRule,
  pW:=beq_iff_eq.mp ch_NoTerm_NoTable,
  rA:=beq_iff_eq.mp ch_NoTerm_NoTerm,
  pD:=beq_iff_eq.mp ch_NoTerm_Parted,
  tY:=beq_iff_eq.mp ch_NoTerm_Ring,
  tX:=beq_iff_eq.mp ch_NoTerm_Twice,
  xB:=beq_iff_eq.mp ch_NoTerm_Unfit,
  rZ:=qoj cr_Ring,
  rP:=beq_iff_eq.mp ch_Ring_Adrift,
  rY:=beq_iff_eq.mp ch_Ring_Full,
  sE:=beq_iff_eq.mp ch_Ring_NoAct,
  tL:=beq_iff_eq.mp ch_Ring_NoDay,
  rQ:=beq_iff_eq.mp ch_Ring_NoName,
  rH:=beq_iff_eq.mp ch_Ring_NoRow,
  sW:=beq_iff_eq.mp ch_Ring_NoRule,
  r8:=beq_iff_eq.mp ch_Ring_NoTable,
  pX:=beq_iff_eq.mp ch_Ring_NoTerm,
  tQ:=beq_iff_eq.mp ch_Ring_Parted,
  sP:=beq_iff_eq.mp ch_Ring_Ring,
  pN:=beq_iff_eq.mp ch_Ring_Twice,
  tE:=beq_iff_eq.mp ch_Ring_Unfit,
  pJ:=qoj cr_Twice,
  tN:=beq_iff_eq.mp ch_Twice_Adrift,
  rD:=beq_iff_eq.mp ch_Twice_Full,
  sF:=beq_iff_eq.mp ch_Twice_NoAct,
  sS:=beq_iff_eq.mp ch_Twice_NoDay,
  sT:=beq_iff_eq.mp ch_Twice_NoName,
  sR:=beq_iff_eq.mp ch_Twice_NoRow,
  rL:=beq_iff_eq.mp ch_Twice_NoRule,
  sN:=beq_iff_eq.mp ch_Twice_NoTable,
  pO:=beq_iff_eq.mp ch_Twice_NoTerm,
  sQ:=beq_iff_eq.mp ch_Twice_Parted,
  tW:=beq_iff_eq.mp ch_Twice_Ring,
  rT:=beq_iff_eq.mp ch_Twice_Twice,
  xD:=beq_iff_eq.mp ch_Twice_Unfit,
  gB:=qoj cr_Unfit,
  rW:=beq_iff_eq.mp ch_Unfit_Adrift,
  tR:=beq_iff_eq.mp ch_Unfit_Full,
  pV:=beq_iff_eq.mp ch_Unfit_NoAct,
  rC:=beq_iff_eq.mp ch_Unfit_NoDay,
  tI:=beq_iff_eq.mp ch_Unfit_NoName,
  pG:=beq_iff_eq.mp ch_Unfit_NoRow,
  rM:=beq_iff_eq.mp ch_Unfit_NoRule,
  tP:=beq_iff_eq.mp ch_Unfit_NoTable,
  rR:=beq_iff_eq.mp ch_Unfit_NoTerm,
  rF:=beq_iff_eq.mp ch_Unfit_Parted,
  tZ:=beq_iff_eq.mp ch_Unfit_Ring,
  tS:=beq_iff_eq.mp ch_Unfit_Twice,
  tO:=beq_iff_eq.mp ch_Unfit_Unfit,
  pH:=he_RuleInit_8,
  gU:=Bm X G z_ValueError,
  dU:=Bm X G z_all,
  sK:=Bm X G z_any,
  pK:=Bm X G z_bool,
  mZ:=Bm X G z_enumerate,
  bP:=Bm X G z_int,
  kJ:=Bm X G z_isinstance,
  kI:=Bm X G z_len,
  gI:=Bm X G z_list,
  kU:=Bm X G z_range,
  lA:=Bm X G z_reversed,
  kX:=Bm X G z_str,
  rE:=Bm X G z_zip,
  tT:=⟨_,AV X G q_LONGEST_NAME⟩,
  pS:=⟨_,AV X G q_MOST_ROWS⟩,
  pC:=⟨_,AV X G q_MOST_TERMS⟩,
  pR:=⟨_,AV X G q_MOST_LONGER_ROWS⟩,
  rX:=AV X G q_UNITS,rS:=λH=>.inr ⟨_,_,_,lt_UNITS,rfl,rfl,by show 3 <= A0; rw [Bf]; decide,.cons ⟨_,rfl⟩ (.cons ⟨_,rfl⟩ (.cons ⟨_,rfl⟩ (.nil)))⟩,
  rN:=AV X G q_FORMS,mG:=λH=>.inr ⟨_,_,_,lt_FORMS,rfl,rfl,by show 7 <= A0; rw [Bf]; decide,.cons rfl (.cons rfl (.cons rfl (.cons rfl (.cons rfl (.cons rfl (.cons rfl (.nil)))))))⟩,
  sY:=λH=>.inr ⟨_,_,_,lt_FORMS_0,rfl,rfl,by show 10 <= A0; rw [Bf]; decide,.cons ⟨_,rfl⟩ (.cons ⟨_,rfl⟩ (.cons ⟨_,rfl⟩ (.cons ⟨_,rfl⟩ (.cons ⟨_,rfl⟩ (.cons ⟨_,rfl⟩ (.cons ⟨_,rfl⟩ (.cons ⟨_,rfl⟩ (.cons ⟨_,rfl⟩ (.cons ⟨_,rfl⟩ (.nil))))))))))⟩,
  sO:=λH=>.inr ⟨_,_,_,lt_FORMS_1,rfl,rfl,by show 10 <= A0; rw [Bf]; decide,.cons ⟨_,rfl⟩ (.cons ⟨_,rfl⟩ (.cons ⟨_,rfl⟩ (.cons ⟨_,rfl⟩ (.cons ⟨_,rfl⟩ (.cons ⟨_,rfl⟩ (.cons ⟨_,rfl⟩ (.cons ⟨_,rfl⟩ (.cons ⟨_,rfl⟩ (.cons ⟨_,rfl⟩ (.nil))))))))))⟩,
  tF:=λH=>.inr ⟨_,_,_,lt_FORMS_2,rfl,rfl,by show 3 <= A0; rw [Bf]; decide,.cons ⟨_,rfl⟩ (.cons ⟨_,rfl⟩ (.cons ⟨_,rfl⟩ (.nil)))⟩,
  sG:=λH=>.inr ⟨_,_,_,lt_FORMS_3,rfl,rfl,by show 3 <= A0; rw [Bf]; decide,.cons ⟨_,rfl⟩ (.cons ⟨_,rfl⟩ (.cons ⟨_,rfl⟩ (.nil)))⟩,
  pL:=λH=>.inr ⟨_,_,_,lt_FORMS_4,rfl,rfl,by show 6 <= A0; rw [Bf]; decide,.cons ⟨_,rfl⟩ (.cons ⟨_,rfl⟩ (.cons ⟨_,rfl⟩ (.cons ⟨_,rfl⟩ (.cons ⟨_,rfl⟩ (.cons ⟨_,rfl⟩ (.nil))))))⟩,
  sM:=λH=>.inr ⟨_,_,_,lt_FORMS_5,rfl,rfl,by show 4 <= A0; rw [Bf]; decide,.cons ⟨_,rfl⟩ (.cons ⟨_,rfl⟩ (.cons ⟨_,rfl⟩ (.cons ⟨_,rfl⟩ (.nil))))⟩,
  rB:=λH=>.inr ⟨_,_,_,lt_FORMS_6,rfl,rfl,by show 3 <= A0; rw [Bf]; decide,.cons ⟨_,rfl⟩ (.cons ⟨_,rfl⟩ (.cons ⟨_,rfl⟩ (.nil)))⟩ }
 exact ⟨_,λs v=>.of_eq rfl,λbase _ _=>okLaw T⟩
theorem walk {l:PySem.W.OpenLaw} {q:AN} {loose:List Str} {XP:(Str->Option Value)->Heap->Prop} {YP:World->Heap->Prop} {d:DefRec} {K:Params->Ae} (hn:l.most=some 63) (hdf:d.params.defaults=[])
  (hY:∀ (w:World) (h:Heap),YP w h->(K w.params).In h)
  (F:∀ (w:World) (mg:Str->Option Value) (fa:Addr) (h:Heap),(K w.params).In h->h.Ns A7 mg->mg d.name=some (.ref fa) ->
   ∃ fd:AD,(∀ (s:Ah) (u:Value),BindsTo s fd ⟨[u],[]⟩ [("_law_script",u)])/\∀ base:Heap,(K w.params).In base->base.Ns A7 mg->FnOk l.prog w (K w.params) mg base CX0 11 fa fd ["_law_script"] (qrb (K w.params))) :
  PySem.W.WalkO q loose XP YP l.row.toRowW d [] (λf vs=>PySem.call f vs) :=
 L2.walk_of (n:=63) (k:=11) (x := "_law_script") (CX:=λ_=>CX0) (sp:=λw=>qrb (K w.params)) hn Ez hdf ⟨rfl,Ez,Ez⟩ hY F (λ_ _ a ns hl _ hS=>⟨a,ns,rfl,hS,hl,λ_=>rfl⟩) λ_ _ _ _ _ z=>z
end K44
namespace PySem.W.Fast
noncomputable def tw693481120664729318:Unit:=()
noncomputable def tw444781820484859842:Unit:=()
noncomputable def tw17908923147447825069:Unit:=()
noncomputable def tw17613862648284510433:Unit:=()
noncomputable def tw3257006521196830041:Unit:=()
noncomputable def tw5302918764523216999:Unit:=()
noncomputable def tw6819574385116508870:Unit:=()
noncomputable def tw12452320810420405438:Unit:=()
noncomputable def tw17344163808995257736:Unit:=()
noncomputable def tw17612317553106148503:Unit:=()
noncomputable def tw597827865885703645:Unit:=()
noncomputable def tw8467341142376946387:Unit:=()
noncomputable def tw1312484781117729836:Unit:=()
noncomputable def tw3121711154048515194:Unit:=()
noncomputable def tw9279466181765703001:Unit:=()
noncomputable def tw15168780933466847309:Unit:=()
noncomputable def tw15779004597489073234:Unit:=()
noncomputable def tw2115762808252647915:Unit:=()
noncomputable def tw14621305484233412923:Unit:=()
noncomputable def tw10570934696086387672:Unit:=()
noncomputable def tw14453388109963987123:Unit:=()
noncomputable def tw10491626063262236966:Unit:=()
noncomputable def tw4021275890845220016:Unit:=()
noncomputable def tw14756291457768892916:Unit:=()
noncomputable def tw10703150606395232733:Unit:=()
noncomputable def tw14796200092832691738:Unit:=()
noncomputable def tw12810200336747438881:Unit:=()
noncomputable def tw12233968666227389812:Unit:=()
noncomputable def tw5842240035760065164:Unit:=()
noncomputable def tw9890554597735912930:Unit:=()
noncomputable def tw1743509753252483469:Unit:=()
noncomputable def tw7782108467343221233:Unit:=()
noncomputable def tw10240424162334234530:Unit:=()
noncomputable def tw12963523038908166921:Unit:=()
noncomputable def tw1615617872745401788:Unit:=()
noncomputable def tw13263720726513169705:Unit:=()
noncomputable def tw16263567407022653090:Unit:=()
noncomputable def tw18392584309133090655:Unit:=()
noncomputable def tw14308527519050083888:Unit:=()
noncomputable def tw2761204729796686118:Unit:=()
noncomputable def tw12747384851363905224:Unit:=()
noncomputable def tw15867796974374237032:Unit:=()
noncomputable def tw6334658683418108572:Unit:=()
noncomputable def tw2163681786575612929:Unit:=()
noncomputable def tw13807267739880565619:Unit:=()
noncomputable def tw11594554484919327689:Unit:=()
noncomputable def tw8972215706046282452:Unit:=()
noncomputable def tw14641295069466561072:Unit:=()
noncomputable def tw12913602520868266564:Unit:=()
noncomputable def tw1065059152996272037:Unit:=()
noncomputable def tw4762854355503250013:Unit:=()
noncomputable def tw10796915367176951287:Unit:=()
noncomputable def tw7937728451818251269:Unit:=()
noncomputable def tw5212964681613599641:Unit:=()
noncomputable def tw6548856592696199637:Unit:=()
noncomputable def tw6433751788455302010:Unit:=()
noncomputable def tw8733010950861385824:Unit:=()
noncomputable def tw16395733160295595486:Unit:=()
noncomputable def tw14442784855153780720:Unit:=()
noncomputable def tw1881287005489190022:Unit:=()
noncomputable def tw16248843480724986048:Unit:=()
noncomputable def tw18384006081209651784:Unit:=()
noncomputable def tw14386411403556366601:Unit:=()
noncomputable def tw11329753812028511079:Unit:=()
noncomputable def tw1700854396054906357:Unit:=()
noncomputable def tw5467205296087706748:Unit:=()
noncomputable def tw5238665903045711862:Unit:=()
noncomputable def tw2816118129472973864:Unit:=()
noncomputable def tw14282922137901243922:Unit:=()
noncomputable def tw10749659606001138650:Unit:=()
noncomputable def tw7177584017035569707:Unit:=()
noncomputable def tw1129908681885794897:Unit:=()
noncomputable def tw1079737153098025559:Unit:=()
noncomputable def tw14654560762409487630:Unit:=()
noncomputable def tw2143704662612414443:Unit:=()
noncomputable def tw17075362680981476816:Unit:=()
noncomputable def tw10238771245880044098:Unit:=()
noncomputable def tw15952358757008787457:Unit:=()
noncomputable def tw2589449159713745285:Unit:=()
noncomputable def tw7121629079938332418:Unit:=()
noncomputable def tw11153548429149305312:Unit:=()
noncomputable def tw13278879818081273758:Unit:=()
noncomputable def tw456744179291231985:Unit:=()
noncomputable def tw17892272385427257846:Unit:=()
noncomputable def tw15436808532124485882:Unit:=()
noncomputable def tw10772932933745591915:Unit:=()
noncomputable def tw17928741165081543644:Unit:=()
noncomputable def tw2849181588246828567:Unit:=()
noncomputable def tw11515683881137245403:Unit:=()
noncomputable def tw1866398768662633592:Unit:=()
noncomputable def tw4103787797364150657:Unit:=()
noncomputable def tw10388876366391530089:Unit:=()
noncomputable def tw1908927635570752896:Unit:=()
noncomputable def tw15838290639194772879:Unit:=()
noncomputable def tw14315665739495878766:Unit:=()
noncomputable def tw1780488320611141717:Unit:=()
noncomputable def tw4679442200370640479:Unit:=()
noncomputable def tw14926934442050517814:Unit:=()
noncomputable def tw1866100835340031244:Unit:=()
noncomputable def tw9381218927940254004:Unit:=()
noncomputable def tw1414138166514620831:Unit:=()
noncomputable def tw1122714859445927300:Unit:=()
noncomputable def tw12407412345049709526:Unit:=()
noncomputable def tw4000376520116627029:Unit:=()
noncomputable def tw10056591850221801985:Unit:=()
noncomputable def tw9018889513647629328:Unit:=()
noncomputable def tw7117275669520379792:Unit:=()
noncomputable def tw5210007357404652119:Unit:=()
noncomputable def tw10817222203204244529:Unit:=()
noncomputable def tw8650153764699300079:Unit:=()
noncomputable def tw7190447337248123525:Unit:=()
noncomputable def tw13555245437829538567:Unit:=()
noncomputable def tw2173102304084803654:Unit:=()
end PySem.W.Fast
open PySem PySem.W PyProof.Rows
set_option maxRecDepth 100000 in
set_option maxHeartbeats 0 in
theorem PySem.Challenge.cw_termcourt_k44_rows_refused_holds : PySem.Challenge.rw_termcourt_k44_rows_refused.Holds := by
 w_on; o_law; k_head; (case hw=>w_witness2)
 k_fill
 refine K44.walk (l:=PySem.Challenge.rw_termcourt_k44_rows_refused) rfl rfl (λw h Y=>PySem.W.kIn_of Y) ?F
 case F =>
  intro w mg fa h KX G hmg
  refine' K44.all_mk KX G hmg ?ca_Adrift ?ca_Book ?ca_CourtError ?ca_Full ?ca_NoAct ?ca_NoDay ?ca_NoName ?ca_NoRow ?ca_NoRule ?ca_NoTable ?ca_NoTerm ?ca_Parted ?ca_Ring ?ca_Rule ?ca_Twice ?ca_Unfit ?p0 ?p1 ?p2 ?p3 ?p4 ?p5 ?p6 ?p7 ?p8 ?p9 ?p10 ?p11 ?a12 ?t12 ?l12 ?c12 ?k12 ?pk12 ?pe_RuleInit_8 ?p13 ?p14 ?p15 ?p16 ?p17 ?p18 ?p19 ?p20 ?p21 ?p22 ?p23 ?p24 ?p25 ?p26 ?p27 ?p28 ?p29 ?p30 ?p31 ?p32 ?p33 ?p34 ?p35 ?p36 ?p37 ?p38 ?p39 ?p40 ?p41 ?p42 ?a43 ?l43 ?c43 ?k43 ?z_ValueError ?z_all ?z_any ?z_bool ?z_enumerate ?z_int ?z_isinstance ?z_len ?z_list ?z_range ?z_reversed ?z_str ?z_zip ?q_LONGEST_NAME ?q_MOST_ROWS ?q_MOST_TERMS ?q_MOST_LONGER_ROWS ?q_UNITS ?lt_UNITS ?q_FORMS ?lt_FORMS ?lt_FORMS_0 ?lt_FORMS_1 ?lt_FORMS_2 ?lt_FORMS_3 ?lt_FORMS_4 ?lt_FORMS_5 ?lt_FORMS_6 ?cc_Book ?cm_Book ?cn_Book ?ct_dBookTermNames ?cb_CourtError ?cx_NoRule ?cn_NoRule ?ck_NoRule ?cx_NoTerm ?cn_NoTerm ?ck_NoTerm ?cx_Ring ?cn_Ring ?ck_Ring ?cc_Rule ?cm_Rule ?cn_Rule ?ct_dRuleAllKinds ?cx_Twice ?cn_Twice ?ck_Twice ?cx_Unfit ?cn_Unfit ?ck_Unfit ?cr_NoRule ?ch_NoRule_Adrift ?ch_NoRule_Full ?ch_NoRule_NoAct ?ch_NoRule_NoDay ?ch_NoRule_NoName ?ch_NoRule_NoRow ?ch_NoRule_NoRule ?ch_NoRule_NoTable ?ch_NoRule_NoTerm ?ch_NoRule_Parted ?ch_NoRule_Ring ?ch_NoRule_Twice ?ch_NoRule_Unfit ?cr_NoTerm ?ch_NoTerm_Adrift ?ch_NoTerm_Full ?ch_NoTerm_NoAct ?ch_NoTerm_NoDay ?ch_NoTerm_NoName ?ch_NoTerm_NoRow ?ch_NoTerm_NoRule ?ch_NoTerm_NoTable ?ch_NoTerm_NoTerm ?ch_NoTerm_Parted ?ch_NoTerm_Ring ?ch_NoTerm_Twice ?ch_NoTerm_Unfit ?cr_Ring ?ch_Ring_Adrift ?ch_Ring_Full ?ch_Ring_NoAct ?ch_Ring_NoDay ?ch_Ring_NoName ?ch_Ring_NoRow ?ch_Ring_NoRule ?ch_Ring_NoTable ?ch_Ring_NoTerm ?ch_Ring_Parted ?ch_Ring_Ring ?ch_Ring_Twice ?ch_Ring_Unfit ?cr_Twice ?ch_Twice_Adrift ?ch_Twice_Full ?ch_Twice_NoAct ?ch_Twice_NoDay ?ch_Twice_NoName ?ch_Twice_NoRow ?ch_Twice_NoRule ?ch_Twice_NoTable ?ch_Twice_NoTerm ?ch_Twice_Parted ?ch_Twice_Ring ?ch_Twice_Twice ?ch_Twice_Unfit ?cr_Unfit ?ch_Unfit_Adrift ?ch_Unfit_Full ?ch_Unfit_NoAct ?ch_Unfit_NoDay ?ch_Unfit_NoName ?ch_Unfit_NoRow ?ch_Unfit_NoRule ?ch_Unfit_NoTable ?ch_Unfit_NoTerm ?ch_Unfit_Parted ?ch_Unfit_Ring ?ch_Unfit_Twice ?ch_Unfit_Unfit
  (case ca_Adrift | ca_Book | ca_CourtError | ca_Full | ca_NoAct | ca_NoDay | ca_NoName | ca_NoRow | ca_NoRule | ca_NoTable | ca_NoTerm | ca_Parted | ca_Ring | ca_Rule | ca_Twice | ca_Unfit=>k_is)
  (case p0 | p1 | p2=>refine' K44.pd_of ?pa ?pl ?pc ?pk; (case pa | pl | pc | pk=>k_is))
  (case p3=>refine' K44.pm_of ?pa ?pt ?pl ?pc ?pk; (case pa | pt | pl | pc | pk=>k_is))
  (case p4 | p5 | p6 | p7=>refine' K44.pd_of ?pa ?pl ?pc ?pk; (case pa | pl | pc | pk=>k_is))
  (case p8=>refine' K44.pm_of ?pa ?pt ?pl ?pc ?pk; (case pa | pt | pl | pc | pk=>k_is))
  (case p9 | p10 | p11=>refine' K44.pd_of ?pa ?pl ?pc ?pk; (case pa | pl | pc | pk=>k_is))
  (case a12 | t12 | l12 | c12 | k12=>k_is)
  (case pk12 | pe_RuleInit_8=>intros; kernel_rfl)
  (case p13 | p14=>refine' K44.pm_of ?pa ?pt ?pl ?pc ?pk; (case pa | pt | pl | pc | pk=>k_is))
  (case p15=>refine' K44.pd_of ?pa ?pl ?pc ?pk; (case pa | pl | pc | pk=>k_is))
  (case p16 | p17=>refine' K44.pm_of ?pa ?pt ?pl ?pc ?pk; (case pa | pt | pl | pc | pk=>k_is))
  (case p18 | p19 | p20 | p21 | p22 | p23=>refine' K44.pd_of ?pa ?pl ?pc ?pk; (case pa | pl | pc | pk=>k_is))
  (case p24=>refine' K44.pm_of ?pa ?pt ?pl ?pc ?pk; (case pa | pt | pl | pc | pk=>k_is))
  (case p25 | p26 | p27 | p28 | p29 | p30 | p31 | p32 | p33 | p34 | p35 | p36 | p37 | p38 | p39 | p40 | p41=>refine' K44.pd_of ?pa ?pl ?pc ?pk; (case pa | pl | pc | pk=>k_is))
  (case p42=>refine' K44.pm_of ?pa ?pt ?pl ?pc ?pk; (case pa | pt | pl | pc | pk=>k_is))
  (case a43 | l43 | c43 | k43 | z_ValueError | z_all | z_any | z_bool | z_enumerate | z_int | z_isinstance | z_len | z_list | z_range | z_reversed | z_str | z_zip | q_LONGEST_NAME | q_MOST_ROWS | q_MOST_TERMS | q_MOST_LONGER_ROWS | q_UNITS | lt_UNITS | q_FORMS | lt_FORMS | lt_FORMS_0 | lt_FORMS_1 | lt_FORMS_2 | lt_FORMS_3 | lt_FORMS_4 | lt_FORMS_5 | lt_FORMS_6=>k_is)
  (case cc_Book | cm_Book | cn_Book | ct_dBookTermNames | cb_CourtError | cx_NoRule | cn_NoRule | ck_NoRule | cx_NoTerm | cn_NoTerm | ck_NoTerm | cx_Ring | cn_Ring | ck_Ring | cc_Rule | cm_Rule | cn_Rule | ct_dRuleAllKinds | cx_Twice | cn_Twice | ck_Twice | cx_Unfit | cn_Unfit | ck_Unfit | cr_NoRule | ch_NoRule_Adrift | ch_NoRule_Full | ch_NoRule_NoAct | ch_NoRule_NoDay | ch_NoRule_NoName | ch_NoRule_NoRow | ch_NoRule_NoRule | ch_NoRule_NoTable | ch_NoRule_NoTerm | ch_NoRule_Parted | ch_NoRule_Ring | ch_NoRule_Twice | ch_NoRule_Unfit | cr_NoTerm | ch_NoTerm_Adrift | ch_NoTerm_Full | ch_NoTerm_NoAct | ch_NoTerm_NoDay | ch_NoTerm_NoName | ch_NoTerm_NoRow | ch_NoTerm_NoRule | ch_NoTerm_NoTable | ch_NoTerm_NoTerm | ch_NoTerm_Parted | ch_NoTerm_Ring | ch_NoTerm_Twice | ch_NoTerm_Unfit | cr_Ring | ch_Ring_Adrift | ch_Ring_Full | ch_Ring_NoAct | ch_Ring_NoDay | ch_Ring_NoName | ch_Ring_NoRow | ch_Ring_NoRule | ch_Ring_NoTable | ch_Ring_NoTerm | ch_Ring_Parted | ch_Ring_Ring | ch_Ring_Twice | ch_Ring_Unfit | cr_Twice | ch_Twice_Adrift | ch_Twice_Full | ch_Twice_NoAct | ch_Twice_NoDay | ch_Twice_NoName | ch_Twice_NoRow | ch_Twice_NoRule | ch_Twice_NoTable | ch_Twice_NoTerm | ch_Twice_Parted | ch_Twice_Ring | ch_Twice_Twice | ch_Twice_Unfit | cr_Unfit | ch_Unfit_Adrift | ch_Unfit_Full | ch_Unfit_NoAct | ch_Unfit_NoDay | ch_Unfit_NoName | ch_Unfit_NoRow | ch_Unfit_NoRule | ch_Unfit_NoTable | ch_Unfit_NoTerm | ch_Unfit_Parted | ch_Unfit_Ring | ch_Unfit_Twice | ch_Unfit_Unfit=>kernel_rfl)
