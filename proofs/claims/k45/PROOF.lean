import PyProof.Rows.All
import Wide.All
import OpenK.AllK
import Wide.FinOn
import Lean
import PyProof.EqAt
import PyProof.EqKinds
import PyProof.TupleCall
import PySem.Challenge.RW_termcourt_k45_roles_apart
set_option Elab.async false
set_option linter.all false
set_option maxRecDepth 100000
/-! THE HAND LAYER,for ints,bools,texts,own classes,LISTS and tuples (index,slices,in,append,pop ..),calls,loops. Paste it whole ahead of your own text; what your proof does not reach may be deleted. -/
open PySem.Str renaming ofString->Aa,cps_append->CZ,join->DI
open List renaming length_map->Ab,getElem?_eq_some_iff->Ae,getElem?_eq_getElem->Ag,length_append->Ai,mem_singleton->Aj,getElem?_map->Ak,length_cons->An,mem_cons->Ao,mem_of_getElem?->Ap,mem_cons_self->Aq,map_append->Ar,not_mem_nil->At,mem_cons_of_mem->Au,size_toArray->Av,length_take->A2,map_cons->A4,mem_append->A5,mem_append_right->AD,append_assoc->AH,getElem?_append_right->AL,getElem?_append_left->AQ,cons_append->AR,mem_map->AS,getElem?_of_mem->AV,nil_append->AW,nodup_append->AY,all_eq_true->AZ,range->Ba,nodup_cons->Bb,getD_eq_getElem?_getD->Bc,flatMap_cons->Bd,append_nil->Be,map_map->Bf,getElem?_eq_none->Bh,flatMap_append->Bj,length_drop->Bl,getElem?_set_self->Bp,mem_append_left->Bq,getElem_mem->Br,take_length->Bs,map_nil->Bu,take_append_drop->Bv,length_singleton->B3,lookup_cons->B7,mem_flatMap->B8,length_range->BB,mem_of_mem_take->BD,cons_lt_cons_iff->BI,take_sublist->BJ,ext_getElem?->BK,map_take->BM,take_of_length_le->BN,length_set->BT,Nodup->BW,mem_range->Cb,getElem?_set->Ce,length_nil->Cg,getElem?_eq_none_iff->Ci,drop_eq_getElem_cons->Cj,contains_iff_mem->Ck,mem_or_eq_of_mem_set->Cz,lookup->C2,count_append->C3,map_drop->C7,cons_ne_nil->CC,length->CF,all_map->CJ,find?_cons->CN,all_cons->CS,take_zero->Da,filterMap_cons->Df,length_reverse->Dg,getElem?_range->Dh,length_take_le->Di,getElem?_take_of_lt->Dj,any_cons->Dk,take_add_one->Dw,foldl_append->Dy,getElem?_reverse->D5,any_eq_true->D8,mem_reverse->DC,getElem?_set_ne->DG,mem_of_mem_drop->DJ,take_append_of_le_length->DK,mem_filter->DL,forIn_cons->DM,findSome?_cons->DS,mem_map_of_mem->DT,getElem?_drop->Ed
open PySem.W renaming exmOne->Ac,Frag->Af,nsIn->AC,findIn->AK,mg_of->AT,keepIn->Bg,mg_none_of->Bm,fnOf->Bt,kitOne->B6,Looks->BA,kia_one->BH,emptyDict->BP,codeIn->BR,typeIn->Cc,instObj->Co,hasDictIn->C1,callWith_K->CI,plainGet->Dc,lookIn->Dr,specialIn->Dt,mroIn->DE,plainGet_of->DQ,isFn->DX,methodObj->Ee,plainOver->Ef
open PySem renaming wpAny_bind->Ad,Shared->Ah,sizeLine->Ax,wpAny_pure->Ay,Spec->A3,mainGlobals->A7,FuncData->AB,Program->AM,Builtin->AO,Around->AU,sizeLine_eq->Bi,NameKind->Bo,wpAny_truthy_bool->B9,wpAny_field->BC,PassesOwn->BE,wpAny_Call_Name_kw->BG,wpAny_mono->BL,wpAny_holding->Ca,wpAny_seqItems->Cd,wpAny_passesOwn->C0,mem_of_lookup->C9,wpAny_getItem_str_slice->CB,wpAny_callSpecial?_slot->CD,wpAny_call->CG,codeAny_mono->CH,wpAny_setField_rec->CL,wpAny_setField->CY,Within->Db,wpAny_execs_nil->Dl,Paired->Dm,tupleKind_room_in1->Dp,wpAny_pyIter_list->Dq,wpAny_newObj_type->Dv,plainObj_wpAny_Assign_Attribute->D3,call_meets->D7,wpAny_call_entry->DA,IsPair->DB,wpAny_standAt->DD,codeAny_call_builtin->DH,post_val_or_str->DN,wpAny_loadPart->Ea,typeIs_str->Eb,wpAny_loadPart_at->Eh
open PySem.Value renaming ref->Al,none->BF,type->BO,bool->DZ
open PySem.Heap renaming get?_push_of_some->Am,lt_size->A0,get?_push_size->A6,get?_update_other->Bw,get?_update_self->B1,SameBut->Cl,size_push->Cn
open Or renaming inl->Aw,inr->Cq
open Nat renaming le_refl->Az,le_trans->A1,lt_of_lt_of_le->A8,ne_of_lt->AJ,zero_le->B0,le_of_eq->BS,lt_irrefl->BZ,ne_of_gt->Cr,le_succ->Cs,lt_succ_self->CA,zero_add->CM,sub_self->Dd,succ_le_succ->De,not_lt_zero->DP,succ_pos->DY
open PySem.F renaming plainAttrs_list->A9,slot_list_append->AE,type_list_append->AF,plainAttrs_str->Cf,slot_tuple_iterator_next->Cv,excBase_ValueError->CW,slot_str_split->Dz,type_str_split->D0,slot_zip_next->DO,args_str_split_2->Ec,entry_str_split->Ej
open Bool renaming false_ne_true->AA,and_eq_true->AI,false_and->Cm,eq_iff_iff->Cp,false_eq_true->Ct,true_and->CU,and_false->CV,or_eq_true_iff->DU,eq_false_iff->Ei
open Option.some renaming inj->AG
open Array renaming length_toList->AN,getElem?_eq_some_iff->Cu,getElem?_toList->D4,toList_append->DR
open Ne renaming symm->AX
open PySem.NameKind renaming free->Bk
open Int renaming toNat_natCast->Bx,zero_add->BU,emod_lt_of_pos->Cw,emod_nonneg->CQ
open False renaming elim->By
open PyProof.Rows renaming callWith_type1->Bz,callWith_builtin1->D6,AllBare->DV
open PySem.PassesOwn renaming never->B4
open PySem.SeqAt renaming EqAt->B5
open List.Sublist renaming refl->BQ
open PySem.Obj renaming data_mapFields->BV,isFreed_of_fields->Cy,mapFields->C6,mapSeq->Do
open Option renaming bind_some->BX,isSome_iff_exists->C5,map_some->CO,isSome_map->Eg
open PySem.Txt renaming split->BY,slice_le->Dx,slice->D9
open True renaming intro->C4
open Sum renaming inr->C8
open Nat.succ renaming inj->CK
open ForInStep renaming yield->CP
open List.cons renaming inj->CT
open PySem.Calls renaming spliced_cons->Dn,spliced_nil->Du
open Int.ofNat renaming inj->DF
namespace L2
open PySem PySem.Spec PyProof.Rows
noncomputable abbrev Key:=Sum Int Str
noncomputable def qlj:Key->Value->Bool
 | .inl k,v=>Value.isInt k v
 | .inr x,v=>Value.isStrOf x v
noncomputable def keyH (w:World):Key->Int
 | .inl k=>hashInt k
 | .inr x=>hashStr w x
theorem qbu:∀ {k:Key} {v:Value},qlj k v=true->(∃ i t,k=Sum.inl i/\v=Value.int i t) \/ (∃ x t,k=C8 x/\v=Value.str x t)
 | .inl i,v,h=>by
  obtain ⟨t,e⟩:=Value.isInt_shape (k:=i) (v:=v) h
  exact .inl ⟨i,t,rfl,e⟩
 | .inr x,v,h=>by
  obtain ⟨t,e⟩:=Value.isStrOf_shape (x:=x) (v:=v) h
  exact .inr ⟨x,t,rfl,e⟩
theorem qrm (i:Int) (t:Tok):qlj (.inl i) (.int i t)=true:=by simp [qlj,Value.isInt]
theorem qro (x:Str) (t:Tok):qlj (.inr x) (.str x t)=true:=by simp [qlj,Value.isStrOf]
theorem qx0 (a b:Int):decide ((Sum.inl a:Key)=Sum.inl b)=(a == b):=by
 by_cases e:a=b
 .subst e; simp
 .have h:¬ (Sum.inl a:Key)=Sum.inl b:=λq=>e (Sum.inl.inj q)
  rw [decide_eq_false h]
  exact (beq_eq_false_iff_ne.mpr e).symm
theorem qx1 (a b:Str):decide ((C8 a:Key)=C8 b)=decide (a=b):=by
 by_cases e:a=b
 .subst e; simp
 .have h:¬ (C8 a:Key)=C8 b:=λq=>e (C8.inj q)
  rw [decide_eq_false h,decide_eq_false e]
theorem qx2 (a:Int) (b:Str):decide ((Sum.inl a:Key)=C8 b)=false:=decide_eq_false (λq=>nomatch q)
theorem qx3 (a:Str) (b:Int):decide ((C8 a:Key)=Sum.inl b)=false:=decide_eq_false (λq=>nomatch q)
noncomputable def qbv (prog:AM) (w:World):PySem.KeyKind prog w Key where
 is:=qlj
 hash:=keyH w
 inj:=λv a b ha hb=>by
  rcases qbu ha with ⟨i,t,rfl,rfl⟩ | ⟨x,t,rfl,rfl⟩
  .rcases qbu hb with ⟨j,u,rfl,e⟩ | ⟨y,u,rfl,e⟩
   .injection e with e1 _; rw [e1]
   .exact nomatch e
  .rcases qbu hb with ⟨j,u,rfl,e⟩ | ⟨y,u,rfl,e⟩
   .exact nomatch e
   .injection e with e1 _; rw [e1]
 byValue:=λk v h=>by
  rcases qbu h with ⟨i,t,rfl,rfl⟩ | ⟨x,t,rfl,rfl⟩ <;> rfl
 pyHash:=λhv h=>by
  rcases qbu hv with ⟨i,t,rfl,rfl⟩ | ⟨x,t,rfl,rfl⟩
  .exact wpAny_pyHash_int h
  .exact wpAny_pyHash_str h
 eqBool:=λhu hv h=>by
  rcases qbu hu with ⟨i,t,rfl,rfl⟩ | ⟨x,t,rfl,rfl⟩
  .rcases qbu hv with ⟨j,u,rfl,rfl⟩ | ⟨y,u,rfl,rfl⟩
   .rw [qx0] at h; exact wpAny_eqBool_int h
   .rw [qx2] at h; exact B5.int_str i t y u _ _ _ _ h
  .rcases qbu hv with ⟨j,u,rfl,rfl⟩ | ⟨y,u,rfl,rfl⟩
   .rw [qx3] at h; exact B5.str_int x t j u _ _ _ _ h
   .rw [qx1] at h; exact wpAny_eqBool_str h
 «strs» := λk x t v h=>by
  rcases qbu h with ⟨i,u,rfl,e⟩ | ⟨y,u,rfl,e⟩
  .exact nomatch e
  .injection e with e1 _
   subst e1
   cases v <;> rfl
theorem qni (prog:AM) (w:World) (i:Int) (t:Tok):(qbv prog w).is (.inl i) (.int i t)=true:=qrm i t
theorem qnj (prog:AM) (w:World) (x:Str) (t:Tok):(qbv prog w).is (.inr x) (.str x t)=true:=qro x t
end L2
namespace L2
open PySem PySem.Spec PyProof.Rows
inductive V where
 | non | bl (b:Bool) | int (i:Int) | str (x:Str) | byt (b:Array UInt8) | flt (b:UInt64) | ref (a:Addr) | ty (n:String)
 deriving DecidableEq
noncomputable def RelV:V->Value->Prop
 | .non,u=>u=BF
 | .bl b,u=>u=DZ b
 | .int i,u=>∃ t,u=Value.int i t
 | .str x,u=>∃ t,u=Value.str x t
 | .byt b,u=>∃ t,u=Value.bytes b t
 | .flt b,u=>∃ t,u=Value.float b t
 | .ref a,u=>u=Al a
 | .ty n,u=>u=BO n
noncomputable abbrev Vals:List V->List Value->Prop:=Dm RelV
theorem Vals.length {xs:List V} {us:List Value} (r:Vals xs us):xs.length=us.length:=Dm.length r
theorem Vals.get:∀ {xs:List V} {us:List Value} {i:Nat} {x:V},Vals xs us->xs[i]?=some x->∃ u,us[i]?=some u/\RelV x u
 | _,_,_,_,.nil,e=>by simp at e
 | _,_,0,_,.cons r _,e=>by simp at e; subst e; exact ⟨_,rfl,r⟩
 | _,_,i + 1,x,.cons _ t,e=>by
  obtain ⟨u,h1,h2⟩:=Vals.get (i:=i) (x:=x) t (by simpa using e)
  exact ⟨u,by simpa using h1,h2⟩
theorem Vals.set {x:V} {u:Value} (r:RelV x u):∀ {xs:List V} {us:List Value} (i:Nat),Vals xs us->Vals (xs.set i x) (us.set i u)
 | _,_,_,.nil=>.nil
 | _,_,0,.cons _ t=>.cons r t
 | _,_,i + 1,.cons q t=>.cons q (Vals.set r i t)
theorem Vals.append:∀ {xs ys:List V} {us ws:List Value},Vals xs us->Vals ys ws->Vals (xs ++ ys) (us ++ ws)
 | _,_,_,_,.nil,s=>s
 | _,_,_,_,.cons r t,s=>.cons r (Vals.append t s)
theorem Vals.take:∀ {xs:List V} {us:List Value} (n:Nat),Vals xs us->Vals (xs.take n) (us.take n)
 | _,_,0,_=>.nil
 | _,_,_ + 1,.nil=>.nil
 | _,_,n + 1,.cons r t=>.cons r (Vals.take n t)
theorem Vals.drop:∀ {xs:List V} {us:List Value} (n:Nat),Vals xs us->Vals (xs.drop n) (us.drop n)
 | _,_,0,r=>r
 | _,_,_ + 1,.nil=>.nil
 | _,_,n + 1,.cons _ t=>Vals.drop n t
noncomputable def RelO:Option V->Option Value->Prop
 | some v,some u=>RelV v u
 | none,none=>True
 | _,_=>False
noncomputable def KV {κ:Type}:List (κ × V)->List (κ × Value)->Prop:=Dm λ(p:κ × V) (q:κ × Value)=>p.1=q.1/\RelV p.2 q.2
noncomputable def kV:Key->V
 | .inl i=>.int i
 | .inr x=>.str x
inductive HO where
 /-- a list -/
 | lst (xs:List V)
 /-- a tuple (never changes) -/
 | tup (xs:List V)
 /-- a dict whose keys are ints and texts; one whose keys are tuples of ints and texts (the empty one is both) -/
 | dK (kvs:List (Key × V)) | dT (kvs:List (List Key × V))
 /-- a set of ints: its members,its size -/
 | set (S:Int->Bool) (n:Nat)
 /-- an instance of the class at C,its dict at dx,its attributes -/
 | ins (C dx:Addr) (fs:List (Str × V))
 /-- the dict of the instance at x -/
 | own (x:Addr)
 /-- the dict of an exception -/
 | xd (fs:List (Str × V))
 /-- a bound method,f of x -/
 | met (f x:Addr)
 /-- a range object lo,lo + 1,.. below hi -/
 | rng (lo hi:Int)
 /-- a thing that is known to the object (the script; a dict while a loop walks it): read,never written while it is so -/
 | frz (o:Obj) (u:HO)
 /-- a code object's table -/
 | tbl (ps:Array Value)
 /-- any other thing,by what is true of its one object (a def of one's own: SetO a S n:=HO.ext λh=>..) -/
 | ext (φ:Heap->Prop)
noncomputable abbrev Hp:=Addr->Option HO
noncomputable def upd (H:Hp) (a:Addr) (o:HO):Hp:=λb=>if b=a then some o else H b
theorem zb {H:Hp} {a:Addr} {o:HO}:upd H a o a=some o:=by unfold upd; rw [if_pos rfl]
theorem zf {H:Hp} {a b:Addr} {o:HO} (h:b ≠ a):upd H a o b=H b:=by unfold upd; rw [if_neg h]
theorem qqj {H:Hp} {a:Addr} {o u:HO}:upd (upd H a o) a u=upd H a u:=by
 funext b; unfold upd; split <;> rfl
theorem ne_of {H:Hp} {a b:Addr} {o u:HO} (h:H a=some o) (h':H b=some u) (d:o ≠ u):a ≠ b:=by
 intro e; subst e; rw [h] at h'; exact d (AG h')
theorem qae {H:Hp} {a b:Addr} {o:HO} (h:H a=some o) (h':H b=none):a ≠ b:=by
 intro e; subst e; rw [h] at h'; cases h'
section
variable (P:AM) (w:World)
noncomputable def ObjOk (H:Hp) (h:Heap) (a:Addr):HO->Prop
 | .lst xs=>xs.length <= Ax/\∃ (its:List Value) (n:Nat),Vals xs its/\h.get? a=some { cls:=.type "list",data:=.seq its.toArray n }
 | .tup xs=>xs.length <= Ax/\∃ its:List Value,Vals xs its/\IsTup h a its.toArray
 | .dK kvs=>kvs.length <= Ax/\(a == sysModules)=false/\∃ vs,KV kvs vs/\h.DictOf (qbv P w) a vs
 | .dT kvs=>kvs.length <= Ax/\(a == sysModules)=false/\∃ xs:List (List Key × Addr × Value),
   Dm (λ(p:List Key × V) (q:List Key × Addr × Value)=>p.1=q.1/\H q.2.1=some (.tup (p.1.map kV))/\RelV p.2 q.2.2) kvs xs /\
   ∃ o es ep,h.get? a=some o/\o.ExactDict/\o.data=.dict es ep/\es.toList=xs.map (entryOfKey (tupleKind (qbv P w)))/\(xs.map (·.1)).Nodup
 | .set S n=>h.SetOf (intKind P w) a S n
 | .ins C dx fs=>H dx=some (.own a)/\fs.length <= 1000/\dx ≠ a/\h.get? a=some (Co C dx) /\
   ∃ mA,h.Ns1 dx mA/\(∀ f,RelO (fs.lookup f) (mA f))/\Db mA (fs.map (·.1))
 | .own _=>∃ o,h.get? a=some o
 | .xd fs=>∃ mA,h.Ns1 a mA/\∀ f,RelO (fs.lookup f) (mA f)
 | .rng lo hi=>∃ t u v,h.get? a=some { cls:=.type "range",data:=.fields #[.int lo t,.int hi u,.int 1 v] }
 | .frz o u=>h.get? a=some o/\ObjOk H h a u
 | .tbl ps=>h.get? a=some { cls:=.none,data:=.fields ps }
 | .met f x=>h.get? a=some (Ee (.ref f) (.ref x))
 | .ext φ=>φ h/\(∃ o,h.get? a=some o)/\∀ h1 h2:Heap,φ h1->(∀ o,h1.get? a=some o->h2.get? a=some o)->φ h2
noncomputable def HOk (H:Hp) (h:Heap):Prop:=∀ a o,H a=some o->ObjOk P w H h a o
end
section
variable {P:AM} {w:World} {H H':Hp} {h h':Heap} {a:Addr} {o:HO}
theorem ObjOk.lt (x:ObjOk P w H h a o):a < h.objs.size:=by
 cases o with
 | lst xs=>obtain ⟨_,_,_,_,e⟩:=x; exact A0 e
 | tup xs=>obtain ⟨_,_,_,p⟩:=x; exact p.lt
 | dK kvs=>obtain ⟨_,_,_,_,o,_,_,e,_⟩:=x; exact A0 e
 | dT kvs=>obtain ⟨_,_,_,_,o,_,_,e,_⟩:=x; exact A0 e
 | set S n=>obtain ⟨o,_,_,_,e,_⟩:=x; exact A0 e
 | ins C dx fs=>obtain ⟨_,_,_,e,_⟩:=x; exact A0 e
 | own y=>obtain ⟨_,e⟩:=x; exact A0 e
 | xd fs=>obtain ⟨_,⟨_,_,_,e,_⟩,_⟩:=x; exact A0 e
 | rng lo hi=>obtain ⟨_,_,_,e⟩:=x; exact A0 e
 | frz ob u=>obtain ⟨e,_⟩:=x; exact A0 e
 | tbl ps=>exact A0 (show h.get? a=some _ from x)
 | met f y=>exact A0 (show h.get? a=some _ from x)
 | ext φ=>obtain ⟨_,⟨_,e⟩,_⟩:=x; exact A0 e
theorem Dm.mapP {α β:Type} {F G:α->β->Prop}:∀ {l₁:List α} {l₂:List β},Dm F l₁ l₂->(∀ a b,F a b->G a b)->Dm G l₁ l₂
 | _,_,.nil,_=>.nil
 | _,_,.cons r t,f=>.cons (f _ _ r) (Dm.mapP t f)
theorem ObjOk.stay (x:ObjOk P w H h a o) (k:∀ b u,(b=a \/ H b=some (.own a))->h.get? b=some u->h'.get? b=some u)
  (ho:∀ b,H b=some (.own a)->H' b=some (.own a)) (ht:∀ b xs,H b=some (.tup xs)->H' b=some (.tup xs)):ObjOk P w H' h' a o:=by
 induction o with
 | lst xs=>obtain ⟨z,its,n,r,e⟩:=x; exact ⟨z,its,n,r,k _ _ (.inl rfl) e⟩
 | tup xs=>obtain ⟨z,its,r,ob,e,c⟩:=x; exact ⟨z,its,r,ob,k _ _ (.inl rfl) e,c⟩
 | dK kvs=>obtain ⟨z,y,vs,r,ob,es,ep,e,c⟩:=x; exact ⟨z,y,vs,r,ob,es,ep,k _ _ (.inl rfl) e,c⟩
 | dT kvs =>
  obtain ⟨z,y,xs,r,ob,es,ep,e,c⟩:=x
  exact ⟨z,y,xs,Dm.mapP r λp q z=>⟨z.1,ht _ _ z.2.1,z.2.2⟩,ob,es,ep,k _ _ (.inl rfl) e,c⟩
 | set S n=>obtain ⟨ob,es,ep,t,e,c⟩:=x; exact ⟨ob,es,ep,t,k _ _ (.inl rfl) e,c⟩
 | ins C dx fs =>
  obtain ⟨d,z,ne,e,mA,⟨od,es,ep,e2,c⟩,r⟩:=x
  exact ⟨ho _ d,z,ne,k _ _ (.inl rfl) e,mA,⟨od,es,ep,k _ _ (.inr d) e2,c⟩,r⟩
 | own y=>obtain ⟨ob,e⟩:=x; exact ⟨ob,k _ _ (.inl rfl) e⟩
 | xd fs=>obtain ⟨mA,⟨od,es,ep,e,c⟩,r⟩:=x; exact ⟨mA,⟨od,es,ep,k _ _ (.inl rfl) e,c⟩,r⟩
 | rng lo hi=>obtain ⟨t,u,v,e⟩:=x; exact ⟨t,u,v,k _ _ (.inl rfl) e⟩
 | frz ob u ih=>obtain ⟨e,q⟩:=x; exact ⟨k _ _ (.inl rfl) e,ih q⟩
 | tbl ps =>
  have e:h.get? a=some { cls:=.none,data:=.fields ps }:=x
  show h'.get? a=some { cls:=.none,data:=.fields ps }
  exact k a _ (.inl rfl) e
 | met f y =>
  have e:h.get? a=some (Ee (.ref f) (.ref y)):=x
  show h'.get? a=some (Ee (.ref f) (.ref y))
  exact k a _ (.inl rfl) e
 | ext φ=>obtain ⟨p,⟨o,e⟩,st⟩:=x; exact ⟨st _ _ p λo q=>k _ _ (.inl rfl) q,⟨o,k _ _ (.inl rfl) e⟩,st⟩
theorem HOk.lt (x:HOk P w H h) (e:H a=some o):a < h.objs.size:=(x a o e).lt
theorem HOk.fresh (x:HOk P w H h) (e:h.objs.size <= a):H a=none:=by
 cases q:H a with
 | none=>rfl
 | some u=>exact absurd (A8 (x.lt q) e) (BZ _)
theorem HOk.kept (x:HOk P w H h) (k:∀ b u,h.get? b=some u->h'.get? b=some u):HOk P w H h':=λa o e =>
 (x a o e).stay (λb u _ q=>k b u q) (λ_ q=>q) λ_ _ q=>q
theorem HOk.laid (x:HOk P w H h) (k:∀ b u,h.get? b=some u->h'.get? b=some u) (hp:h.objs.size <= a) (new:ObjOk P w (upd H a o) h' a o):HOk P w (upd H a o) h':=λb u e=>by
 have hn:=x.fresh hp
 by_cases hb:b=a
 .subst hb; rw [zb] at e; cases e; exact new
 .rw [zf hb] at e
  exact (x b u e).stay (λc v _ q=>k c v q) (λc q=>by rw [zf (qae q hn)]; exact q) λc xs q=>by rw [zf (qae q hn)]; exact q
end
noncomputable def Rd (H:Hp) (a:Addr) (u:HO):Prop:=H a=some u \/ ∃ o,H a=some (.frz o u)
theorem Rd.ok {P:AM} {w:World} {H:Hp} {h:Heap} {a:Addr} {u:HO} (r:Rd H a u) (x:HOk P w H h):ObjOk P w H h a u:=by
 rcases r with r | ⟨o,r⟩
 .exact x a u r
 .obtain ⟨_,q⟩:=x a _ r
  exact q
noncomputable def Mut:Option HO->Prop
 | some (.lst _)=>True
 | some (.dK _)=>True
 | some (.dT _)=>True
 | some (.set _ _)=>True
 | some (.ins _ _ _)=>True
 | some (.ext _)=>True
 | _=>False
section
variable {P:AM} {w:World} {H:Hp} {h h':Heap} {x e:Addr} {o':HO}
theorem HOk.write (ok:HOk P w H h) (mu:Mut (H x)) (he:e=x \/ H e=some (.own x)) (k:∀ b u,b ≠ e->h.get? b=some u->h'.get? b=some u) (heo:∃ u,h'.get? e=some u)
  (new:ObjOk P w (upd H x o') h' x o'):HOk P w (upd H x o') h':=λb u q=>by
 have nown:∀ c y,H c=some (.own y)->c ≠ x:=λc y r z=>by subst z; rw [r] at mu; exact mu
 have ntup:∀ c xs,H c=some (.tup xs)->c ≠ x:=λc xs r z=>by subst z; rw [r] at mu; exact mu
 by_cases hb:b=x
 .subst hb; rw [zb] at q; cases q; exact new
 .rw [zf hb] at q
  by_cases hbe:b=e
  .have q':H b=some (.own x):=by
    rcases he with z | z
    .exact absurd (hbe.trans z) hb
    .rw [hbe]; exact z
   rw [q] at q'; cases q'
   obtain ⟨v,hv⟩:=heo
   exact ⟨v,by rw [hbe]; exact hv⟩
  .refine (ok b u q).stay (λc v hc r=>k c v ?_ r) (λc r=>by rw [zf (nown c b r)]; exact r) λc xs r=>by rw [zf (ntup c xs r)]; exact r
   rcases hc with rfl | hc
   .exact hbe
   .rintro rfl
    rcases he with z | z
    .exact nown c b hc z
    .rw [hc] at z; cases z; exact hb rfl
end
structure Un (fs ex:List Addr) (H H':Hp) (h h':Heap):Prop where
 keep:∀ b o,h.get? b=some o->H b=none->b ∉ fs->b ∉ ex->h'.get? b=some o
 slot:∀ b o,h.get? b=some o->H b=none->b ∈ fs->b ∉ ex->∃ sl,h'.get? b=some { o with slots:=sl }
 free:∀ b o,h.get? b=some o->H b=none->b ∉ ex->H' b=none
 there:∀ b o,h.get? b=some o->b ∉ ex->∃ o',h'.get? b=some o'
 tups:∀ b xs,H b=some (.tup xs)->H' b=some (.tup xs)
 frzs:∀ b o u,H b=some (.frz o u)->H' b=some (.frz o u)
 tbls:∀ b ps,H b=some (.tbl ps)->∃ qc5,H' b=some (.tbl (ps ++ qc5))
section
variable {fs fs' ex ex':List Addr} {H H1 H2:Hp} {h h1 h2 h':Heap} {a x e:Addr} {o:HO}
theorem Un.any (u:Un fs ex H H1 h h1) {b:Addr} {ob:Obj} (q:h.get? b=some ob) (n:H b=none) (hx:b ∉ ex):∃ sl,h1.get? b=some { ob with slots:=sl }:=by
 by_cases hb:b ∈ fs
 .exact u.slot b ob q n hb hx
 .exact ⟨ob.slots,u.keep b ob q n hb hx⟩
theorem Un.kept (k:∀ b u,h.get? b=some u->h'.get? b=some u):Un fs ex H H h h' :=
 ⟨λb ob q _ _ _=>k b ob q,λb ob q _ _ _=>⟨ob.slots,k b ob q⟩,λ_ _ _ n _=>n,λb ob q _=>⟨ob,k b ob q⟩,λ_ _ q=>q,λ_ _ _ q=>q,λ_ ps q=>⟨#[],by rw [q]; simp⟩⟩
theorem Un.refl:Un fs ex H H h h:=Un.kept λ_ _ q=>q
theorem Un.laid (k:∀ b u,h.get? b=some u->h'.get? b=some u) (hp:h.objs.size <= a) (hn:H a=none):Un fs ex H (upd H a o) h h' where
 keep:=λb u q _ _ _=>k b u q
 slot:=λb u q _ _ _=>⟨u.slots,k b u q⟩
 free:=λb u q n _=>by rw [zf (AJ (A8 (A0 q) hp))]; exact n
 there:=λb u q _=>⟨u,k b u q⟩
 tups:=λb xs q=>by rw [zf (qae q hn)]; exact q
 frzs:=λb u xs q=>by rw [zf (qae q hn)]; exact q
 tbls:=λb ps q=>⟨#[],by rw [zf (qae q hn),q]; simp⟩
theorem Un.write (mu:Mut (H x)) (he:e=x \/ H e=some (.own x)) (k:∀ b u,b ≠ e->h.get? b=some u->h'.get? b=some u) (heo:∃ u,h'.get? e=some u):Un fs ex H (upd H x o) h h':=by
 have hx:∀ b,H b=none->b ≠ x:=λb n z=>by subst z; rw [n] at mu; exact mu
 have hb:∀ b,H b=none->b ≠ e:=λb n z=>by
  subst z
  rcases he with r | r
  .exact hx b n r
  .rw [n] at r; cases r
 have hm:∀ b u,H b=some u->¬ Mut (some u)->b ≠ x:=λb u q nm z=>by subst z; rw [q] at mu; exact nm mu
 refine ⟨λb u q n _ _=>k b u (hb b n) q,λb u q n _ _=>⟨u.slots,k b u (hb b n) q⟩,λb u q n _=>by rw [zf (hx b n)]; exact n,λb u q _ => ?_,
  λb xs q=>by rw [zf (hm b _ q λz=>z)]; exact q,λb u xs q=>by rw [zf (hm b _ q λz=>z)]; exact q,λb ps q=>⟨#[],by rw [zf (hm b _ q λz=>z),q]; simp⟩⟩
 by_cases hbe:b=e
 .subst hbe; exact heo
 .exact ⟨u,k b u hbe q⟩
end
noncomputable def trk (h:Heap) (H:Hp):List Addr:=(Ba h.objs.size).filter λa=>(H a).isSome
noncomputable def qmp (h:Heap) (H:Hp):Heap:=PySem.W.hideAll h (trk h H)
theorem qrp (h:Heap) (H:Hp):(qmp h H).objs.size=h.objs.size:=PySem.W.hideAll_size _ _
theorem qs9 {h:Heap} {H:Hp} {b:Addr} {o:Obj} (e:h.get? b=some o) (n:H b=none):(qmp h H).get? b=some o :=
 PySem.W.hideAll_get _ e λhm=>by
  have q:(H b).isSome=true:=(DL.mp hm).2
  rw [n] at q; simp at q
theorem qvr {h:Heap} {H:Hp} {b:Addr} {o:Obj} (e:(qmp h H).get? b=some o):h.get? b=some o/\H b=none:=by
 have e':h.get? b=some o:=PySem.W.of_hideAll (trk h H) e
 refine ⟨e',?_⟩
 cases q:H b with
 | none=>rfl
 | some x =>
  have hm:b ∈ trk h H:=DL.mpr ⟨Cb.mpr (A0 e'),by simp [q]⟩
  have z:(qmp h H).get? b=none:=PySem.W.hideAll_none (trk h H) hm
  rw [z] at e; cases e
noncomputable def qvs (g h:Heap) (L:Addr):List (Addr × Obj):=(Ba h.objs.size).filterMap λa=>if a=L \/ (g.get? a).isSome=true then none else (h.get? a).map λo=>(a,o)
noncomputable def qa9 (g h:Heap) (L d:Addr):List (Addr × Obj):=(qvs g h L).filter λp=>decide (p.1 ≠ d)
end L2
namespace L2
open PySem PySem.Spec PyProof.Rows
structure Mod (K:Af) (mg:Str->Option Value) (base:Heap):Prop where
 kin:K.In base
 glob:base.Ns A7 mg
 blt:∃ mb,base.Ns builtinsNs mb/\∀ x:Str,x ≠ "__name__" -> mb x=bootBuiltins x
 nolimit:base.NoLimit
structure Cx where
 prog:AM
 w:World
 K:Af
 mg:Str->Option Value
 base:Heap
 A:AU
 N:List Str
 s₀:Ah
 H₀:Hp
 env:Env
 outer:List Env
 stack:List Env
 ex:List Addr
 fn:Str->Bool
 calm:Bool
 pn:List (Addr × Obj)
 xe:Value->Ah->Prop
noncomputable def frs (l:List Env):List Addr:=l.filterMap (·.frame)
noncomputable abbrev Cx.fs (X:Cx):List Addr:=frs X.outer
noncomputable def Vis (sc:Scope) (x:Str):Prop:=sc.names.lookup x=some .local \/ sc.names.lookup x=some .cell \/ sc.names.lookup x=some .free
noncomputable def Loc (sc:Scope) (x:Str):Prop:=sc.names.lookup x=some .local \/ sc.names.lookup x=some .cell
noncomputable def Look (env:Env) (h:Heap) (m:Str->Option Value) (x:Str) (u:Value):Prop :=
 (env.kindOf x=some .local/\m x=some u) \/ ((env.kindOf x=some .cell \/ env.kindOf x=some .free)/\∃ c,env.cells.lookup x=some c/\h.IsCell c (some u))
structure Cx.Ok (X:Cx):Prop where
 mod:Mod X.K X.mg X.base
 kind:X.env.scope.kind=.function
 glob:X.env.globals=A7
 blt:X.env.builtins=builtinsNs
 above:X.s₀.heap.objs.size <= X.env.locals
 inj:∀ x y c,X.env.cells.lookup x=some c->X.env.cells.lookup y=some c->x=y
 has:∀ x,(X.env.kindOf x=some .cell \/ X.env.kindOf x=some .free)->∃ c,X.env.cells.lookup x=some c
 cab:∀ x c,X.fn x=true->X.env.cells.lookup x=some c->X.s₀.heap.objs.size <= c
 hd:X.calm=true->X.A.handled=none
 frames:X.A.frames=some X.stack
 stk:X.stack=X.outer \/ (X.stack=X.env :: X.outer/\X.env.frame=some X.env.locals)
 exf:∀ b ∈ X.ex,b ≠ X.env.locals/\∀ x c,X.env.cells.lookup x=some c->c ≠ b
 bs:∀ b o,X.base.get? b=some o->X.s₀.heap.get? b=some o/\X.H₀ b=none
 bsz:X.base.objs.size <= X.s₀.heap.objs.size
 noex:∀ b o,X.base.get? b=some o->b ∉ X.ex
 exfs:∀ b ∈ X.ex,b ∉ X.fs
 funs:X.s₀.heap.FunFrames X.base X.outer
 frf:∀ b ∈ X.fs,X.H₀ b=none
structure Inv (X:Cx) (pins:List (Addr × Obj)) (σ:List (Option V)) (H:Hp) (s:Ah):Prop where
 ok:X.Ok
 os:s.os=X.s₀.os
 bare:DV s.gens
 base:Un X.fs X.ex X.H₀ H X.s₀.heap s.heap
 loc:∃ m,s.heap.Ns X.env.locals m/\∀ (i:Nat) (x:Str) (v:V),X.N[i]?=some x->σ[i]?=some (some v)->Vis X.env.scope x->∃ u,RelV v u/\Look X.env s.heap m x u
 cell:∀ x c,X.env.cells.lookup x=some c->∃ v,s.heap.IsCell c v
 free:H X.env.locals=none
 freeC:∀ x c,X.env.cells.lookup x=some c->H c=none
 pin:∀ p ∈ X.pn ++ pins,s.heap.get? p.1=some p.2/\H p.1=none/\p.1 ≠ X.env.locals/\p.1 ∉ X.fs/\∀ v,p.2.data ≠ .cell v
 hok:HOk X.prog X.w H s.heap
 len:σ.length=X.N.length
section
variable {X:Cx} {pins:List (Addr × Obj)} {σ:List (Option V)} {H H':Hp} {s:Ah} {h':Heap}
theorem Cx.Ok.nofr (ok:X.Ok) {b:Addr} {o:Obj} (e:X.base.get? b=some o):b ∉ X.fs:=λhb=>by
 have:=(ok.funs.mem hb).1
 rw [e] at this; cases this
theorem Inv.bs (I:Inv X pins σ H s):∀ b o,X.base.get? b=some o->s.heap.get? b=some o/\H b=none:=λb o e =>
 ⟨I.base.keep b o (I.ok.bs b o e).1 (I.ok.bs b o e).2 (I.ok.nofr e) (I.ok.noex b o e),I.base.free b o (I.ok.bs b o e).1 (I.ok.bs b o e).2 (I.ok.noex b o e)⟩
theorem Inv.bk (I:Inv X pins σ H s):∀ b o,X.base.get? b=some o->s.heap.get? b=some o:=λb o e=>(I.bs b o e).1
theorem Inv.mod (I:Inv X pins σ H s):Mod X.K X.mg X.base:=I.ok.mod
theorem Inv.kIn (I:Inv X pins σ H s):X.K.In s.heap:=I.ok.mod.kin.keeps I.bk
theorem Inv.lt (I:Inv X pins σ H s):X.env.locals < s.heap.objs.size:=let ⟨_,hn,_⟩:=I.loc; hn.lt
theorem Inv.sz (I:Inv X pins σ H s):X.s₀.heap.objs.size <= s.heap.objs.size:=A1 I.ok.above (Nat.le_of_lt I.lt)
theorem Inv.nofs (I:Inv X pins σ H s) {a:Addr} (h:s.heap.objs.size <= a):a ∉ X.fs:=λhb=>by
 obtain ⟨_,o,ho,_⟩:=I.ok.funs.mem hb
 exact absurd (A8 (A0 ho) (A1 I.sz h)) (BZ _)
theorem Inv.cne (I:Inv X pins σ H s):∀ x c,X.env.cells.lookup x=some c->c ≠ X.env.locals:=λx c e z=>by
 obtain ⟨v,o,ho,hd⟩:=I.cell x c e
 obtain ⟨m,⟨o',es,ep,ho',hd',_⟩,_⟩:=I.loc
 rw [z,ho'] at ho; cases ho; rw [hd'] at hd; cases hd
theorem Inv.funs (I:Inv X pins σ H s):s.heap.FunFrames X.base X.outer:=by
 have all:∀ (l:List Env),(∀ b ∈ frs l,b ∈ X.fs)->X.s₀.heap.FunFrames X.base l->s.heap.FunFrames X.base l:=by
  intro l
  induction l with
  | nil=>intro _ _; trivial
  | cons env r ih =>
   intro hs hl
   obtain ⟨hk,⟨L,o,hf,hn,ho,hd⟩,hr⟩:=hl
   have hL:L ∈ X.fs:=hs L (by unfold frs; rw [Df,hf]; exact Aq)
   obtain ⟨sl,e⟩:=I.base.slot L o ho (I.ok.frf L hL) hL λz=>I.ok.exfs L z hL
   exact ⟨hk,⟨L,_,hf,hn,e,hd⟩,ih (λb hb=>hs b (by unfold frs; rw [Df,hf]; exact Au _ hb)) hr⟩
 exact all X.outer (λ_ hb=>hb) I.ok.funs
theorem Inv.stack (I:Inv X pins σ H s):s.heap.FunFrames X.base X.stack:=by
 rcases I.ok.stk with e | ⟨e,hf⟩
 .rw [e]; exact I.funs
 .rw [e]
  obtain ⟨m,hn,_⟩:=I.loc
  refine .cons (by rw [I.ok.kind]; decide) hf hn ?_ I.funs
  exact Heap.get?_none_of_le (A1 I.ok.bsz I.ok.above)
theorem Inv.stkSub (I:Inv X pins σ H s):∀ b ∈ frs X.stack,b ∈ X.env.locals :: X.fs:=λb hb=>by
 rcases I.ok.stk with e | ⟨e,hf⟩
 .rw [e] at hb; exact Au _ hb
 .rw [e] at hb
  unfold frs at hb
  rw [Df,hf] at hb
  exact hb
theorem Inv.stkFree (I:Inv X pins σ H s):∀ b ∈ frs X.stack,H b=none:=λb hb=>by
 rcases Ao.mp (I.stkSub b hb) with e | hb
 .rw [e]; exact I.free
 .obtain ⟨_,o,ho,_⟩:=I.ok.funs.mem hb
  exact I.base.free b o ho (I.ok.frf b hb) λz=>I.ok.exfs b z hb
theorem Inv.step {g':Array GenState} {t':Nat} {d':Drawn} {ch:List Addr} (I:Inv X pins σ H s)
  (hch:∀ b ∈ ch,(b ∈ X.ex \/ X.s₀.heap.objs.size <= b)/\b ≠ X.env.locals/\(∀ x c,X.env.cells.lookup x=some c->c ≠ b)/\∀ p ∈ X.pn ++ pins,p.1 ≠ b)
  (keep:∀ b o,b ≠ X.env.locals->b ∉ X.fs->b ∉ ch->s.heap.get? b=some o->H b=none->h'.get? b=some o)
  (slot:∀ b o,b ≠ X.env.locals->b ∈ X.fs->b ∉ ch->s.heap.get? b=some o->H b=none->∃ sl,h'.get? b=some { o with slots:=sl }) (free:∀ b o,b ∉ ch->s.heap.get? b=some o->H b=none->H' b=none)
  (there:∀ b o,b ∉ ch->s.heap.get? b=some o->∃ o',h'.get? b=some o')
  (tups:∀ b xs,H b=some (.tup xs)->H' b=some (.tup xs)) (frzs:∀ b o u,H b=some (.frz o u)->H' b=some (.frz o u)) (tbls:∀ b ps,H b=some (.tbl ps)->∃ qc5,H' b=some (.tbl (ps ++ qc5)))
  (ns:∀ m,s.heap.Ns X.env.locals m->h'.Ns X.env.locals m) (hok:HOk X.prog X.w H' h') (hg:DV g') :
  Inv X pins σ H' { s with heap:=h',gens:=g',drawn:=d',toks:=t' }:=by
 have neL:∀ b o,X.s₀.heap.get? b=some o->b ≠ X.env.locals:=λb o e=>AJ (A8 (A0 e) I.ok.above)
 have neC:∀ b o,X.s₀.heap.get? b=some o->b ∉ X.ex->b ∉ ch:=λb o e hx hb=>by
  rcases (hch b hb).1 with z | z
  .exact hx z
  .exact absurd (A8 (A0 e) z) (BZ _)
 have cellK:∀ x c,X.env.cells.lookup x=some c->∀ v,s.heap.IsCell c v->h'.IsCell c v:=λx c e v ⟨o,ho,hd⟩=>by
  have nch:c ∉ ch:=λz=>(hch c z).2.2.1 x c e rfl
  by_cases hc:c ∈ X.fs
  .obtain ⟨sl,q⟩:=slot c o (I.cne x c e) hc nch ho (I.freeC x c e)
   exact ⟨_,q,hd⟩
  .exact ⟨o,keep c o (I.cne x c e) hc nch ho (I.freeC x c e),hd⟩
 refine ⟨I.ok,I.os,hg,⟨λb o e n hb hx => ?_,λb o e n hb hx => ?_,λb o e n hx => ?_,λb o e hx => ?_,λb xs e=>tups b xs (I.base.tups b xs e),λb o xs e=>frzs b o xs (I.base.frzs b o xs e),λb ps e => ?_⟩,?_,λx c e => ?_,?_,λx c e => ?_,λp hp => ?_,hok,I.len⟩
 .exact keep b o (neL b o e) hb (neC b o e hx) (I.base.keep b o e n hb hx) (I.base.free b o e n hx)
 .obtain ⟨sl,e1⟩:=I.base.slot b o e n hb hx
  obtain ⟨sl',e2⟩:=slot b _ (neL b o e) hb (neC b o e hx) e1 (I.base.free b o e n hx)
  exact ⟨sl',e2⟩
 .obtain ⟨o',e1⟩:=I.base.there b o e hx
  exact free b o' (neC b o e hx) e1 (I.base.free b o e n hx)
 .obtain ⟨o',e1⟩:=I.base.there b o e hx
  exact there b o' (neC b o e hx) e1
 .obtain ⟨m1,e1⟩:=I.base.tbls b ps e
  obtain ⟨m2,e2⟩:=tbls b _ e1
  exact ⟨m1 ++ m2,by rw [e2,Array.append_assoc]⟩
 .obtain ⟨m,hn,hl⟩:=I.loc
  refine ⟨m,ns m hn,λi x v e1 e2 e3 => ?_⟩
  obtain ⟨u,r,l⟩:=hl i x v e1 e2 e3
  refine ⟨u,r,?_⟩
  rcases l with l | ⟨k,c,e,z⟩
  .exact .inl l
  .exact .inr ⟨k,c,e,cellK x c e _ z⟩
 .obtain ⟨v,z⟩:=I.cell x c e
  exact ⟨v,cellK x c e v z⟩
 .obtain ⟨m,⟨o,_,_,ho,_⟩,_⟩:=I.loc
  exact free _ o (λz=>(hch _ z).2.1 rfl) ho I.free
 .obtain ⟨v,o,ho,hd⟩:=I.cell x c e
  exact free c o (λz=>(hch c z).2.2.1 x c e rfl) ho (I.freeC x c e)
 .obtain ⟨e,n,ne,nf,d⟩:=I.pin p hp
  have nch:p.1 ∉ ch:=λz=>(hch p.1 z).2.2.2 p hp rfl
  exact ⟨keep p.1 p.2 ne nf nch e n,free p.1 p.2 nch e n,ne,nf,d⟩
theorem Inv.un {t':Nat} (I:Inv X pins σ H s) (u:Un X.fs [] H H' s.heap h') (hok:HOk X.prog X.w H' h'):Inv X pins σ H' { s with heap:=h',toks:=t' }:=by
 obtain ⟨m,⟨o,es,ep,ho,r⟩,_⟩:=id I.loc
 obtain ⟨sl,hL⟩:=u.any ho I.free (by simp)
 exact I.step (g':=s.gens) (d':=s.drawn) (ch:=[]) (λ_ z=>nomatch z) (λb o _ hb _ e n=>u.keep b o e n hb (by simp)) (λb o _ hb _ e n=>u.slot b o e n hb (by simp)) (λb o _ e n=>u.free b o e n (by simp)) (λb o _ e=>u.there b o e (by simp)) u.tups u.frzs u.tbls (λm' hm=>by
  obtain ⟨o',es',ep',ho',r'⟩:=hm
  rw [ho] at ho'; cases ho'
  exact ⟨_,es',ep',hL,r'⟩) hok I.bare
theorem Inv.call {g':Array GenState} {t':Nat} {d':Drawn} {ch:List Addr} (I:Inv X pins σ H s) (u:Un (frs X.stack) ch H H' s.heap h') (hok:HOk X.prog X.w H' h') (hg:DV g')
  (hch:∀ b ∈ ch,(b ∈ X.ex \/ X.s₀.heap.objs.size <= b)/\b ≠ X.env.locals/\(∀ x c,X.env.cells.lookup x=some c->c ≠ b)/\∀ p ∈ X.pn ++ pins,p.1 ≠ b) :
  Inv X pins σ H' { s with heap:=h',gens:=g',drawn:=d',toks:=t' }:=by
 obtain ⟨m,⟨o,es,ep,ho,r⟩,_⟩:=id I.loc
 obtain ⟨sl,hL⟩:=u.any ho I.free λz=>(hch _ z).2.1 rfl
 exact I.step (ch:=ch) hch (λb o hL hb hc e n=>u.keep b o e n (λz=>(Ao.mp (I.stkSub b z)).elim hL hb) hc) (λb o _ _ hc e n=>u.any e n hc) (λb o hc e n=>u.free b o e n hc) (λb o hc e=>u.there b o e hc) u.tups u.frzs u.tbls (λm' hm=>by
  obtain ⟨o',es',ep',ho',r'⟩:=hm
  rw [ho] at ho'; cases ho'
  exact ⟨_,es',ep',hL,r'⟩) hok hg
theorem Inv.turned {t':Nat} {it:Addr} (I:Inv X pins σ H s) (k:∀ b o,b ≠ it->s.heap.get? b=some o->h'.get? b=some o) (hn:H it=none) (hL:it ≠ X.env.locals)
  (h1:it ∈ X.ex \/ X.s₀.heap.objs.size <= it) (h2:∀ x c,X.env.cells.lookup x=some c->c ≠ it) (h3:∀ p ∈ X.pn ++ pins,p.1 ≠ it):Inv X pins σ H { s with heap:=h',toks:=t' }:=by
 have nit:∀ b u,H b=some u->b ≠ it:=λb u e z=>by rw [z,hn] at e; cases e
 refine I.step (g':=s.gens) (d':=s.drawn) (ch:=[it]) (λb hb => ?_) (λb o _ _ hc e _=>k b o (λz=>hc (by simp [z])) e) (λb o _ _ hc e _=>⟨o.slots,k b o (λz=>hc (by simp [z])) e⟩) (λ_ _ _ _ n=>n)
  (λb o hc e=>⟨o,k b o (λz=>hc (by simp [z])) e⟩) (λ_ _ e=>e) (λ_ _ _ e=>e) (λb ps e=>⟨#[],by rw [e]; simp⟩) (λm hm => ?_) (λb u e => ?_) I.bare
 .have e:b=it:=by simpa using hb
  subst e
  exact ⟨h1,hL,h2,h3⟩
 .obtain ⟨o,es,ep,ho,r⟩:=hm
  exact ⟨o,es,ep,k _ o (AX hL) ho,r⟩
 .refine (I.hok b u e).stay (λc v hc q=>k c v ?_ q) (λ_ q=>q) λ_ _ q=>q
  rcases hc with z | z
  .rw [z]; exact nit b u e
  .exact nit c _ z
theorem Inv.tok (I:Inv X pins σ H s) (t:Nat):Inv X pins σ H { s with toks:=t }:=I.un (h':=s.heap) (t':=t) Un.refl I.hok
theorem Inv.kept {t':Nat} (I:Inv X pins σ H s) (k:∀ b u,s.heap.get? b=some u->h'.get? b=some u):Inv X pins σ H { s with heap:=h',toks:=t' }:=I.un (Un.kept k) (I.hok.kept k)
theorem Inv.laid {a:Addr} {o:HO} {t':Nat} (I:Inv X pins σ H s) (k:∀ b u,s.heap.get? b=some u->h'.get? b=some u) (hp:s.heap.objs.size <= a) (new:ObjOk X.prog X.w (upd H a o) h' a o) :
  Inv X pins σ (upd H a o) { s with heap:=h',toks:=t' }:=I.un (Un.laid k hp (I.hok.fresh hp)) (I.hok.laid k hp new)
theorem Inv.write {x e:Addr} {o:HO} {t':Nat} (I:Inv X pins σ H s) (mu:Mut (H x)) (he:e=x \/ H e=some (.own x)) (k:∀ b u,b ≠ e->s.heap.get? b=some u->h'.get? b=some u) (heo:∃ u,h'.get? e=some u)
  (new:ObjOk X.prog X.w (upd H x o) h' x o):Inv X pins σ (upd H x o) { s with heap:=h',toks:=t' }:=I.un (Un.write mu he k heo) (I.hok.write mu he k heo new)
theorem Inv.pins_of {pins':List (Addr × Obj)} (I:Inv X pins σ H s) (h:∀ p ∈ pins',s.heap.get? p.1=some p.2/\H p.1=none/\p.1 ≠ X.env.locals/\p.1 ∉ X.fs/\∀ v,p.2.data ≠ .cell v):Inv X pins' σ H s :=
 ⟨I.ok,I.os,I.bare,I.base,I.loc,I.cell,I.free,I.freeC,λp hp=>(A5.mp hp).elim (λz=>I.pin p (Bq _ z)) (h p),I.hok,I.len⟩
theorem qjo {N:List Str} (hN:N.Nodup) {i j:Nat} {x:Str} (a:N[i]?=some x) (b:N[j]?=some x):i=j:=by
 obtain ⟨h1,e1⟩:=Ae.mp a
 obtain ⟨h2,e2⟩:=Ae.mp b
 exact (List.getElem_inj hN).mp (e1.trans e2.symm)
theorem qrr {M:Model} {A:AU} {E:Value->Ah->Prop} {i:Nat} {x:Str} {v:V} {u:Value} {Q:Unit->Ah->Prop} (I:Inv X pins σ H s) (hN:X.N.Nodup) (hi:X.N[i]?=some x) (hx:Loc X.env.scope x) (r:RelV v u)
  (h:∀ s',Inv X pins (σ.set i (some v)) H s'->(∃ a,Cl a s.heap s'.heap/\(a=X.env.locals \/ X.env.cells.lookup x=some a))->Q () s') (hf:X.fn x=true \/ X.env.scope.names.lookup x=some .local:=by first | exact .inl rfl | exact .inr rfl | assumption):wpAny M A (storeName X.env x u) Q E s:=by
 obtain ⟨m,hn,hl⟩:=id I.loc
 have hcls:(X.env.scope.kind == .class || (X.env.scope.kind == .module && X.env.locals != X.env.globals))=false:=by rw [I.ok.kind]; rfl
 have hiσ:i < σ.length:=by rw [I.len]; exact (Ae.mp hi).1
 have cne:=I.cne
 have tracked:∀ {a:Addr} {h':Heap},(∃ o,s.heap.get? a=some o/\H a=none)->Cl a s.heap h'->HOk X.prog X.w H h':=λ{a h'} ha hs b ob e=>by
  obtain ⟨_,_,hfree⟩:=ha
  refine (I.hok b ob e).stay (λc w' hc q=>(hs.2 c ?_).trans q) (λ_ q=>q) λ_ _ q=>q
  rintro rfl
  rcases hc with rfl | hc
  .rw [hfree] at e; cases e
  .rw [hfree] at hc; cases hc
 rcases hx with hk | hk
 .refine wpAny_storeName_local hk hn (λh' hn' hs => ?_) hcls
  obtain ⟨oL,_,_,hoL,_⟩:=id hn
  refine h _ ⟨I.ok,I.os,I.bare,⟨λb o e n hb hx => ?_,λb o e n hb hx => ?_,I.base.free,λb o e hx => ?_,I.base.tups,I.base.frzs,I.base.tbls⟩,⟨_,hn',λj y v' e1 e2 e3 => ?_⟩,λy c e => ?_,I.free,I.freeC,λp hp => ?_,tracked ⟨oL,hoL,I.free⟩ hs,by simpa using I.len⟩ ⟨_,hs,.inl rfl⟩
  .exact (hs.2 b (AJ (A8 (A0 e) I.ok.above))).trans (I.base.keep b o e n hb hx)
  .obtain ⟨sl,e1⟩:=I.base.slot b o e n hb hx
   exact ⟨sl,(hs.2 b (AJ (A8 (A0 e) I.ok.above))).trans e1⟩
  .obtain ⟨o',e1⟩:=I.base.there b o e hx
   exact ⟨o',(hs.2 b (AJ (A8 (A0 e) I.ok.above))).trans e1⟩
  .by_cases hj:j=i
   .subst hj
    rw [hi] at e1; cases e1
    rw [Bp hiσ] at e2
    cases e2
    exact ⟨u,r,.inl ⟨hk,by simp⟩⟩
   .rw [DG (AX hj)] at e2
    obtain ⟨u',r',q⟩:=hl j y v' e1 e2 e3
    refine ⟨u',r',?_⟩
    rcases q with ⟨k,e⟩ | ⟨k,c,e,z⟩
    .refine .inl ⟨k,?_⟩
     have:y ≠ x:=λe=>hj (qjo hN e1 (e ▸ hi))
     simp [this,e]
    .exact .inr ⟨k,c,e,z.sameBut hs (cne y c e)⟩
  .obtain ⟨w',z⟩:=I.cell y c e
   exact ⟨w',z.sameBut hs (cne y c e)⟩
  .obtain ⟨e,n,ne,nf,d⟩:=I.pin p hp
   exact ⟨(hs.2 p.1 ne).trans e,n,ne,nf,d⟩
 .have hfn:X.fn x=true:=by
   rcases hf with z | z
   .exact z
   .rw [z] at hk; cases hk
  obtain ⟨c,hc⟩:=I.ok.has x (.inl hk)
  obtain ⟨w',z⟩:=I.cell x c hc
  refine wpAny_storeName_cell I.ok.kind hk hc z (λh' hc' hs => ?_)
  obtain ⟨oc,hoc,hocd⟩:=id z
  refine h { s with heap:=h' } ⟨I.ok,I.os,I.bare,⟨λb o e n hb hx => ?_,λb o e n hb hx => ?_,I.base.free,λb o e hx => ?_,I.base.tups,I.base.frzs,I.base.tbls⟩,⟨m,hn.sameBut hs (AX (cne x c hc)),λj y v' e1 e2 e3 => ?_⟩,λy c' e => ?_,I.free,I.freeC,λp hp => ?_,tracked ⟨oc,hoc,I.freeC x c hc⟩ hs,by simpa using I.len⟩ ⟨c,hs,.inr hc⟩
  .exact (hs.2 b (AJ (A8 (A0 e) (I.ok.cab x c hfn hc)))).trans (I.base.keep b o e n hb hx)
  .obtain ⟨sl,e1⟩:=I.base.slot b o e n hb hx
   exact ⟨sl,(hs.2 b (AJ (A8 (A0 e) (I.ok.cab x c hfn hc)))).trans e1⟩
  .obtain ⟨o',e1⟩:=I.base.there b o e hx
   exact ⟨o',(hs.2 b (AJ (A8 (A0 e) (I.ok.cab x c hfn hc)))).trans e1⟩
  .by_cases hj:j=i
   .subst hj
    rw [hi] at e1; cases e1
    rw [Bp hiσ] at e2
    cases e2
    exact ⟨u,r,.inr ⟨.inl hk,c,hc,hc'⟩⟩
   .rw [DG (AX hj)] at e2
    obtain ⟨u',r',q⟩:=hl j y v' e1 e2 e3
    refine ⟨u',r',?_⟩
    rcases q with q | ⟨k,c',e,z'⟩
    .exact .inl q
    .refine .inr ⟨k,c',e,z'.sameBut hs ?_⟩
     rintro rfl
     exact hj (qjo hN e1 (I.ok.inj _ _ _ e hc ▸ hi))
  .by_cases hcc:c'=c
   .subst hcc; exact ⟨_,hc'⟩
   .obtain ⟨w2,z2⟩:=I.cell y c' e
    exact ⟨w2,z2.sameBut hs hcc⟩
  .obtain ⟨e,n,ne,nf,d⟩:=I.pin p hp
   refine ⟨(hs.2 p.1 ?_).trans e,n,ne,nf,d⟩
   intro q
   rw [q,hoc] at e
   have q':oc=p.2:=AG e
   exact d w' (by rw [<- q']; exact hocd)
theorem qhh {M:Model} {A:AU} {E:Value->Ah->Prop} {i:Nat} {x:Str} {v:V} {u:Value} {Q:Unit->Ah->Prop} (I:Inv X pins σ H s) (hN:X.N.Nodup) (hi:X.N[i]?=some x) (hx:Loc X.env.scope x) (r:RelV v u)
  (h:∀ s',Inv X pins (σ.set i (some v)) H s'->Q () s') (hf:X.fn x=true \/ X.env.scope.names.lookup x=some .local:=by first | exact .inl rfl | exact .inr rfl | assumption):wpAny M A (storeName X.env x u) Q E s :=
 qrr I hN hi hx r (λs' I' _=>h s' I') hf
theorem Inv.call' {s':Ah} {ch:List Addr} (I:Inv X pins σ H s) (ho:s'.os=s.os) (u:Un (frs X.stack) ch H H' s.heap s'.heap) (hok:HOk X.prog X.w H' s'.heap) (hg:DV s'.gens)
  (hch:∀ b ∈ ch,(b ∈ X.ex \/ X.s₀.heap.objs.size <= b)/\b ≠ X.env.locals/\(∀ x c,X.env.cells.lookup x=some c->c ≠ b)/\∀ p ∈ X.pn ++ pins,p.1 ≠ b):Inv X pins σ H' s':=by
 obtain ⟨h',g',d',t',o'⟩:=s'
 have e:o'=s.os:=ho
 subst e
 exact I.call (g':=g') (t':=t') (d':=d') u hok hg hch
end
noncomputable abbrev XK:=Value->Option Addr->Hp->Prop
noncomputable abbrev St:=List (Option V)
noncomputable abbrev VK:=V->Hp->Prop
noncomputable abbrev TE:=St->Hp->VK->Prop
noncomputable abbrev TT:=St->Hp->(Bool->Hp->Prop)->Prop
noncomputable abbrev TA:=St->Hp->(List V->Hp->Prop)->Prop
structure Ends where
 nx:St->Hp->Prop
 rt:VK
 bk:St->Hp->Prop:=λ_ _=>False
 ct:St->Hp->Prop:=λ_ _=>False
noncomputable abbrev TS:=Ends->St->Hp->Prop
noncomputable def EP (X:Cx) (pins:List (Addr × Obj)) (σ:St) (Q:VK) (u:Value) (s':Ah):Prop:=∃ v H',Inv X pins σ H' s'/\RelV v u/\Q v H'
noncomputable def TP (X:Cx) (pins:List (Addr × Obj)) (σ:St) (Q:Bool->Hp->Prop) (b:Bool) (s':Ah):Prop:=∃ H',Inv X pins σ H' s'/\Q b H'
noncomputable def AP (X:Cx) (pins:List (Addr × Obj)) (σ:St) (Q:List V->Hp->Prop) (us:List Value) (s':Ah):Prop:=∃ vs H',Inv X pins σ H' s'/\Vals vs us/\Q vs H'
noncomputable def SP (X:Cx) (pins:List (Addr × Obj)) (D:Ends) (f:Flow) (s':Ah):Prop :=
 match f with
 | .next=>∃ σ' H',Inv X pins σ' H' s'/\D.nx σ' H'
 | .brk=>∃ σ' H',Inv X pins σ' H' s'/\D.bk σ' H'
 | .cont=>∃ σ' H',Inv X pins σ' H' s'/\D.ct σ' H'
 | .ret u=>∃ v σ' H',Inv X pins σ' H' s'/\RelV v u/\D.rt v H'
noncomputable def PE (X:Cx) (e:Expr) (t:TE):Prop :=
 ∀ (pins:List (Addr × Obj)) (s:Ah) (σ:St) (H:Hp) (Q:VK),Inv X pins σ H s->t σ H Q->wpAny (model X.prog X.w) X.A (eval e X.env) (EP X pins σ Q) X.xe s
noncomputable def PT (X:Cx) (e:Expr) (t:TT):Prop :=
 ∀ (pins:List (Addr × Obj)) (s:Ah) (σ:St) (H:Hp) (Q:Bool->Hp->Prop),Inv X pins σ H s->t σ H Q->wpAny (model X.prog X.w) X.A (isTrue e X.env (eval e X.env)) (TP X pins σ Q) X.xe s
noncomputable def PW (X:Cx) (e:Expr) (t:TT):Prop :=
 ∀ (whole:Sem Value) (pins:List (Addr × Obj)) (s:Ah) (σ:St) (H:Hp) (Q:Bool->Hp->Prop),Inv X pins σ H s->t σ H Q->wpAny (model X.prog X.w) X.A (isTrue e X.env whole) (TP X pins σ Q) X.xe s
theorem PW.pt {X:Cx} {e:Expr} {t:TT} (h:PW X e t):PT X e t:=h _
noncomputable def PA (X:Cx) (es:List Expr) (t:TA):Prop :=
 ∀ (pos:Pos) (pins:List (Addr × Obj)) (s:Ah) (σ:St) (H:Hp) (Q:List V->Hp->Prop),Inv X pins σ H s->t σ H Q->wpAny (model X.prog X.w) X.A (spliced (backTo pos (starEach es X.env))) (AP X pins σ Q) X.xe s
noncomputable def PS (X:Cx) (st:Stmt) (t:TS):Prop :=
 ∀ (pins:List (Addr × Obj)) (s:Ah) (σ:St) (H:Hp) (D:Ends),Inv X pins σ H s->t D σ H->wpAny (model X.prog X.w) X.A (exec st X.env) (SP X pins D) X.xe s
noncomputable def PSs (X:Cx) (st:List Stmt) (t:TS):Prop :=
 ∀ (pins:List (Addr × Obj)) (s:Ah) (σ:St) (H:Hp) (D:Ends),Inv X pins σ H s->t D σ H->wpAny (model X.prog X.w) X.A (execs st X.env) (SP X pins D) X.xe s
theorem thn {α:Type} {t:Sem α} {Q Q':α->Ah->Prop} {M:Model} {A:AU} {E:Value->Ah->Prop} {s:Ah} (h:wpAny M A t Q E s) (hQ:∀ a s,Q a s->Q' a s):wpAny M A t Q' E s:=BL h hQ λ_ _ x=>x
end L2
namespace L2
open PySem PySem.Spec PyProof.Rows
section
variable {X:Cx}
noncomputable def tVar (i:Nat):TE:=λσ H Q=>∃ v,σ[i]?=some (some v)/\Q v H
noncomputable def tC (v:V):TE:=λ_ H Q=>Q v H
theorem qx4 {i:Nat} {x:Str} {pos:Pos} (hN:X.N[i]?=some x) (hv:Vis X.env.scope x) (hd:(x == ("__debug__" : Str))=false:=by decide) (hcd:(x == ("__classdict__" : Str))=false:=by decide):PE X (.Name x pos) (tVar i):=by
 intro pins s σ H Q I h
 obtain ⟨v,e,h⟩:=h
 obtain ⟨m,hn,hl⟩:=I.loc
 obtain ⟨u,r,l⟩:=hl i x v hN e hv
 have fin:EP X pins σ Q u s:=⟨v,H,I,r,h⟩
 rcases l with ⟨hk,hm⟩ | ⟨hk,c,hc,hcell⟩
 .exact wpAny_Name (wpAny_loadName_local I.ok.kind hk hn hm fin) hd
 .rcases hk with hk | hk
  .exact wpAny_Name (wpAny_loadName_cell I.ok.kind hk hc hcell fin) hd
  .exact wpAny_Name (wpAny_loadName_free I.ok.kind hk hc hcell fin hcd) hd
theorem qu {i j pos}:PE X (.Constant (.int i) j pos) (tC (.int i)):=λ_ _ _ H _ I h=>wpAny_Constant_int ⟨.int i,H,I.tok _,⟨_,rfl⟩,h⟩
theorem qg2 {b j pos}:PE X (.Constant (.bool b) j pos) (tC (.bl b)):=λ_ _ _ H _ I h=>Constant_bool ⟨.bl b,H,I,rfl,h⟩
theorem qbk {j pos}:PE X (.Constant .none j pos) (tC .non):=λ_ _ _ H _ I h=>Constant_none ⟨.non,H,I,rfl,h⟩
theorem zq {x j pos}:PE X (.Constant (.str x) j pos) (tC (.str x)):=λ_ _ _ H _ I h=>Calls.Constant_str ⟨.str x,H,I.tok _,⟨_,rfl⟩,h⟩
noncomputable def Gl (X:Cx) (x:Str):Prop:=X.env.kindOf x=some .globalImplicit
theorem qev {E:Value->Ah->Prop} {pins:List (Addr × Obj)} {s:Ah} {σ:St} {H:Hp} {x:Str} {u:Value} {pos:Pos} {Q:Value->Ah->Prop} (I:Inv X pins σ H s) (hg:Gl X x) (hm:X.mg x=some u) (h:Q u s)
  (hd:(x == ("__debug__" : Str))=false:=by decide):wpAny (model X.prog X.w) X.A (eval (.Name x pos) X.env) Q E s :=
 Calls.Name_function_global I.ok.kind hg (Calls.loadGlobal_global (by rw [I.ok.glob]; exact I.mod.glob.keeps I.bk) hm h) hd
theorem qfc {E:Value->Ah->Prop} {pins:List (Addr × Obj)} {s:Ah} {σ:St} {H:Hp} {x:Str} {u:Value} {pos:Pos} {Q:Value->Ah->Prop} (I:Inv X pins σ H s) (hg:Gl X x) (hm:X.mg x=none) (hv:bootBuiltins x=some u) (h:Q u s)
  (hn:x ≠ "__name__" := by decide) (hd:(x == ("__debug__" : Str))=false:=by decide):wpAny (model X.prog X.w) X.A (eval (.Name x pos) X.env) Q E s:=by
 obtain ⟨mb,h1,h2⟩:=I.mod.blt
 exact Calls.Name_function_global I.ok.kind hg (Calls.loadGlobal_builtin (by rw [I.ok.glob]; exact I.mod.glob.keeps I.bk) hm (by rw [I.ok.blt]; exact h1.keeps I.bk) ((h2 x hn).trans hv) h) hd
theorem qbj {x:Str} {v:V} {u:Value} {pos:Pos} (hg:Gl X x) (hm:X.mg x=some u) (r:RelV v u) (hd:(x == ("__debug__" : Str))=false:=by decide):PE X (.Name x pos) (tC v) :=
 λ_ _ _ H _ I h=>qev I hg hm ⟨v,H,I,r,h⟩ hd
theorem qds {x:Str} {v:V} {u:Value} {pos:Pos} (hg:Gl X x) (hm:X.mg x=none) (hv:bootBuiltins x=some u) (r:RelV v u) (hn:x ≠ "__name__" := by decide) (hd:(x == ("__debug__" : Str))=false:=by decide):PE X (.Name x pos) (tC v) :=
 λ_ _ _ H _ I h=>qfc I hg hm hv ⟨v,H,I,r,h⟩ hn hd
variable {a b:Expr} {ta tb:TE} {pos:Pos}
noncomputable def PC (X:Cx) (op:CmpOp) (a b:Expr) (t:TE):Prop :=
 ∀ (pins:List (Addr × Obj)) (s:Ah) (σ:St) (H:Hp) (Q:VK),Inv X pins σ H s->t σ H Q ->
  wpAny (model X.prog X.w) X.A (eval a X.env) (λv s₁=>wpAny (model X.prog X.w) X.A (eval b X.env) (λu s₂=>wpAny (model X.prog X.w) X.A (compareOp op v u) (EP X pins σ Q) X.xe s₂) X.xe s₁) X.xe s
noncomputable def tB (t:TE):TT:=λσ H Q=>t σ H λx H1=>∃ c,x=.bl c/\Q c H1
theorem qmq {op:CmpOp} {t:TE} (h:PC X op a b t) (h1:behindInMarks op b=false:=by first | exact nobehind _ (by decide) (by decide) | rfl):PT X (.Compare a [op] [b] pos) (tB t):=by
 intro pins s σ H Q I hw
 refine wpAny_isTrue_Compare1 (thn (h pins s σ H _ I hw) λv s1 h1=>thn h1 λu s2 h2=>thn h2 λc s3 hh9 => ?_) h1
 obtain ⟨x,H1,I1,r1,q1⟩:=hh9
 obtain ⟨d,rfl,q⟩:=q1
 cases r1
 exact B9 ⟨H1,I1,q⟩
theorem zp {e:Expr} {t:TE} (h:PE X e t) (he:∀ whole,isTrue e X.env whole=(do let v <- whole; standAt e.pos; holding [v] (truthy v)):=by intro _; rfl):PT X e (tB t):=by
 intro pins s σ H Q I hw
 refine isTrue_plain (thn (h pins s σ H _ I hw) λv s1 hh9 => ?_) (he _)
 obtain ⟨x,H1,I1,r1,q1⟩:=hh9
 obtain ⟨d,rfl,q⟩:=q1
 cases r1
 exact B9 ⟨H1,I1,q⟩
variable {tA tB':TT} {qa9:List Expr}
noncomputable def tAnd (t u:TT):TT:=λσ H Q=>t σ H λc H1=>if c=true then u σ H1 Q else Q false H1
noncomputable def tOr (t u:TT):TT:=λσ H Q=>t σ H λc H1=>if c=true then Q true H1 else u σ H1 Q
noncomputable def tNot (t:TT):TT:=λσ H Q=>t σ H λc H1=>Q (!c) H1
theorem qdt (ha:PT X a tA):PW X (.BoolOp .And [a] pos) tA:=by
 intro wh pins s σ H Q I h
 refine isTrue_and (thn (ha pins s σ H Q I h) λc s1 e => ?_)
 cases c with
 | true=>exact isTrue_and_nil e
 | false=>exact e
theorem qjp (ha:PT X a tA):PW X (.BoolOp .Or [a] pos) tA:=by
 intro wh pins s σ H Q I h
 refine isTrue_or (thn (ha pins s σ H Q I h) λc s1 e => ?_)
 cases c with
 | false=>exact isTrue_or_nil e
 | true=>exact e
theorem qd3 (ha:PT X a tA) (hb:PW X (.BoolOp .And (b :: qa9) pos) tB'):PW X (.BoolOp .And (a :: b :: qa9) pos) (tAnd tA tB'):=by
 intro wh pins s σ H Q I h
 refine isTrue_and (thn (ha pins s σ H _ I h) λc s1 hh9 => ?_)
 obtain ⟨H1,I1,q1⟩:=hh9
 cases c with
 | true=>exact hb wh pins s1 σ H1 Q I1 q1
 | false=>exact ⟨H1,I1,q1⟩
theorem qix (ha:PT X a tA) (hb:PW X (.BoolOp .Or (b :: qa9) pos) tB'):PW X (.BoolOp .Or (a :: b :: qa9) pos) (tOr tA tB'):=by
 intro wh pins s σ H Q I h
 refine isTrue_or (thn (ha pins s σ H _ I h) λc s1 hh9 => ?_)
 obtain ⟨H1,I1,q1⟩:=hh9
 cases c with
 | true=>exact ⟨H1,I1,q1⟩
 | false=>exact hb wh pins s1 σ H1 Q I1 q1
theorem qid (ha:PT X a tA):PT X (.UnaryOp .Not a pos) (tNot tA):=by
 intro pins s σ H Q I h
 exact isTrue_not (ha pins s σ H (λc H1=>Q (!c) H1) I h)
noncomputable def tAndV (ta tb:TE):TE:=λσ H Q=>ta σ H λx H1=>∃ c,x=.bl c/\if c=true then tb σ H1 Q else Q (.bl false) H1
noncomputable def tOrV (ta tb:TE):TE:=λσ H Q=>ta σ H λx H1=>∃ c,x=.bl c/\if c=true then Q (.bl true) H1 else tb σ H1 Q
noncomputable def tNotV (ta:TE):TE:=λσ H Q=>ta σ H λx H1=>∃ c,x=.bl c/\Q (.bl (!c)) H1
theorem qey {op} {t:TE} (h:PE X a t):PE X (.BoolOp op [a] pos) t:=λpins s σ H Q I hw=>BoolOp_one (h pins s σ H Q I hw)
theorem qd4 (ha:PE X a ta) (hb:PE X (.BoolOp .And (b :: qa9) pos) tb):PE X (.BoolOp .And (a :: b :: qa9) pos) (tAndV ta tb):=by
 intro pins s σ H Q I h
 refine BoolOp_and (thn (ha pins s σ H _ I h) λv s1 hh9 => ?_)
 obtain ⟨x,H1,I1,r1,q1⟩:=hh9
 obtain ⟨c,rfl,q1⟩:=q1
 cases r1
 refine B9 ?_
 cases c with
 | true=>exact hb pins s1 σ H1 Q I1 q1
 | false=>exact ⟨.bl false,H1,I1,rfl,q1⟩
theorem qxp (ha:PE X a ta) (hb:PE X (.BoolOp .Or (b :: qa9) pos) tb):PE X (.BoolOp .Or (a :: b :: qa9) pos) (tOrV ta tb):=by
 intro pins s σ H Q I h
 refine BoolOp_or (thn (ha pins s σ H _ I h) λv s1 hh9 => ?_)
 obtain ⟨x,H1,I1,r1,q1⟩:=hh9
 obtain ⟨c,rfl,q1⟩:=q1
 cases r1
 refine B9 ?_
 cases c with
 | false=>exact hb pins s1 σ H1 Q I1 q1
 | true=>exact ⟨.bl true,H1,I1,rfl,q1⟩
theorem qjq (ha:PE X a ta):PE X (.UnaryOp .Not a pos) (tNotV ta):=by
 intro pins s σ H Q I h
 refine UnaryOp_ (thn (ha pins s σ H _ I h) λv s1 hh9 => ?_)
 obtain ⟨x,H1,I1,r1,q1⟩:=hh9
 obtain ⟨c,rfl,q1⟩:=q1
 cases r1
 exact not_of (B9 ⟨.bl (!c),H1,I1,rfl,q1⟩)
noncomputable def tIf (t:TT) (ta tb:TE):TE:=λσ H Q=>t σ H λc H1=>if c=true then ta σ H1 Q else tb σ H1 Q
theorem qdx {c:Expr} (hc:PT X c tA) (ha:PE X a ta) (hb:PE X b tb):PE X (.IfExp c a b pos) (tIf tA ta tb):=by
 intro pins s σ H Q I h
 refine wpAny_IfExp (thn (hc pins s σ H _ I h) λd s1 hh9 => ?_)
 obtain ⟨H1,I1,q1⟩:=hh9
 cases d with
 | true=>exact ha pins s1 σ H1 Q I1 q1
 | false=>exact hb pins s1 σ H1 Q I1 q1
end
end L2
namespace L2
open PySem PySem.Spec PyProof.Rows
noncomputable def SqL (K:Af) (H:Hp) (a:Addr) (xs:List V):Prop :=
 Rd H a (.lst xs) \/
  ∃ (o:Obj) (its:Array Value) (n:Nat),K.lookup a=some o/\o.cls=.type "list" /\ o.dict=none/\o.data=.seq its n/\its.size <= Ax/\Vals xs its.toList
noncomputable def SqT (K:Af) (H:Hp) (a:Addr) (xs:List V):Prop :=
 Rd H a (.tup xs) \/
  ∃ (o:Obj) (its:Array Value) (n:Nat),K.lookup a=some o/\o.cls=.type "tuple" /\ o.data=.seq its n/\its.size <= Ax/\Vals xs its.toList
noncomputable def absV:Value->Option V
 | .none=>some .non
 | .bool b=>some (.bl b)
 | .int i _=>some (.int i)
 | .str x _=>some (.str x)
 | .bytes b _=>some (.byt b)
 | .float b _=>some (.flt b)
 | .ref a=>some (.ref a)
 | .type n=>some (.ty n)
 | _=>none
theorem RelV.abs {x:V} {u:Value} (r:RelV x u):absV u=some x:=by
 cases x with
 | non=>cases r; rfl
 | bl _=>cases r; rfl
 | int _=>obtain ⟨t,rfl⟩:=r; rfl
 | str _=>obtain ⟨t,rfl⟩:=r; rfl
 | byt _=>obtain ⟨t,rfl⟩:=r; rfl
 | flt _=>obtain ⟨t,rfl⟩:=r; rfl
 | ref _=>cases r; rfl
 | ty _=>cases r; rfl
theorem RelV.inj {x y:V} {u:Value} (r:RelV x u) (q:RelV y u):x=y:=AG (r.abs.symm.trans q.abs)
theorem Vals.inj:∀ {xs ys:List V} {us:List Value},Vals xs us->Vals ys us->xs=ys
 | _,_,_,.nil,.nil=>rfl
 | _,_,_,.cons r t,.cons r' t'=>by rw [r.inj r',Vals.inj t t']
section
variable {X:Cx} {pins:List (Addr × Obj)} {σ:St} {H:Hp} {s:Ah} {a:Addr} {xs ys:List V}
theorem SqL.of {K:Af} (h:H a=some (.lst xs)):SqL K H a xs:=.inl (.inl h)
theorem SqT.of {K:Af} (h:H a=some (.tup xs)):SqT K H a xs:=.inl (.inl h)
theorem Inv.list (I:Inv X pins σ H s) (h:SqL X.K H a xs):∃ its:List Value,Vals xs its/\PlainL s.heap a its.toArray/\xs.length <= Ax:=by
 rcases h with h | ⟨o,its,n,hk,hc,hd,hs,hz,r⟩
 .obtain ⟨z,its,n,r,e⟩:=h.ok I.hok
  exact ⟨its,r,⟨_,n,e,rfl,rfl,rfl⟩,z⟩
 .refine ⟨its.toList,r,⟨o,n,I.kIn a o hk,hc,hd,by simpa using hs⟩,?_⟩
  have e:=r.length
  simp only [AN] at e
  lia
theorem Inv.tuple (I:Inv X pins σ H s) (h:SqT X.K H a xs):∃ its:List Value,Vals xs its/\IsTup s.heap a its.toArray/\xs.length <= Ax:=by
 rcases h with h | ⟨o,its,n,hk,hc,hs,hz,r⟩
 .obtain ⟨z,its,r,p⟩:=h.ok I.hok
  exact ⟨its,r,p,z⟩
 .refine ⟨its.toList,r,⟨o,I.kIn a o hk,hc,n,by simpa using hs⟩,?_⟩
  have e:=r.length
  simp only [AN] at e
  lia
theorem Inv.list_inj (I:Inv X pins σ H s) (h:SqL X.K H a xs) (h':SqL X.K H a ys):xs=ys:=by
 obtain ⟨its,r,⟨o,n,e,_,_,d⟩,_⟩:=I.list h
 obtain ⟨its',r',⟨o',n',e',_,_,d'⟩,_⟩:=I.list h'
 rw [e] at e'; cases e'
 rw [d] at d'
 injection d' with d1 _
 have:its=its':=by simpa using congrArg Array.toList d1
 subst this
 exact r.inj r'
theorem Inv.tuple_inj (I:Inv X pins σ H s) (h:SqT X.K H a xs) (h':SqT X.K H a ys):xs=ys:=by
 obtain ⟨its,r,⟨o,e,_,n,d⟩,_⟩:=I.tuple h
 obtain ⟨its',r',⟨o',e',_,n',d'⟩,_⟩:=I.tuple h'
 rw [e] at e'; cases e'
 rw [d] at d'
 injection d' with d1 _
 have:its=its':=by simpa using congrArg Array.toList d1
 subst this
 exact r.inj r'
end
noncomputable abbrev Cx.wish (X:Cx) (E:Value->Ah->Prop):Cx:={ X with xe:=E }
noncomputable abbrev Cx.nox (X:Cx):Cx:=X.wish λ_ _=>False
theorem Cx.Ok.wish {X:Cx} (ok:X.Ok) (E:Value->Ah->Prop):(X.wish E).Ok :=
 ⟨ok.mod,ok.kind,ok.glob,ok.blt,ok.above,ok.inj,ok.has,ok.cab,ok.hd,ok.frames,ok.stk,ok.exf,ok.bs,ok.bsz,ok.noex,ok.exfs,ok.funs,ok.frf⟩
theorem Cx.Ok.unwish {X:Cx} {E:Value->Ah->Prop} (ok:(X.wish E).Ok):X.Ok :=
 ⟨ok.mod,ok.kind,ok.glob,ok.blt,ok.above,ok.inj,ok.has,ok.cab,ok.hd,ok.frames,ok.stk,ok.exf,ok.bs,ok.bsz,ok.noex,ok.exfs,ok.funs,ok.frf⟩
section
variable {X:Cx} {pins:List (Addr × Obj)} {σ:St} {H:Hp} {s:Ah} {E:Value->Ah->Prop}
theorem Inv.wish (I:Inv X pins σ H s) (E:Value->Ah->Prop):Inv (X.wish E) pins σ H s:=⟨I.ok.wish E,I.os,I.bare,I.base,I.loc,I.cell,I.free,I.freeC,I.pin,I.hok,I.len⟩
theorem Inv.unwish (I:Inv (X.wish E) pins σ H s):Inv X pins σ H s:=⟨I.ok.unwish,I.os,I.bare,I.base,I.loc,I.cell,I.free,I.freeC,I.pin,I.hok,I.len⟩
theorem SP.unwish {D:Ends} {f:Flow} {s':Ah} (h:SP (X.wish E) pins D f s'):SP X pins D f s':=by
 cases f with
 | next=>obtain ⟨σ',H',I,q⟩:=h; exact ⟨σ',H',I.unwish,q⟩
 | brk=>obtain ⟨σ',H',I,q⟩:=h; exact ⟨σ',H',I.unwish,q⟩
 | cont=>obtain ⟨σ',H',I,q⟩:=h; exact ⟨σ',H',I.unwish,q⟩
 | ret u=>obtain ⟨v,σ',H',I,r,q⟩:=h; exact ⟨v,σ',H',I.unwish,r,q⟩
theorem PSs.nox {st:List Stmt} {t:TS} (h:PSs X.nox st t):PSs X st t:=λpins s σ H D I hw =>
 BL (h pins s σ H D (I.wish _) hw) (λ_ _ q=>q.unwish) λ_ _ z=>By z
end
section
variable {X:Cx} {st:Stmt} {qa9:List Stmt} {t u:TS} {e:Expr} {te:TE} {pos:Pos}
noncomputable def tNext:TS:=λD σ H=>D.nx σ H
noncomputable def tSeq (t u:TS):TS:=λD σ H=>t { D with nx:=u D } σ H
theorem qag:PSs X [] tNext:=λ_ _ σ H _ I h=>Dl ⟨σ,H,I,h⟩
theorem qp (h1:PS X st t) (h2:PSs X qa9 u):PSs X (st :: qa9) (tSeq t u):=by
 intro pins s σ H D I h
 refine wpAny_execs_cons (thn (h1 pins s σ H { D with nx:=u D } I h) λf s1 q => ?_)
 cases f with
 | next =>
  obtain ⟨σ',H',I',q⟩:=q
  exact h2 pins s1 σ' H' D I' q
 | ret v=>exact q
 | brk=>exact q
 | cont=>exact q
theorem qz (h1:PS X st t):PSs X [st] t:=by
 intro pins s σ H D I h
 refine wpAny_execs_cons (thn (h1 pins s σ H D I h) λf s1 q => ?_)
 cases f with
 | next=>exact Dl q
 | ret v=>exact q
 | brk=>exact q
 | cont=>exact q
theorem Inv.quiet {pins:List (Addr × Obj)} {σ:St} {H:Hp} {s:Ah} (I:Inv X pins σ H s):interactive X.env=false:=by simp [interactive,I.ok.kind]
noncomputable def tDrop (te:TE):TS:=λD σ H=>te σ H λ_ H1=>D.nx σ H1
theorem zk (he:PE X e te) (hs:swapsWith e none pos.line X.env=pure false:=by rfl):PS X (.Expr e pos) (tDrop te):=by
 intro pins s σ H D I h
 exact wpAny_Expr_any (thn (he pins s σ H _ I h) λv s1 ⟨x,H1,I1,r1,q1⟩=>⟨σ,H1,I1,q1⟩) I.quiet hs
noncomputable def tRet (te:TE):TS:=λD σ H=>te σ H D.rt
theorem zd (he:PE X e te):PS X (.Return (some e) pos) (tRet te):=by
 intro pins s σ H D I h
 exact wpAny_Return_some (thn (he pins s σ H _ I h) λv s1 ⟨x,H1,I1,r1,q1⟩=>⟨x,σ,H1,I1,r1,q1⟩)
noncomputable def tIfS (c:TT) (t u:TS):TS:=λD σ H=>c σ H λb H1=>if b=true then t D σ H1 else u D σ H1
theorem zm {c:Expr} {a b:List Stmt} {tc:TT} (hc:PT X c tc) (ha:PSs X a t) (hb:PSs X b u):PS X (.If c a b pos) (tIfS tc t u):=by
 intro pins s σ H D I h
 refine wpAny_If (thn (hc pins s σ H _ I h) λd s1 hh9 => ?_)
 obtain ⟨H1,I1,q1⟩:=hh9
 cases d with
 | true=>exact ha pins s1 σ H1 D I1 q1
 | false=>exact hb pins s1 σ H1 D I1 q1
end
noncomputable abbrev TG:=V->St->Hp->(St->Hp->Prop)->Prop
noncomputable abbrev TGs:=List V->St->Hp->(St->Hp->Prop)->Prop
noncomputable def PG (X:Cx) (target:Expr) (t:TG):Prop :=
 ∀ (pins:List (Addr × Obj)) (s:Ah) (σ:St) (H:Hp) (v:V) (u:Value) (Q:St->Hp->Prop),Inv X pins σ H s->RelV v u->t v σ H Q ->
  wpAny (model X.prog X.w) X.A (assign target X.env u) (λ_ s'=>∃ σ' H',Inv X pins σ' H' s'/\Q σ' H') X.xe s
noncomputable def PGs (X:Cx) (ts:List Expr) (t:TGs):Prop :=
 ∀ (pins:List (Addr × Obj)) (s:Ah) (σ:St) (H:Hp) (vs:List V) (us:List Value) (Q:St->Hp->Prop),Inv X pins σ H s->Vals vs us->t vs σ H Q ->
  wpAny (model X.prog X.w) X.A (assignInOrder ((assignEach ts X.env).map (·.2)) us) (λ_ s'=>∃ σ' H',Inv X pins σ' H' s'/\Q σ' H') X.xe s
noncomputable abbrev qx5:=V->V->V->Hp->(Hp->Prop)->Prop
noncomputable def PSet (X:Cx) (t:qx5):Prop :=
 ∀ (pins:List (Addr × Obj)) (s:Ah) (σ:St) (H:Hp) (o i v:V) (ov iv u:Value) (Q:Hp->Prop),Inv X pins σ H s->RelV o ov->RelV i iv->RelV v u->t o i v H Q ->
  wpAny (model X.prog X.w) X.A (setItem ov iv u) (λ_ s'=>∃ H',Inv X pins σ H' s'/\Q H') X.xe s
noncomputable abbrev TIp:=V->V->Hp->VK->Prop
noncomputable def PIp (X:Cx) (op:Operator) (t:TIp):Prop :=
 ∀ (pins:List (Addr × Obj)) (s:Ah) (σ:St) (H:Hp) (x y:V) (v u:Value) (Q:VK),Inv X pins σ H s->RelV x v->RelV y u->t x y H Q ->
  wpAny (model X.prog X.w) X.A (inplaceOp op v u) (EP X pins σ Q) X.xe s
section
variable {X:Cx} {pos:Pos}
noncomputable def qlk (i:Nat):TG:=λv σ H Q=>Q (σ.set i (some v)) H
theorem qak {i:Nat} {x:Str} (hN:X.N.Nodup) (hi:X.N[i]?=some x) (hx:Loc X.env.scope x) (hf:X.fn x=true \/ X.env.scope.names.lookup x=some .local:=by first | exact .inl rfl | exact .inr rfl | assumption):PG X (.Name x pos) (qlk i):=by
 intro pins s σ H v u Q I r h
 exact wpAny_assign_Name (qhh I hN hi hx r (λs' I'=>⟨_,H,I',h⟩) hf)
noncomputable def gNil:TGs:=λvs σ H Q=>vs=[]/\Q σ H
noncomputable def gCons (t:TG) (u:TGs):TGs:=λvs σ H Q=>∃ v r,vs=v :: r/\t v σ H λσ' H'=>u r σ' H' Q
theorem qgo:PGs X [] gNil:=by
 intro pins s σ H vs us Q I r h
 obtain ⟨e,h⟩:=h
 subst e
 cases r
 exact assignInOrder_nil ⟨σ,H,I,h⟩
theorem qbn {e:Expr} {es:List Expr} {t:TG} {u:TGs} (h1:PG X e t) (h2:PGs X es u)
  (hs:(assignEach (e :: es) X.env).map (·.2)=assign e X.env :: (assignEach es X.env).map (·.2):=by rfl):PGs X (e :: es) (gCons t u):=by
 intro pins s σ H vs us Q I r h
 obtain ⟨v,vr,e1,h⟩:=h
 subst e1
 cases r with
 | cons r rr =>
  rw [hs]
  refine assignInOrder_cons (thn (h1 pins s σ H _ _ _ I r h) λ_ s1 hh9 => ?_)
  obtain ⟨σ1,H1,I1,q1⟩:=hh9
  exact h2 pins s1 σ1 H1 _ _ Q I1 rr q1
noncomputable def qvt (K:Af) (n:Nat) (t:TGs):TG:=λv σ H Q=>∃ a xs,v=.ref a/\SqT K H a xs/\xs.length=n/\t xs σ H Q
theorem qie {es:List Expr} {k:Nat} {t:TGs} {n:Nat} (hc:X.calm=true) (h:PGs X es t)
  (hn:(assignEach es X.env).length=n:=by rfl) (hst:(assignEach es X.env).findIdx? (·.1)=none:=by rfl):PG X (.Tuple es k pos) (qvt X.K n t):=by
 intro pins s σ H v u Q I r hw
 obtain ⟨a,xs,e1,hq,hl,hw⟩:=hw
 subst e1
 cases r
 obtain ⟨its,rv,ht,hz⟩:=I.tuple hq
 refine assign_Tuple_tuple (I.ok.hd hc) ht (by simp [hn,<- hl,rv.length]) hst λh' hx => ?_
 have I1:Inv X pins σ H { s with heap:=h' }:=I.kept (t':=s.toks) λb o e=>hx b o (AJ (A0 e)) e
 exact h pins _ σ H xs _ Q I1 (by simpa using rv) hw
noncomputable def gSub (to ti:TE) (t:qx5):TG:=λv σ H Q=>to σ H λo H1=>ti σ H1 λi H2=>t o i v H2 λH3=>Q σ H3
theorem qta {o i:Expr} {to ti:TE} {t:qx5} (ho:PE X o to) (hi:PE X i ti) (hs:PSet X t)
  (ha:∀ v,assign (.Subscript o i pos) X.env v=(do
   let ov <- holding [v] (eval o X.env)
   let iv <- holding [v,ov] (eval i X.env)
   standAt pos
   holding [v,ov,iv] (setItem ov iv v)
   release [v,ov,iv] []):=by intro _; rfl):PG X (.Subscript o i pos) (gSub to ti t):=by
 intro pins s σ H v u Q I r h
 rw [ha]
 refine Ad (Ca (thn (ho pins s σ H _ I h) λov s1 hh9 => ?_))
 obtain ⟨x,H1,I1,r1,q1⟩:=hh9
 refine Ad (Ca (thn (hi pins s1 σ H1 _ I1 q1) λiv s2 hh9 => ?_))
 obtain ⟨y,H2,I2,r2,q2⟩:=hh9
 refine Ad (DD (Ad (Ca (thn (hs pins s2 σ H2 x y v ov iv u _ I2 r1 r2 r q2) λ_ s3 hh9 => ?_))))
 obtain ⟨H3,I3,q3⟩:=hh9
 exact wpAny_release ⟨σ,H3,I3,q3⟩
noncomputable def qx6 (te:TE) (g:TG):TS:=λD σ H=>te σ H λx H1=>g x σ H1 D.nx
theorem qmr {tg e:Expr} {te:TE} {g:TG} (he:PE X e te) (hg:PG X tg g) (hs:swapsWithSole [tg] e pos.line X.env=pure false:=by rfl) (hw:swappedStores [tg] e X.env=pure none:=by rfl)
  (h1:(assignEach [tg] X.env).map (·.2)=[assign tg X.env]:=by rfl):PS X (.Assign [tg] e pos) (qx6 te g):=by
 intro pins s σ H D I h
 refine wpAny_Assign_stores (thn (he pins s σ H _ I h) λv s1 hh9 => ?_) hs hw
 obtain ⟨x,H1,I1,r1,q1⟩:=hh9
 rw [h1]
 exact thn (hg pins s1 σ H1 x v _ I1 r1 q1) λ_ s2 q=>q
theorem zh {i:Nat} {x:Str} {e:Expr} {te:TE} {pos':Pos} (hN:X.N.Nodup) (hi:X.N[i]?=some x) (hx:Loc X.env.scope x) (he:PE X e te) (hs:swapsWith e (some (.Name x pos')) pos.line X.env=pure false:=by rfl) (hf:X.fn x=true \/ X.env.scope.names.lookup x=some .local:=by first | exact .inl rfl | exact .inr rfl | assumption) :
  PS X (.Assign [.Name x pos'] e pos) (qx6 te (qlk i)):=by
 intro pins s σ H D I h
 refine wpAny_Assign_Name (thn (he pins s σ H _ I h) λv s1 hh9 => ?_) hs
 obtain ⟨y,H1,I1,r1,q1⟩:=hh9
 exact qhh I1 hN hi hx r1 (λs2 I2=>⟨_,H1,I2,q1⟩) hf
noncomputable def tAug (i:Nat) (te:TE) (ti:TIp):TS:=λD σ H=>∃ x,σ[i]?=some (some x)/\te σ H λy H1=>ti x y H1 λz H2=>D.nx (σ.set i (some z)) H2
theorem qx7 {i:Nat} {x:Str} {e:Expr} {te:TE} {op:Operator} {ti:TIp} {pos':Pos} (hN:X.N.Nodup) (hi:X.N[i]?=some x) (hx:Loc X.env.scope x) (he:PE X e te) (ho:PIp X op ti) (hf:X.fn x=true \/ X.env.scope.names.lookup x=some .local:=by first | exact .inl rfl | exact .inr rfl | assumption) :
  PS X (.AugAssign (.Name x pos') op e pos) (tAug i te ti):=by
 intro pins s σ H D I h
 obtain ⟨v,e1,h⟩:=h
 obtain ⟨m,hn,hl⟩:=I.loc
 have vis:Vis X.env.scope x:=by rcases hx with k | k; exact .inl k; exact .inr (.inl k)
 obtain ⟨u,r,l⟩:=hl i x v hi e1 vis
 refine wpAny_AugAssign_Name ?_
 have go:wpAny (model X.prog X.w) X.A (eval e X.env) (λw s₂=>wpAny (model X.prog X.w) X.A (inplaceOp op u w) (λr s₃=>wpAny (model X.prog X.w) X.A (storeName X.env x r) (λ_=>SP X pins D .next) X.xe s₃) X.xe s₂) X.xe s:=by
  refine thn (he pins s σ H _ I h) λw s1 hh9 => ?_
  obtain ⟨y,H1,I1,r1,q1⟩:=hh9
  refine thn (ho pins s1 σ H1 v y u w _ I1 r r1 q1) λz s2 hh9 => ?_
  obtain ⟨zv,H2,I2,r2,q2⟩:=hh9
  exact qhh I2 hN hi hx r2 (λs3 I3=>⟨_,H2,I3,q2⟩) hf
 rcases l with ⟨hk,hm⟩ | ⟨hk,c,hc,hcell⟩
 .exact wpAny_loadName_local I.ok.kind hk hn hm go
 .rcases hk with hk | hk
  .exact wpAny_loadName_cell I.ok.kind hk hc hcell go
  .rcases hx with k | k
   .have:X.env.scope.names.lookup x=some .free:=hk
    rw [k] at this; cases this
   .have:X.env.scope.names.lookup x=some .free:=hk
    rw [k] at this; cases this
end
section
variable {X:Cx} {pos:Pos}
noncomputable def qx8 (c:TT) (tb:TS):TS:=λD σ H=>∃ W:Nat->St->Hp->Prop,(∃ m,W m σ H)/\∀ m σ H,W m σ H ->
 c σ H λb H1=>if b=true then ∃ N:St->Hp->Prop,(∀ σ' H',N σ' H'->∃ m',m' < m/\W m' σ' H')/\tb { D with nx:=N,ct:=N,bk:=D.nx } σ H1 else D.nx σ H1
theorem qtb {c:Expr} {body:List Stmt} {tc:TT} {tb:TS} (hp:BE (model X.prog X.w) X.A X.env X.xe) (hc:PT X c tc) (hb:PSs X body tb):PS X (.While c body [] pos) (qx8 tc tb):=by
 intro pins s σ H D I h
 obtain ⟨W,⟨m0,w0⟩,turn⟩:=h
 refine wpAny_While (codeAny_whileLoop (λn s'=>∃ σ' H',Inv X pins σ' H' s'/\W n σ' H') ?_ m0 ⟨σ,H,I,w0⟩)
 rintro n s1 ⟨σ1,H1,I1,w1⟩
 refine C0 hp (thn (hc pins s1 σ1 H1 _ I1 (turn n σ1 H1 w1)) λb s2 hh9 => ?_)
 obtain ⟨H2,I2,q2⟩:=hh9
 cases b with
 | true =>
  obtain ⟨N,hN,q2⟩:=q2
  rw [if_pos rfl]
  refine C0 hp (thn (hb pins s2 σ1 H2 _ I2 q2) λf s3 q3 => ?_)
  cases f with
  | next =>
   obtain ⟨σ3,H3,I3,n3⟩:=q3
   obtain ⟨m',hm,w3⟩:=hN σ3 H3 n3
   exact ⟨m',hm,σ3,H3,I3,w3⟩
  | cont =>
   obtain ⟨σ3,H3,I3,n3⟩:=q3
   obtain ⟨m',hm,w3⟩:=hN σ3 H3 n3
   exact ⟨m',hm,σ3,H3,I3,w3⟩
  | brk=>exact q3
  | ret v=>exact q3
 | false =>
  rw [if_neg AA]
  exact Dl ⟨σ1,H2,I2,q2⟩
end
structure It where
 go:Nat->Hp->Prop
 yld:Nat->Hp->V->Hp->Prop
 stop:Nat->Hp->Prop
noncomputable def qei (X:Cx) (pins:List (Addr × Obj)) (H:Hp) (b:Addr):Prop :=
 H b=none/\b ≠ X.env.locals/\b ∉ X.fs/\(b ∈ X.ex \/ X.s₀.heap.objs.size <= b)/\(∀ x c,X.env.cells.lookup x=some c->c ≠ b)/\∀ p ∈ X.pn ++ pins,p.1 ≠ b
theorem Inv.fpOk {X:Cx} {pins:List (Addr × Obj)} {σ:St} {H H':Hp} {s:Ah} {b:Addr} (I:Inv X pins σ H s) (hb:s.heap.objs.size <= b) (hn:H' b=none):qei X pins H' b:=by
 refine ⟨hn,Cr (A8 I.lt hb),I.nofs hb,.inr (A1 I.sz hb),λx c e z => ?_,λp hp z => ?_⟩
 .obtain ⟨v,q⟩:=I.cell x c e
  exact absurd (A8 q.lt (by rw [z]; exact hb)) (BZ _)
 .exact absurd (A8 (A0 (I.pin p hp).1) (by rw [z]; exact hb)) (BZ _)
structure Turn (P:AM) (w:World) (K:Af) (tg:Expr) (J:It) (fp:List Addr) (it:Addr) (tn:Nat->Heap->Prop):Prop where
 mem:it ∈ fp
 obj:∀ i h,tn i h->∀ b ∈ fp,∃ o,h.get? b=some o/\∀ v,o.data ≠ .cell v
 keep:∀ i h h',tn i h->(∀ b ∈ fp,∀ o,h.get? b=some o->h'.get? b=some o)->tn i h'
 item:∀ (X:Cx),X.prog=P->X.w=w->X.K=K->X.calm=true->∀ (i:Nat) (pins:List (Addr × Obj)) (s:Ah) (σ:St) (H:Hp) (E:Value->Ah->Prop),Inv X pins σ H s->(∀ b ∈ fp,qei X pins H b)->tn i s.heap->J.go i H ->
  wpAny (model P w) X.A (pyNext (.ref it)) (λr s1=>∃ u,r=some u /\
   wpAny (model P w) X.A (letOwnedTupleGo tg (.ref it) u) (λ_ s2=>∃ x H',Inv X pins σ H' s2/\RelV x u/\J.yld i H x H'/\tn (i + 1) s2.heap/\∀ b ∈ fp,H' b=none) E s1) E s
 done:∀ (X:Cx),X.prog=P->X.w=w->X.K=K->X.calm=true->∀ (i:Nat) (pins:List (Addr × Obj)) (s:Ah) (σ:St) (H:Hp) (E:Value->Ah->Prop),Inv X pins σ H s->(∀ b ∈ fp,qei X pins H b)->tn i s.heap->J.stop i H ->
  wpAny (model P w) X.A (pyNext (.ref it)) (λr s1=>r=none/\Inv X pins σ H s1) E s
 self:∀ (A:AU) (i:Nat) (s:Ah) (Q:Value->Ah->Prop) (E:Value->Ah->Prop),tn i s.heap->Q (.ref it) s->wpAny (model P w) A (pyIter (.ref it)) Q E s
noncomputable abbrev TI:=St->Hp->(It->Hp->Prop)->Prop
noncomputable def PIE (X:Cx) (pins:List (Addr × Obj)) (σ:St) (tg:Expr) (R:It->Hp->Prop) (itv:Value) (s2:Ah):Prop :=
 ∃ (it:Addr) (fp:List Addr) (tn:Nat->Heap->Prop) (J:It) (H':Hp),itv=.ref it/\Inv X pins σ H' s2/\Turn X.prog X.w X.K tg J fp it tn/\tn 0 s2.heap/\(∀ b ∈ fp,qei X pins H' b)/\R J H'
noncomputable def PI (X:Cx) (tg iter:Expr) (wi:TI):Prop :=
 ∀ (pins:List (Addr × Obj)) (s:Ah) (σ:St) (H:Hp) (R:It->Hp->Prop),Inv X pins σ H s->wi σ H R ->
  wpAny (model X.prog X.w) X.A (eval iter X.env) (λv s1=>wpAny (model X.prog X.w) X.A (pyIter v) (PIE X pins σ tg R) X.xe s1) X.xe s
theorem qqk {M:Model} {A:AU} {E:Value->Ah->Prop} {s:Ah} {tg:Expr} {it:Addr} {u:Value} {o:Obj} {n:String} {vs:Array Value} {Q:Unit->Ah->Prop} (ho:s.heap.get? it=some o) (hc:o.cls=.type n) (hd:o.data=.fields vs)
  (hn:["enumerate", "zip", "dict_itemiterator", "dict_reverseitemiterator", "odict_iterator", "itertools.zip_longest", "itertools.pairwise"].contains n=false) (hQ:Q () s):wpAny M A (letOwnedTupleGo tg (.ref it) u) Q E s:=by
 unfold letOwnedTupleGo
 cases tg <;> first
  | exact Ay hQ
  | (cases u <;> first
    | exact Ay hQ
    | (refine Ad (wpAny_load ho ?_)
       rw [hc,hd]
       show wpAny M A (if (["enumerate", "zip", "dict_itemiterator", "dict_reverseitemiterator", "odict_iterator", "itertools.zip_longest", "itertools.pairwise"].contains n && vs[0]? == some (rawInt _))=true then _ else _) Q E s
       rw [if_neg (by intro h; rw [hn,Cm] at h; cases h)]
       exact Ay hQ))
noncomputable def Itl (K:Af) (a:Addr):It :=
 ⟨λi H=>∃ xs x,SqL K H a xs/\xs[i]?=some x,λi H x H'=>H'=H/\∀ xs,SqL K H a xs->xs[i]?=some x,λi H=>∃ xs,SqL K H a xs/\xs.length <= i⟩
noncomputable def Itt (K:Af) (a:Addr):It :=
 ⟨λi H=>∃ xs x,SqT K H a xs/\xs[i]?=some x,λi H x H'=>H'=H/\∀ xs,SqT K H a xs->xs[i]?=some x,λi H=>∃ xs,SqT K H a xs/\xs.length <= i⟩
noncomputable def Itr (lo:Int) (n:Nat):It:=⟨λi _=>i < n,λi H x H'=>H'=H/\x=.int (lo + i),λi _=>n <= i⟩
theorem qrs {P:AM} {w:World} {K:Af} {tg:Expr} (a it:Addr):Turn P w K tg (Itl K a) [it] it (λi h=>h.IsListIter it a i) where
 mem:=by simp
 obj:=λi h st b hb=>by
  have e:b=it:=by simpa using hb
  subst e
  obtain ⟨o,e,c,d⟩:=st
  exact ⟨o,e,λv z=>by rw [d] at z; cases z⟩
 keep:=λi h h' st k=>st.at λo e=>k it (by simp) o e
 item:=by
  intro X hP hw hK hc i pins s σ H E I hf st hg
  subst hP hw hK
  obtain ⟨xs,x,hq,hx⟩:=hg
  obtain ⟨its,rv,p,hz⟩:=I.list hq
  obtain ⟨u,hu,ru⟩:=rv.get hx
  obtain ⟨f0,f1,f2,f3,f4,f5⟩:=hf it (by simp)
  refine wpAny_pyNext_list_item st p.isList (x:=u) (by simpa using hu) λh' st' sb => ?_
  have I1:Inv X pins σ H { s with heap:=h' }:=I.turned (t':=s.toks) (λb o hb e=>(sb.2 b hb).trans e) f0 f1 f3 f4 f5
  obtain ⟨o,e,c,d⟩:=id st'
  exact ⟨u,rfl,qqk (s:={ s with heap:=h' }) e c d (by decide) ⟨x,H,I1,ru,⟨rfl,λys hy=>by rw [I.list_inj hy hq]; exact hx⟩,st',λb hb=>(hf b hb).1⟩⟩
 done:=by
  intro X hP hw hK hc i pins s σ H E I hf st hg
  subst hP hw hK
  obtain ⟨xs,hq,hx⟩:=hg
  obtain ⟨its,rv,p,hz⟩:=I.list hq
  obtain ⟨f0,f1,f2,f3,f4,f5⟩:=hf it (by simp)
  have hl:=rv.length
  exact wpAny_pyNext_list_end (I.ok.hd hc) st p.isList (by simp; lia) λh' eb=>⟨rfl,I.turned (t':=s.toks) (λb o hb e=>eb b o hb e) f0 f1 f3 f4 f5⟩
 self:=λ_ _ _ _ _ st h=>wpAny_pyIter_listiter st h
theorem qo0 {P:AM} {w:World} {K:Af} {tg:Expr} (a it:Addr):Turn P w K tg (Itt K a) [it] it (λi h=>h.IsTupleIter it a i) where
 mem:=by simp
 obj:=λi h st b hb=>by
  have e:b=it:=by simpa using hb
  subst e
  obtain ⟨o,e,c,d⟩:=st
  exact ⟨o,e,λv z=>by rw [d] at z; cases z⟩
 keep:=λi h h' st k=>st.at λo e=>k it (by simp) o e
 item:=by
  intro X hP hw hK hc i pins s σ H E I hf st hg
  subst hP hw hK
  obtain ⟨xs,x,hq,hx⟩:=hg
  obtain ⟨its,rv,p,hz⟩:=I.tuple hq
  obtain ⟨u,hu,ru⟩:=rv.get hx
  obtain ⟨f0,f1,f2,f3,f4,f5⟩:=hf it (by simp)
  refine wpAny_pyNext_tuple_item st (show s.heap.IsTuple a its.toArray from p) (x:=u) (by simpa using hu) λh' st' sb => ?_
  have I1:Inv X pins σ H { s with heap:=h' }:=I.turned (t':=s.toks) (λb o hb e=>(sb.2 b hb).trans e) f0 f1 f3 f4 f5
  obtain ⟨o,e,c,d⟩:=id st'
  exact ⟨u,rfl,qqk (s:={ s with heap:=h' }) e c d (by decide) ⟨x,H,I1,ru,⟨rfl,λys hy=>by rw [I.tuple_inj hy hq]; exact hx⟩,st',λb hb=>(hf b hb).1⟩⟩
 done:=by
  intro X hP hw hK hc i pins s σ H E I hf st hg
  subst hP hw hK
  obtain ⟨xs,hq,hx⟩:=hg
  obtain ⟨its,rv,p,hz⟩:=I.tuple hq
  obtain ⟨f0,f1,f2,f3,f4,f5⟩:=hf it (by simp)
  have hl:=rv.length
  exact wpAny_pyNext_tuple_end (I.ok.hd hc) st (show s.heap.IsTuple a its.toArray from p) (by simp; lia) λh' eb=>⟨rfl,I.turned (t':=s.toks) (λb o hb e=>eb b o hb e) f0 f1 f3 f4 f5⟩
 self:=λ_ _ _ _ _ st h=>wpAny_pyIter_tupleiter st h
theorem qo1 {P:AM} {w:World} {K:Af} {tg:Expr} (it:Addr) (lo:Int) (n:Nat):Turn P w K tg (Itr lo n) [it] it (λi h=>IsRangeIter h it (lo + (i:Nat) * 1) ((n:Int) - (i:Nat)) 1) where
 mem:=by simp
 obj:=λi h st b hb=>by
  have e:b=it:=by simpa using hb
  subst e
  exact ⟨_,st,λv z=>by
   have z':Data.fields _=Data.cell v:=z
   cases z'⟩
 keep:=λi h h' st k=>k it (by simp) _ st
 item:=by
  intro X hP hw hK hc i pins s σ H E I hf st hg
  subst hP hw hK
  obtain ⟨f0,f1,f2,f3,f4,f5⟩:=hf it (by simp)
  have W:=Walks.range (prog:=X.prog) (w:=X.w) (I.ok.hd hc) it lo 1 n
  refine W.item i s _ _ hg st λv h' tk hv st' kk => ?_
  obtain ⟨t,rfl⟩:=hv
  have I1:Inv X pins σ H { s with heap:=h',toks:=tk }:=I.turned (λb o hb e=>kk b o (by simpa using hb) e) f0 f1 f3 f4 f5
  refine ⟨_,rfl,qqk (s:={ s with heap:=h',toks:=tk }) (n := "range_iterator") st' rfl rfl (by decide) ⟨.int (lo + i),H,I1,⟨t,?_⟩,⟨rfl,rfl⟩,st',λb hb=>(hf b hb).1⟩⟩
  rw [Int.mul_one]
 done:=by
  intro X hP hw hK hc i pins s σ H E I hf st hg
  subst hP hw hK
  obtain ⟨f0,f1,f2,f3,f4,f5⟩:=hf it (by simp)
  exact wpAny_pyNext_range_end (I.ok.hd hc) st (by have:n <= i:=hg; lia) λh' eb=>⟨rfl,I.turned (t':=s.toks) (λb o hb e=>eb b o hb e) f0 f1 f3 f4 f5⟩
 self:=λ_ _ _ _ _ st h=>wpAny_pyIter_rangeiter st h
end L2
namespace L2
open PySem PySem.Spec PyProof.Rows
section
variable {X:Cx} {tg:Expr}
noncomputable def iList (K:Af) (tl:TE):TI:=λσ H R=>tl σ H λx H1=>∃ a,x=.ref a/\(∃ xs,SqL K H1 a xs)/\R (Itl K a) H1
noncomputable def iTup (K:Af) (tl:TE):TI:=λσ H R=>tl σ H λx H1=>∃ a,x=.ref a/\(∃ xs,SqT K H1 a xs)/\R (Itt K a) H1
theorem qb1 {l:Expr} {tl:TE} (hl:PE X l tl):PI X tg l (iList X.K tl):=by
 intro pins s σ H R I h
 refine thn (hl pins s σ H _ I h) λv s1 hh9 => ?_
 obtain ⟨x,H1,I1,r1,q1⟩:=hh9
 obtain ⟨a,e,⟨xs,hq⟩,q⟩:=q1
 subst e
 cases r1
 obtain ⟨its,rv,p,hz⟩:=I1.list hq
 refine Dq p.isList ?_
 refine ⟨s1.heap.objs.size,[s1.heap.objs.size],_,_,H1,rfl,I1.kept (t':=s1.toks) λb o e=>Am _ e,qrs a _,⟨_,A6 _ rfl,rfl,rfl⟩,λb hb => ?_,q⟩
 have e:b=s1.heap.objs.size:=by simpa using hb
 subst e
 exact I1.fpOk (Az _) (I1.hok.fresh (Az _))
theorem qx9 {l:Expr} {tl:TE} (hl:PE X l tl):PI X tg l (iTup X.K tl):=by
 intro pins s σ H R I h
 refine thn (hl pins s σ H _ I h) λv s1 hh9 => ?_
 obtain ⟨x,H1,I1,r1,q1⟩:=hh9
 obtain ⟨a,e,⟨xs,hq⟩,q⟩:=q1
 subst e
 cases r1
 obtain ⟨its,rv,p,hz⟩:=I1.tuple hq
 refine wpAny_pyIter_tuple (show s1.heap.IsTuple a its.toArray from p) ?_
 refine ⟨s1.heap.objs.size,[s1.heap.objs.size],_,_,H1,rfl,I1.kept (t':=s1.toks) λb o e=>Am _ e,qo0 a _,⟨_,A6 _ rfl,rfl,rfl⟩,λb hb => ?_,q⟩
 have e:b=s1.heap.objs.size:=by simpa using hb
 subst e
 exact I1.fpOk (Az _) (I1.hok.fresh (Az _))
theorem qtc {pins:List (Addr × Obj)} {σ:St} {H:Hp} {s:Ah} {R:It->Hp->Prop} {E:Value->Ah->Prop} {lo hi:Int} {t u v:Tok} {tk:Nat} (I:Inv X pins σ H s) (h1 : -(2 ^ 62) <= lo) (h2:lo < 2 ^ 62) (h3 : -(2 ^ 62) <= hi) (h4:hi < 2 ^ 62)
  (q:R (Itr lo (hi - lo).toNat) H):wpAny (model X.prog X.w) X.A (pyIter (.ref s.heap.objs.size)) (PIE X pins σ tg R) E { s with heap:=s.heap.push { cls:=.type "range",data:=.fields #[.int lo t,.int hi u,.int 1 v] },toks:=tk }:=by
 refine wpAny_pyIter_range (IsRange.new ..) (small_one h1 h2 h3 h4) ?_
 have I1:Inv X pins σ H { s with heap:=s.heap.push { cls:=.type "range",data:=.fields #[.int lo t,.int hi u,.int 1 v] },toks:=tk }:=I.kept λb o e=>Am _ e
 refine ⟨(s.heap.push { cls:=.type "range",data:=.fields #[.int lo t,.int hi u,.int 1 v] }).objs.size,[(s.heap.push { cls:=.type "range",data:=.fields #[.int lo t,.int hi u,.int 1 v] }).objs.size],_,_,H,rfl,
  I1.kept (t':=tk) λb o e=>Am _ e,qo1 _ lo (hi - lo).toNat,?_,λb hb => ?_,q⟩
 .have e1:lo + ((0:Nat):Int) * 1=lo:=by simp
  have e2:(((hi - lo).toNat:Nat):Int) - ((0:Nat):Int)=AO.Range.rangeSize lo hi 1:=by rw [rangeSize_one]; split <;> lia
  show IsRangeIter _ _ (lo + ((0:Nat):Int) * 1) ((((hi - lo).toNat:Nat):Int) - ((0:Nat):Int)) 1
  rw [e1,e2]
  exact A6 _ rfl
 .have e:b=(s.heap.push { cls:=.type "range",data:=.fields #[.int lo t,.int hi u,.int 1 v] }).objs.size:=by simpa using hb
  subst e
  exact I1.fpOk (Az _) (I1.hok.fresh (Az _))
noncomputable def iRng1 (ta:TA):TI:=λσ H R=>ta σ H λvs H1=>∃ j:Int,vs=[.int j] /\ -(2 ^ 62) <= j/\j < 2 ^ 62/\R (Itr 0 j.toNat) H1
theorem qck {a:Expr} {ta:TA} {p pos:Pos} (hg:Gl X "range") (hm:X.mg "range" = none) (ha:PA X [a] ta) (hs:starEach [a] X.env=[(false,eval a X.env)]:=by rfl):PI X tg (.Call (.Name "range" p) [a] [] pos) (iRng1 ta):=by
 intro pins s σ H R I h
 refine Call_ (qfc I hg hm boot_range (Bz (thn (ha pos pins s σ H _ I h) λus s1 hh9 => ?_) hs rfl))
 obtain ⟨vs,H1,I1,r1,q1⟩:=hh9
 obtain ⟨j,e,q1,q2,q⟩:=q1
 subst e
 cases r1 with
 | cons r rr =>
  cases rr
  obtain ⟨t,rfl⟩:=r
  exact call_range_1 (qtc I1 (by lia) (by lia) q1 q2 (by simpa using q))
noncomputable def tFor (wi:TI) (g:TG) (tb:TS):TS:=λD σ H=>wi σ H λJ H1=>∃ W:Nat->Nat->St->Hp->Prop,(∃ m,W 0 m σ H1)/\∀ i m σ H,W i m σ H ->
 (J.stop i H/\D.nx σ H) \/ (J.go i H/\∃ N:St->Hp->Prop,(∀ σ' H',N σ' H'->∃ m',m' < m/\W (i + 1) m' σ' H')/\∀ x H',J.yld i H x H'->g x σ H' λσ2 H2=>tb { D with nx:=N,ct:=N,bk:=D.nx } σ2 H2)
noncomputable def qjr (fp:List Addr) (h:Heap):List (Addr × Obj):=fp.filterMap λb=>(h.get? b).map λo=>(b,o)
theorem qfd {fp:List Addr} {h:Heap} {b:Addr} {o:Obj} (hb:b ∈ fp) (e:h.get? b=some o):(b,o) ∈ qjr fp h:=List.mem_filterMap.mpr ⟨b,hb,by rw [e]; rfl⟩
theorem qrt {fp:List Addr} {h:Heap} {p:Addr × Obj} (hp:p ∈ qjr fp h):p.1 ∈ fp/\h.get? p.1=some p.2:=by
 obtain ⟨b,hb,e⟩:=List.mem_filterMap.mp hp
 cases q:h.get? b with
 | none=>rw [q] at e; cases e
 | some o =>
  rw [q] at e
  have e':(b,o)=p:=AG e
  subst e'
  exact ⟨hb,q⟩
theorem Inv.pinned {pins:List (Addr × Obj)} {σ:St} {H:Hp} {s:Ah} {fp:List Addr} (I:Inv X pins σ H s) (hf:∀ b ∈ fp,qei X pins H b) (ho:∀ b ∈ fp,∃ o,s.heap.get? b=some o/\∀ v,o.data ≠ .cell v):Inv X (pins ++ qjr fp s.heap) σ H s :=
 I.pins_of λp hp=>(A5.mp hp).elim (λz=>I.pin p (AD _ z)) λz=>by
  obtain ⟨hb,e⟩:=qrt z
  obtain ⟨f0,f1,f2,_⟩:=hf p.1 hb
  obtain ⟨o,e',d⟩:=ho p.1 hb
  rw [e] at e'; cases e'
  exact ⟨e,f0,f1,f2,d⟩
theorem Inv.unpinned {pins pl:List (Addr × Obj)} {σ:St} {H:Hp} {s:Ah} (I:Inv X (pins ++ pl) σ H s):Inv X pins σ H s:=I.pins_of λp hp=>I.pin p (AD _ (Bq _ hp))
theorem qcn {iter:Expr} {body:List Stmt} {wi:TI} {g:TG} {tb:TS} {pos:Pos} (hp:BE (model X.prog X.w) X.A X.env X.xe) (hc:X.calm=true) (hi:PI X tg iter wi) (hg:PG X tg g) (hb:PSs X body tb)
  (hs:∀ x,foldedSetIterable iter X.env x=pure x:=by intro _; rfl):PS X (.For tg iter body [] pos) (tFor wi g tb):=by
 intro pins s σ H D I h
 refine wpAny_For (thn (hi pins s σ H _ I h) λv s1 h1=>thn h1 λitv s2 h2 => ?_) hs
 obtain ⟨it,fp,tn,J,H2,e,I2,T,st2,f2,W,⟨m0,w0⟩,turn⟩:=h2
 subst e
 -- what stays true of the iterator's objects through the loop
 have stat:∀ {H':Hp},(∀ b ∈ fp,H' b=none)->∀ b ∈ fp,qei X pins H' b:=λhn b hb=>⟨hn b hb,(f2 b hb).2⟩
 refine codeAny_forLoop_any (λn s'=>∃ i σ' H',Inv X pins σ' H' s'/\tn i s'.heap/\(∀ b ∈ fp,H' b=none)/\W i n σ' H') ?_ m0 ⟨0,σ,H2,I2,st2,λb hb=>(f2 b hb).1,w0⟩
 rintro n s3 ⟨i,σ3,H3,I3,st3,fr3,w3⟩
 rcases turn i n σ3 H3 w3 with ⟨stop,qn⟩ | ⟨go,N,hN,step⟩
 .refine C0 hp (thn (T.done X rfl rfl rfl hc i pins s3 σ3 H3 X.xe I3 (stat fr3) st3 stop) λr s4 hh9 => ?_)
  obtain ⟨hr,I4⟩:=hh9
  subst hr
  exact Dl ⟨σ3,H3,I4,qn⟩
 .refine C0 hp (thn (T.item X rfl rfl rfl hc i pins s3 σ3 H3 X.xe I3 (stat fr3) st3 go) λr s4 hh9 => ?_)
  obtain ⟨u,hr,h4⟩:=hh9
  subst hr
  refine C0 hp (thn h4 λ_ s5 hh9 => ?_)
  obtain ⟨x,H5,I5,r5,y5,st5,fr5⟩:=hh9
  have I5':=I5.pinned (stat fr5) (T.obj _ _ st5)
  refine C0 hp (thn (hg _ s5 σ3 H5 x u _ I5' r5 (step x H5 y5)) λ_ s6 hh9 => ?_)
  obtain ⟨σ6,H6,I6,q6⟩:=hh9
  refine C0 hp (thn (hb _ s6 σ6 H6 _ I6 q6) λf s7 q7 => ?_)
  have again:∀ {σ7:St} {H7:Hp},Inv X (pins ++ qjr fp s5.heap) σ7 H7 s7->N σ7 H7->∃ m,m < n/\∃ i σ' H',Inv X pins σ' H' s7/\tn i s7.heap/\(∀ b ∈ fp,H' b=none)/\W i m σ' H':=λ{σ7 H7} I7 n7=>by
   obtain ⟨m',hm,w7⟩:=hN σ7 H7 n7
   refine ⟨m',hm,i + 1,σ7,H7,I7.unpinned,T.keep _ _ _ st5 λb hb o e=>(I7.pin (b,o) (AD _ (AD _ (qfd hb e)))).1,λb hb => ?_,w7⟩
   obtain ⟨o,e,d⟩:=T.obj _ _ st5 b hb
   exact (I7.pin (b,o) (AD _ (AD _ (qfd hb e)))).2.1
  cases f with
  | next=>obtain ⟨σ7,H7,I7,n7⟩:=q7; exact again I7 n7
  | cont=>obtain ⟨σ7,H7,I7,n7⟩:=q7; exact again I7 n7
  | brk=>obtain ⟨σ7,H7,I7,q7⟩:=q7; exact ⟨σ7,H7,I7.unpinned,q7⟩
  | ret v=>obtain ⟨x7,σ7,H7,I7,r7,q7⟩:=q7; exact ⟨x7,σ7,H7,I7.unpinned,r7,q7⟩
end
theorem qc7 {K:Af} {a:Addr} {xs:List V} {g:TG} {tb:TS} {D:Ends} {σ:St} {H:Hp} (Pv:Nat->St->Hp->Prop) (h0:Pv 0 σ H) (hl:∀ i σ H,i <= xs.length->Pv i σ H->SqL K H a xs)
  (hs:∀ i x σ H,xs[i]?=some x->Pv i σ H->g x σ H λσ2 H2=>tb { D with nx:=Pv (i + 1),ct:=Pv (i + 1),bk:=D.nx } σ2 H2) (hd:∀ σ H,Pv xs.length σ H->D.nx σ H) :
  ∃ W:Nat->Nat->St->Hp->Prop,(∃ m,W 0 m σ H)/\∀ i m σ H,W i m σ H ->
   ((Itl K a).stop i H/\D.nx σ H) \/ ((Itl K a).go i H/\∃ N:St->Hp->Prop,(∀ σ' H',N σ' H'->∃ m',m' < m/\W (i + 1) m' σ' H')/\∀ x H',(Itl K a).yld i H x H'->g x σ H' λσ2 H2=>tb { D with nx:=N,ct:=N,bk:=D.nx } σ2 H2):=by
 refine ⟨λi m σ H=>m=xs.length - i/\i <= xs.length/\Pv i σ H,⟨xs.length,by simp,B0 _,h0⟩,?_⟩
 rintro i m σ H ⟨rfl,hi,p⟩
 have q:=hl i σ H hi p
 by_cases hlt:i < xs.length
 .refine .inr ⟨⟨xs,xs[i],q,by simp [hlt]⟩,Pv (i + 1),λσ' H' p'=>⟨xs.length - (i + 1),by lia,rfl,hlt,p'⟩,λx H' y => ?_⟩
  obtain ⟨e,y⟩:=y
  subst e
  exact hs i x σ _ (y xs q) p
 .have e:i=xs.length:=by lia
  subst e
  exact .inl ⟨⟨xs,q,Az _⟩,hd σ H p⟩
theorem qvu {K:Af} {a:Addr} {xs:List V} {g:TG} {tb:TS} {D:Ends} {σ:St} {H:Hp} (Pv:Nat->St->Hp->Prop) (h0:Pv 0 σ H) (hl:∀ i σ H,i <= xs.length->Pv i σ H->SqT K H a xs)
  (hs:∀ i x σ H,xs[i]?=some x->Pv i σ H->g x σ H λσ2 H2=>tb { D with nx:=Pv (i + 1),ct:=Pv (i + 1),bk:=D.nx } σ2 H2) (hd:∀ σ H,Pv xs.length σ H->D.nx σ H) :
  ∃ W:Nat->Nat->St->Hp->Prop,(∃ m,W 0 m σ H)/\∀ i m σ H,W i m σ H ->
   ((Itt K a).stop i H/\D.nx σ H) \/ ((Itt K a).go i H/\∃ N:St->Hp->Prop,(∀ σ' H',N σ' H'->∃ m',m' < m/\W (i + 1) m' σ' H')/\∀ x H',(Itt K a).yld i H x H'->g x σ H' λσ2 H2=>tb { D with nx:=N,ct:=N,bk:=D.nx } σ2 H2):=by
 refine ⟨λi m σ H=>m=xs.length - i/\i <= xs.length/\Pv i σ H,⟨xs.length,by simp,B0 _,h0⟩,?_⟩
 rintro i m σ H ⟨rfl,hi,p⟩
 have q:=hl i σ H hi p
 by_cases hlt:i < xs.length
 .refine .inr ⟨⟨xs,xs[i],q,by simp [hlt]⟩,Pv (i + 1),λσ' H' p'=>⟨xs.length - (i + 1),by lia,rfl,hlt,p'⟩,λx H' y => ?_⟩
  obtain ⟨e,y⟩:=y
  subst e
  exact hs i x σ _ (y xs q) p
 .have e:i=xs.length:=by lia
  subst e
  exact .inl ⟨⟨xs,q,Az _⟩,hd σ H p⟩
theorem qe4 {lo:Int} {n:Nat} {g:TG} {tb:TS} {D:Ends} {σ:St} {H:Hp} (Pv:Nat->St->Hp->Prop) (h0:Pv 0 σ H)
  (hs:∀ i σ H,i < n->Pv i σ H->g (.int (lo + i)) σ H λσ2 H2=>tb { D with nx:=Pv (i + 1),ct:=Pv (i + 1),bk:=D.nx } σ2 H2) (hd:∀ σ H,Pv n σ H->D.nx σ H) :
  ∃ W:Nat->Nat->St->Hp->Prop,(∃ m,W 0 m σ H)/\∀ i m σ H,W i m σ H ->
   ((Itr lo n).stop i H/\D.nx σ H) \/ ((Itr lo n).go i H/\∃ N:St->Hp->Prop,(∀ σ' H',N σ' H'->∃ m',m' < m/\W (i + 1) m' σ' H')/\∀ x H',(Itr lo n).yld i H x H'->g x σ H' λσ2 H2=>tb { D with nx:=N,ct:=N,bk:=D.nx } σ2 H2):=by
 refine ⟨λi m σ H=>m=n - i/\i <= n/\Pv i σ H,⟨n,by simp,B0 _,h0⟩,?_⟩
 rintro i m σ H ⟨rfl,hi,p⟩
 by_cases hlt:i < n
 .refine .inr ⟨hlt,Pv (i + 1),λσ' H' p'=>⟨n - (i + 1),by lia,rfl,hlt,p'⟩,λx H' y => ?_⟩
  obtain ⟨e,y⟩:=y
  subst e y
  exact hs i σ _ hlt p
 .have e:i=n:=by lia
  subst e
  exact .inl ⟨Az _,hd σ H p⟩
end L2
namespace L2
open PySem PySem.Spec PyProof.Rows
noncomputable abbrev R2:=V->V->Hp->VK->Prop
noncomputable def OpR (X:Cx) (f:Value->Value->Sem Value) (r:R2):Prop :=
 ∀ (pins:List (Addr × Obj)) (s:Ah) (σ:St) (H:Hp) (x y:V) (v u:Value) (Q:VK),Inv X pins σ H s->RelV x v->RelV y u->r x y H Q ->
  wpAny (model X.prog X.w) X.A (f v u) (EP X pins σ Q) X.xe s
noncomputable def qej (X:Cx) (f:Value) (r:List V->Hp->VK->Prop):Prop :=
 ∀ (pins:List (Addr × Obj)) (s:Ah) (σ:St) (H:Hp) (xs:List V) (us:List Value) (Q:VK),Inv X pins σ H s->Vals xs us->r xs H Q ->
  wpAny (model X.prog X.w) X.A (call f us) (EP X pins σ Q) X.xe s
noncomputable def tOp (r:R2) (ta tb:TE):TE:=λσ H Q=>ta σ H λx H1=>tb σ H1 λy H2=>r x y H2 Q
noncomputable def rI (C:Int->Int->Prop) (g:Int->Int->V):R2:=λx y H Q=>∃ i j,x=.int i/\y=.int j/\C i j/\Q (g i j) H
noncomputable def rI0 (g:Int->Int->V):R2:=λx y H Q=>∃ i j,x=.int i/\y=.int j/\Q (g i j) H
section
variable {X:Cx} {a b c:Expr} {ta tb tc:TE} {pos:Pos}
theorem qya (ha:PE X a ta) (hb:PE X b tb) {pins:List (Addr × Obj)} {s:Ah} {σ:St} {H:Hp} {R:V->V->Hp->Prop} (I:Inv X pins σ H s)
  (h:ta σ H λx H1=>tb σ H1 λy H2=>R x y H2) {Q:Value->Ah->Prop} {f:Value->Value->Sem Value}
  (hf:∀ v u s2 x y H2,Inv X pins σ H2 s2->RelV x v->RelV y u->R x y H2->wpAny (model X.prog X.w) X.A (f v u) Q X.xe s2) :
  wpAny (model X.prog X.w) X.A (eval a X.env) (λv s₁=>wpAny (model X.prog X.w) X.A (eval b X.env) (λu s₂=>wpAny (model X.prog X.w) X.A (f v u) Q X.xe s₂) X.xe s₁) X.xe s:=by
 refine thn (ha pins s σ H _ I h) λv s1 hh9 => ?_
 obtain ⟨x,H1,I1,r1,q1⟩:=hh9
 refine thn (hb pins s1 σ H1 _ I1 q1) λu s2 hh9 => ?_
 obtain ⟨y,H2,I2,r2,q2⟩:=hh9
 exact hf v u s2 x y H2 I2 r1 r2 q2
theorem zi {op:Operator} {r:R2} (ho:OpR X (binaryOp op) r) (ha:PE X a ta) (hb:PE X b tb):PE X (.BinOp a op b pos) (tOp r ta tb):=by
 intro pins s σ H Q I h
 exact wpAny_BinOp (qya ha hb I h λv u s2 x y H2 I2 rx ry q=>ho pins s2 σ H2 x y v u Q I2 rx ry q)
theorem opI {f:Value->Value->Sem Value} {C:Int->Int->Prop} {g:Int->Int->Int}
  (rule:∀ (i j:Int) (t u:Tok) (s:Ah) (Q:Value->Ah->Prop) (E:Value->Ah->Prop),C i j->Q (.int (g i j) s.toks) { s with toks:=s.toks + 1 }->wpAny (model X.prog X.w) X.A (f (.int i t) (.int j u)) Q E s) :
  OpR X f (rI C λi j=>.int (g i j)):=by
 intro pins s σ H x y v u Q I rx ry h
 obtain ⟨i,j,rfl,rfl,hc,q⟩:=h
 obtain ⟨t,rfl⟩:=rx
 obtain ⟨t',rfl⟩:=ry
 exact rule i j t t' s _ _ hc ⟨.int (g i j),H,I.tok _,⟨_,rfl⟩,q⟩
theorem opI0 {f:Value->Value->Sem Value} {g:Int->Int->Int}
  (rule:∀ (i j:Int) (t u:Tok) (s:Ah) (Q:Value->Ah->Prop) (E:Value->Ah->Prop),Q (.int (g i j) s.toks) { s with toks:=s.toks + 1 }->wpAny (model X.prog X.w) X.A (f (.int i t) (.int j u)) Q E s) :
  OpR X f (rI0 λi j=>.int (g i j)):=by
 intro pins s σ H x y v u Q I rx ry h
 obtain ⟨i,j,rfl,rfl,q⟩:=h
 obtain ⟨t,rfl⟩:=rx
 obtain ⟨t',rfl⟩:=ry
 exact rule i j t t' s _ _ ⟨.int (g i j),H,I.tok _,⟨_,rfl⟩,q⟩
theorem qvv {f:Value->Value->Sem Value} {g:Int->Int->Bool}
  (rule:∀ (i j:Int) (t u:Tok) (s:Ah) (Q:Value->Ah->Prop) (E:Value->Ah->Prop),Q (.bool (g i j)) s->wpAny (model X.prog X.w) X.A (f (.int i t) (.int j u)) Q E s) :
  OpR X f (rI0 λi j=>.bl (g i j)):=by
 intro pins s σ H x y v u Q I rx ry h
 obtain ⟨i,j,rfl,rfl,q⟩:=h
 obtain ⟨t,rfl⟩:=rx
 obtain ⟨t',rfl⟩:=ry
 exact rule i j t t' s _ _ ⟨.bl (g i j),H,I,rfl,q⟩
noncomputable def qvw (i j:Int):Prop:=0 < j/\j < 1073741824
noncomputable def CMul (i j:Int):Prop:=(-(2 ^ 64) < i/\i < 2 ^ 64) \/ (-(2 ^ 64) < j/\j < 2 ^ 64)
theorem CMul.ok {i j:Int} (h:CMul i j):IntMulOk i j:=by
 rcases h with ⟨h1,h2⟩ | ⟨h1,h2⟩
 .exact .of_left (intBits_le_64 h1 h2)
 .exact .of_right (intBits_le_64 h1 h2)
theorem qa1:OpR X (binaryOp .Add) (rI0 λi j=>.int (i + j)):=opI0 λ_ _ _ _ _ _ _ q=>add_int q
theorem qfs:OpR X (binaryOp .Sub) (rI0 λi j=>.int (i - j)):=opI0 λ_ _ _ _ _ _ _ q=>sub_int q
theorem qez:OpR X (binaryOp .Mult) (rI CMul λi j=>.int (i * j)):=opI λ_ _ _ _ _ _ _ hc q=>mul_int q hc.ok
theorem qbe:OpR X (binaryOp .FloorDiv) (rI qvw λi j=>.int (i / j)):=opI λi j _ _ _ _ _ hc q=>by
 have h1:(0:Int) < j:=hc.1
 have h2:j < 1073741824:=hc.2
 exact floordiv_int (by lia) (by rw [Int.fdiv_eq_ediv_of_nonneg i (by lia)]; exact q) (.inl (PyProof.noPylong_small (by lia)))
theorem qas:OpR X (binaryOp .Mod) (rI (λ_ j=>0 < j) λi j=>.int (i % j)):=opI λi j _ _ _ _ _ hc q=>by
 have h1:(0:Int) < j:=hc
 exact mod_int' (by lia) (by rw [Int.fmod_eq_emod_of_nonneg i (by lia)]; exact q)
end
noncomputable def scal:V->V->Bool
 | .non,.non=>true | .non,.int _=>true | .int _,.non=>true | .non,.bl _=>true | .bl _,.non=>true | .non,.str _=>true | .str _,.non=>true
 | .int _,.int _=>true | .bl _,.bl _=>true | .str _,.str _=>true | .byt _,.byt _=>true
 | .int _,.str _=>true | .str _,.int _=>true | .bl _,.str _=>true | .str _,.bl _=>true
 | _,_=>false
noncomputable def rEq:R2:=λx y H Q=>scal x y=true/\Q (.bl (decide (x=y))) H
noncomputable def rNe:R2:=λx y H Q=>scal x y=true/\Q (.bl (!decide (x=y))) H
theorem qql {i j:Int}:decide (V.int i=V.int j)=(i == j):=by
 rw [Cp]
 simp
theorem qtd {i j:Bool}:decide (V.bl i=V.bl j)=(i == j):=by
 rw [Cp]
 simp
theorem qqm {i j:Str}:decide (V.str i=V.str j)=(i == j):=by
 rw [Cp]
 simp
theorem qqn {i j:Array UInt8}:decide (V.byt i=V.byt j)=(i.toList == j.toList):=by
 rw [Cp]
 cases i
 cases j
 simp
section
variable {X:Cx} {a b c:Expr} {ta tb tc:TE} {pos:Pos}
theorem qa2 {pins:List (Addr × Obj)} {σ:St} {H:Hp} {s:Ah} {Q:VK} {k k':Bool} (I:Inv X pins σ H s) (q:Q (.bl k) H) (e:k=k'):EP X pins σ Q (.bool k') s:=by
 subst e
 exact ⟨.bl k,H,I,rfl,q⟩
theorem qay:OpR X (compareOp .Eq) rEq:=by
 intro pins s σ H x y v u Q I rx ry h
 obtain ⟨hs,q⟩:=h
 cases x with
 | non =>
  cases rx
  cases y with
  | non=>cases ry; exact PySem.EqNone.eq_none_none (qa2 I q (by simp))
  | bl j=>cases ry; exact PySem.EqNone.eq_none_bool (qa2 I q (by simp))
  | int j=>obtain ⟨t',rfl⟩:=ry; exact PySem.EqNone.eq_none_int (qa2 I q (by simp))
  | str j=>obtain ⟨t',rfl⟩:=ry; exact PySem.EqNone.eq_none_str (qa2 I q (by simp))
  | _=>exact absurd (show false=true from hs) AA
 | bl i =>
  cases rx
  cases y with
  | non=>cases ry; exact PySem.EqNone.eq_bool_none (qa2 I q (by simp))
  | bl j=>cases ry; exact eq_bool (qa2 I q qtd)
  | str j=>obtain ⟨t',rfl⟩:=ry; exact PySem.EqMixed.eq_bool_str (qa2 I q (by simp))
  | _=>exact absurd (show false=true from hs) AA
 | int i =>
  obtain ⟨t,rfl⟩:=rx
  cases y with
  | non=>cases ry; exact PySem.EqNone.eq_int_none (qa2 I q (by simp))
  | int j=>obtain ⟨t',rfl⟩:=ry; exact eq_int (qa2 I q qql)
  | str j=>obtain ⟨t',rfl⟩:=ry; exact PySem.EqMixed.eq_int_str (qa2 I q (by simp))
  | _=>exact absurd (show false=true from hs) AA
 | str i =>
  obtain ⟨t,rfl⟩:=rx
  cases y with
  | non=>cases ry; exact PySem.EqNone.eq_str_none (qa2 I q (by simp))
  | bl j=>cases ry; exact PySem.EqMixed.eq_str_bool (qa2 I q (by simp))
  | int j=>obtain ⟨t',rfl⟩:=ry; exact PySem.EqMixed.eq_str_int (qa2 I q (by simp))
  | str j=>obtain ⟨t',rfl⟩:=ry; exact eq_str (qa2 I q qqm)
  | _=>exact absurd (show false=true from hs) AA
 | byt i =>
  obtain ⟨t,rfl⟩:=rx
  cases y with
  | byt j=>obtain ⟨t',rfl⟩:=ry; exact PySem.W.eq_bytes (qa2 I q qqn)
  | _=>exact absurd (show false=true from hs) AA
 | _=>cases y <;> exact absurd (show false=true from hs) AA
theorem qte:OpR X (compareOp .NotEq) rNe:=by
 intro pins s σ H x y v u Q I rx ry h
 obtain ⟨hs,q⟩:=h
 cases x with
 | non =>
  cases rx
  cases y with
  | non=>cases ry; exact PySem.EqNone.ne_none_none (qa2 I q (by simp))
  | bl j=>cases ry; exact PySem.EqNone.ne_none_bool (qa2 I q (by simp))
  | int j=>obtain ⟨t',rfl⟩:=ry; exact PySem.EqNone.ne_none_int (qa2 I q (by simp))
  | str j=>obtain ⟨t',rfl⟩:=ry; exact PySem.EqNone.ne_none_str (qa2 I q (by simp))
  | _=>exact absurd (show false=true from hs) AA
 | bl i =>
  cases rx
  cases y with
  | non=>cases ry; exact PySem.EqNone.ne_bool_none (qa2 I q (by simp))
  | bl j=>cases ry; exact ne_bool (qa2 I q (congrArg not qtd))
  | str j=>obtain ⟨t',rfl⟩:=ry; exact PySem.EqMixed.ne_bool_str (qa2 I q (by simp))
  | _=>exact absurd (show false=true from hs) AA
 | int i =>
  obtain ⟨t,rfl⟩:=rx
  cases y with
  | non=>cases ry; exact PySem.EqNone.ne_int_none (qa2 I q (by simp))
  | int j=>obtain ⟨t',rfl⟩:=ry; exact ne_int (qa2 I q (congrArg not qql))
  | str j=>obtain ⟨t',rfl⟩:=ry; exact PySem.EqMixed.ne_int_str (qa2 I q (by simp))
  | _=>exact absurd (show false=true from hs) AA
 | str i =>
  obtain ⟨t,rfl⟩:=rx
  cases y with
  | non=>cases ry; exact PySem.EqNone.ne_str_none (qa2 I q (by simp))
  | bl j=>cases ry; exact PySem.EqMixed.ne_str_bool (qa2 I q (by simp))
  | int j=>obtain ⟨t',rfl⟩:=ry; exact PySem.EqMixed.ne_str_int (qa2 I q (by simp))
  | str j=>obtain ⟨t',rfl⟩:=ry; exact ne_str (qa2 I q (congrArg not qqm))
  | _=>exact absurd (show false=true from hs) AA
 | byt i =>
  obtain ⟨t,rfl⟩:=rx
  cases y with
  | byt j=>obtain ⟨t',rfl⟩:=ry; exact PySem.W.ne_bytes (qa2 I q (congrArg not qqn))
  | _=>exact absurd (show false=true from hs) AA
 | _=>cases y <;> exact absurd (show false=true from hs) AA
theorem qqo:OpR X (compareOp .Lt) (rI0 λi j=>.bl (decide (i < j))):=qvv λ_ _ _ _ _ _ _ q=>lt_int q
theorem qll:OpR X (compareOp .LtE) (rI0 λi j=>.bl (decide (i <= j))):=qvv λ_ _ _ _ _ _ _ q=>le_int q
theorem op_gt:OpR X (compareOp .Gt) (rI0 λi j=>.bl (decide (j < i))):=qvv λ_ _ _ _ _ _ _ q=>gt_int q
theorem op_ge:OpR X (compareOp .GtE) (rI0 λi j=>.bl (decide (j <= i))):=qvv λ_ _ _ _ _ _ _ q=>ge_int q
theorem qyb:OpR X (compareOp .Is) (λx y H Q=>y=.non/\Q (.bl (decide (x=.non))) H):=by
 intro pins s σ H x y v u Q I rx ry h
 obtain ⟨rfl,q⟩:=h
 cases ry
 refine is_none_gen (qa2 I q ?_)
 cases x <;> first
  | (cases rx; rfl)
  | (obtain ⟨t,rfl⟩:=rx; rfl)
theorem qdd:OpR X (compareOp .IsNot) (λx y H Q=>y=.non/\Q (.bl (!decide (x=.non))) H):=by
 intro pins s σ H x y v u Q I rx ry h
 obtain ⟨rfl,q⟩:=h
 cases ry
 refine isnot_none_gen (qa2 I q ?_)
 cases x <;> first
  | (cases rx; rfl)
  | (obtain ⟨t,rfl⟩:=rx; rfl)
theorem qad (b:Expr) {op:CmpOp} (h:op ≠ .In:=by decide) (h2:op ≠ .NotIn:=by decide):behindInMarks op b=false:=by
 have e1:(op == CmpOp.In)=false:=by cases op <;> first | rfl | exact absurd rfl h
 have e2:(op == CmpOp.NotIn)=false:=by cases op <;> first | rfl | exact absurd rfl h2
 cases b <;> simp [behindInMarks,e1,e2]
theorem qdu {op:CmpOp} {r:R2} (ho:OpR X (compareOp op) r) (ha:PE X a ta) (hb:PE X b tb) (hm:behindInMarks op b=false):PE X (.Compare a [op] [b] pos) (tOp r ta tb):=by
 intro pins s σ H Q I h
 exact wpAny_Compare1 (qya ha hb I h λv u s2 x y H2 I2 rx ry q=>ho pins s2 σ H2 x y v u Q I2 rx ry q) hm
noncomputable def qxq (t:TE):TT:=λσ H Q=>t σ H λx H'=>∃ k,x=.bl k/\Q k H'
theorem zg {op:CmpOp} {r:R2} (ho:OpR X (compareOp op) r) (ha:PE X a ta) (hb:PE X b tb) (hm:behindInMarks op b=false):PT X (.Compare a [op] [b] pos) (qxq (tOp r ta tb)):=by
 intro pins s σ H Q I h
 refine wpAny_isTrue_Compare1 (thn (ha pins s σ H _ I h) λv s1 ⟨x,H1,I1,r1,q1⟩=>thn (hb pins s1 σ H1 _ I1 q1) λu s2 ⟨y,H2,I2,r2,q2⟩ =>
  thn (ho pins s2 σ H2 x y v u _ I2 r1 r2 q2) λc s3 ⟨z,H3,I3,r3,k,e,q3⟩ => ?_) hm
 subst e
 cases r3
 exact B9 ⟨H3,I3,q3⟩
noncomputable def qtf (r r':R2) (ta tb tc:TE):TE:=λσ H Q=>ta σ H λx H1=>tb σ H1 λy H2=>r x y H2 λz H3=>∃ k,z=.bl k /\
 (if k=true then tc σ H3 λw' H4=>r' y w' H4 Q else Q (.bl false) H3)
theorem qnk {op op':CmpOp} {r r':R2} (ho:OpR X (compareOp op) r) (ho':OpR X (compareOp op') r') (ha:PE X a ta) (hb:PE X b tb) (hc:PE X c tc)
  (hm:lastMarks [op,op'] [b,c]=false:=by with_unfolding_all rfl):PE X (.Compare a [op,op'] [b,c] pos) (qtf r r' ta tb tc):=by
 intro pins s σ H Q I h
 refine Compare_chain (thn (ha pins s σ H _ I h) λv s1 ⟨x,H1,I1,r1,q1⟩=>chain_link (thn (hb pins s1 σ H1 _ I1 q1) λu s2 ⟨y,H2,I2,r2,q2⟩ =>
  thn (ho pins s2 σ H2 x y v u _ I2 r1 r2 q2) λd s3 ⟨z,H3,I3,r3,k,e,q3⟩ => ?_)) hm
 subst e
 cases r3
 refine B9 ?_
 cases k with
 | false=>exact ite_ff ⟨.bl false,H3,I3,rfl,q3⟩
 | true=>exact ite_tt (chain_last (thn (hc pins s3 σ H3 _ I3 q3) λw' s4 ⟨z',H4,I4,r4,q4⟩=>ho' pins s4 σ H4 y z' u w' Q I4 r2 r4 q4))
theorem qjs {op op':CmpOp} {r r':R2} (ho:OpR X (compareOp op) r) (ho':OpR X (compareOp op') r') (ha:PE X a ta) (hb:PE X b tb) (hc:PE X c tc)
  (hm:lastMarks [op,op'] [b,c]=false:=by with_unfolding_all rfl):PT X (.Compare a [op,op'] [b,c] pos) (qxq (qtf r r' ta tb tc)):=by
 intro pins s σ H Q I h
 refine isTrue_chain (thn (ha pins s σ H _ I h) λv s1 ⟨x,H1,I1,r1,q1⟩=>test_link (thn (hb pins s1 σ H1 _ I1 q1) λu s2 ⟨y,H2,I2,r2,q2⟩ =>
  thn (ho pins s2 σ H2 x y v u _ I2 r1 r2 q2) λd s3 ⟨z,H3,I3,r3,k,e,q3⟩ => ?_)) hm
 subst e
 cases r3
 refine B9 ?_
 cases k with
 | false =>
  obtain ⟨k',e',q'⟩:=q3
  cases e'
  exact ite_ff ⟨H3,I3,q'⟩
 | true =>
  refine ite_tt (test_last (thn (hc pins s3 σ H3 _ I3 q3) λw' s4 ⟨z',H4,I4,r4,q4⟩=>thn (ho' pins s4 σ H4 y z' u w' _ I4 r2 r4 q4) λd' s5 hh9 => ?_))
  obtain ⟨z2,H5,I5,r5,k2,e2,q5⟩:=hh9
  subst e2
  cases r5
  exact B9 ⟨H5,I5,q5⟩
theorem qjt:(Ax:Nat) < 2 ^ 63:=by rw [Bi]; decide
theorem qaa:OpR X (binaryOp .Add) (λx y H Q=>∃ i j,x=.str i/\y=.str j/\i.length + j.length <= Ax/\Q (.str (i ++ j)) H):=by
 intro pins s σ H x y v u Q I rx ry h
 obtain ⟨i,j,rfl,rfl,hz,q⟩:=h
 obtain ⟨t,rfl⟩:=rx
 obtain ⟨t',rfl⟩:=ry
 exact add_str (λt' tk=>⟨.str (i ++ j),H,I.tok _,⟨_,rfl⟩,q⟩) hz
theorem qfp {x:V} {us:List Value} (r:Vals [x] us):∃ u,us=[u]/\RelV x u:=by
 cases r with
 | cons r1 r2=>cases r2; exact ⟨_,rfl,r1⟩
theorem qlm:qej X (.type "int") (λxs H Q=>(∃ i,xs=[.int i]/\Q (.int i) H) \/ ∃ k,xs=[.bl k]/\Q (.int (if k then 1 else 0)) H):=by
 intro pins s σ H xs us Q I r h
 rcases h with ⟨i,rfl,q⟩ | ⟨k,rfl,q⟩
 .obtain ⟨u,rfl,t,rfl⟩:=qfp r
  exact call_int_int ⟨.int i,H,I,⟨_,rfl⟩,q⟩
 .obtain ⟨u,rfl,r1⟩:=qfp r
  cases r1
  exact call_int_bool ⟨.int (if k then 1 else 0),H,I.tok _,⟨_,rfl⟩,q⟩
theorem qd5:qej X (.type "str") (λxs H Q=>∃ i,xs=[.int i]/\i.natAbs.log2 < 1920/\Q (.str (toString i)) H):=by
 intro pins s σ H xs us Q I r h
 obtain ⟨i,rfl,hz,q⟩:=h
 obtain ⟨u,rfl,t,rfl⟩:=qfp r
 exact PySem.P.str_of_int hz ⟨.str _,H,I.tok _,⟨_,rfl⟩,q⟩
noncomputable def LenV (K:Af) (x:V) (H:Hp) (n:Nat):Prop :=
 match x with
 | .str y=>y.length <= Ax/\n=y.length
 | .byt y=>y.size <= Ax/\n=y.size
 | .ref p=>(∃ xs,SqL K H p xs/\n=xs.length) \/ ∃ xs,SqT K H p xs/\n=xs.length
 | _=>False
theorem qaq:qej X (.builtin "len") (λxs H Q=>∃ x n,xs=[x]/\LenV X.K x H n/\Q (.int n) H):=by
 intro pins s σ H xs us Q I r h
 obtain ⟨x,n,rfl,e,q⟩:=h
 obtain ⟨u,rfl,rx⟩:=qfp r
 have hl:=qjt
 have hs:Ax=16777216:=Bi
 cases x with
 | str y =>
  obtain ⟨t,rfl⟩:=rx
  obtain ⟨hy,e'⟩:y.length <= Ax/\n=y.length:=e
  subst e'
  exact len_str (by lia) ⟨.int _,H,I.tok _,⟨_,rfl⟩,q⟩
 | byt y =>
  obtain ⟨t,rfl⟩:=rx
  obtain ⟨hy,e'⟩:y.size <= Ax/\n=y.size:=e
  subst e'
  exact PySem.W.len_bytes (by lia) ⟨.int _,H,I.tok _,⟨_,rfl⟩,q⟩
 | ref p =>
  cases rx
  have e':(∃ xs,SqL X.K H p xs/\n=xs.length) \/ ∃ xs,SqT X.K H p xs/\n=xs.length:=e
  rcases e' with ⟨xs,hx,e'⟩ | ⟨xs,hx,e'⟩
  .subst e'
   obtain ⟨its,r',pl,hz⟩:=I.list hx
   have hlen:=r'.length
   exact Calls.call_len_list pl.isList (by simp only [Av]; lia) ⟨.int xs.length,H,I.tok _,⟨_,by simp only [Av]; rw [hlen]⟩,q⟩
  .subst e'
   obtain ⟨its,r',pl,hz⟩:=I.tuple hx
   have hlen:=r'.length
   exact len_tuple pl (by simp only [Av]; lia) ⟨.int xs.length,H,I.tok _,⟨_,by simp only [Av]; rw [hlen]⟩,q⟩
 | _=>exact (show False from e).elim
end
end L2
namespace L2
open PySem PySem.Spec PyProof.Rows
structure ObjM (h:Heap) (x dx C:Addr) (mA:Str->Option Value):Prop where
 obj:h.get? x=some (Co C dx)
 ns:h.Ns1 dx mA
 ne:dx ≠ x
theorem qln {h:Heap} {dx:Addr} {mA:Str->Option Value} (n:h.Ns1 dx mA):∃ od,h.get? dx=some od/\∀ name,Dr name od=some (mA name):=by
 obtain ⟨o,es,ep,ho,hd,hk,_,hm⟩:=n
 refine ⟨o,ho,λname => ?_⟩
 have e:=hm name
 unfold nsFind findBy at e
 rw [<- Array.find?_toList] at e
 unfold Dr
 rw [hd]
 dsimp only
 split
 .rename_i y q
  rw [q] at e
  exact congrArg some e
 .rename_i q
  rw [q] at e
  have a:es.toList.any (·.refKey)=false:=by
   rw [List.any_eq_false]
   intro y hy
   obtain ⟨z,t,hkey⟩:=hk y (Array.mem_toList_iff.mp hy)
   simp [DictEntry.refKey,hkey]
  have a':¬ es.toList.any (·.refKey)=true:=by rw [a]; exact AA
  rw [if_neg a']
  exact congrArg some e
theorem ObjM.look {h:Heap} {x dx C:Addr} {mA:Str->Option Value} (I:ObjM h x dx C mA):∃ od,PySem.W.InstAt h x (Co C dx) C (some od)/\∀ name,Dr name od=some (mA name) :=
 let ⟨od,ho,hl⟩:=qln I.ns
 ⟨od,⟨I.obj,rfl,rfl,ho⟩,hl⟩
section
variable {prog:AM} {w:World} {A:AU} {E:Value->Ah->Prop} {s:Ah} {K:Af} {x dx C f:Addr} {mA:Str->Option Value} {name:Str} {v:Value}
theorem qvx {expr:Bool} {Q:Value->Ah->Prop} (X:K.In s.heap) (I:ObjM s.heap x dx C mA) (hg:Dc K C name=true) (hh:C1 K C=true)
  (ha:AK K (.ref C) name=some none) (hv:mA name=some v) (hv':PySem.W.handedIn v=true) (h:Q v { s with toks:=s.toks + 1 }) :
  wpAny (model prog w) A (getAttr (.ref x) name expr) Q E s:=by
 obtain ⟨od,J,hl⟩:=I.look
 exact PySem.W.get_value X J (DQ hg).1 (PySem.W.findObj_own hh ha rfl (by rw [hl,hv])) hv' h
theorem qtg {pl:Sem Bool} {Q:Value × List Value->Ah->Prop} (X:K.In s.heap) (I:ObjM s.heap x dx C mA) (hg:Dc K C name=true)
  (hf:AK K (.ref C) name=some (some (.ref f))) (ht:DX K (.ref f)=true) (hv:mA name=none) (h:Q (.ref f,[.ref x]) s) :
  wpAny (model prog w) A (getMethod (.ref x) name pl) Q E s:=by
 obtain ⟨od,J,hl⟩:=I.look
 exact PySem.W.method_fn X J (DQ hg).1 (DQ hg).2 hf (beq_iff_eq.mp ht) (by show (Dr name od).map (·.isSome)=some false; rw [hl,hv]; rfl) h
theorem qvy {ns:List Str} {Q:Unit->Ah->Prop} (X:K.In s.heap) (I:ObjM s.heap x dx C mA)
  (hs:AK K (.ref C) "__setattr__" = some (some (.builtin "object.__setattr__"))) (hp:Ef K C=true) (ht:PySem.W.takerIn K C name=some none) (hh:C1 K C=true)
  (hw:Db mA ns) (hsz:ns.length <= Ax)
  (h:∀ h',ObjM h' x dx C (λy=>if y=name then some v else mA y)->Cl dx s.heap h'->Q () { s with heap:=h',toks:=s.toks + 2 }) :
  wpAny (model prog w) A (setAttr (.ref x) name v) Q E s:=by
 obtain ⟨od,J,hl⟩:=I.look
 refine PySem.W.set_plain X J hs (PySem.W.osa_open (s:={ s with toks:=s.toks + 1 }) (r:=none) X J hp ht λb => ?_)
 obtain ⟨cd,hc,hd'⟩:=PySem.W.any_some hh
 have hx:s.heap.get? x=some ⟨.ref C,some dx,.plain,#[]⟩:=I.obj
 refine Ad (Ay (Ad (Ad (Ea hx (Ad (BA.here (s:={ s with toks:=s.toks + 1 }) (PySem.W.looks_clsIn X hc) ?_))))))
 rw [hd']
 refine Ay (a:=some dx) (Ad (Ay (Ad ?_)))
 refine wpAny_nsSet1 (s:={ s with toks:=s.toks + 1 }) I.ns λh' hn2 hs2 => ?_
 obtain ⟨oD,esD,epD,hoD,hdD,hcD⟩:=hn2.count (Db.cons name v hw)
 refine Ad (wpAny_lookBehind hoD (by rw [hdD]; exact pastItsLine_dict (A1 hcD (by rw [An]; lia))) ?_)
 exact Ay (h _ ⟨(hs2.2 _ (AX I.ne)).trans I.obj,hn2,I.ne⟩ hs2)
theorem qnl {R:Result->Ah->Prop} {vs:List Value} {kw:List (Str × Value)} (X:K.In s.heap) (hm:PySem.W.makesIn K C=true)
  (hi:AK K (.ref C) "__init__" = some (some (.ref f))) (hf:Cc K (.ref f)=some (.type "function"))
  (h:codeAny (model prog w) (A.under (.builtin "type.__call__" ⟨.ref C :: vs,kw⟩)) (.call (.ref f) ⟨.ref (s.heap.objs.size + 1) :: vs,kw⟩) (PySem.W.InitBack (s.heap.objs.size + 1) R)
   { s with heap:=(s.heap.push BP).push (Co C s.heap.objs.size) }) :
  codeAny (model prog w) A (.call (.ref C) ⟨vs,kw⟩) R s:=by
 obtain ⟨hh,g,d,t,os⟩:=s
 exact PySem.W.make_core (PySem.W.makes_of X hm) (PySem.W.looks_findIn X hi) (λself=>PySem.W.bind_fn X self hf) (.inl rfl) h
end
noncomputable def qcs (f:Str) (v:V):List (Str × V)->List (Str × V)
 | []=>[(f,v)]
 | (g,x) :: r=>if g=f then (g,v) :: r else (g,x) :: qcs f v r
theorem qft (f g:Str) (v:V):∀ fs:List (Str × V),(qcs f v fs).lookup g=if g=f then some v else fs.lookup g
 | []=>by
  show C2 g [(f,v)]=_
  by_cases h:g=f
  .have hb:(g == f)=true:=beq_iff_eq.mpr h
   simp only [C2,hb,if_pos h]
  .have hb:(g == f)=false:=beq_eq_false_iff_ne.mpr h
   simp only [C2,hb,if_neg h]
 | (k,x) :: r=>by
  have ih:=qft f g v r
  rw [show qcs f v ((k,x) :: r)=(if k=f then (k,v) :: r else (k,x) :: qcs f v r) from rfl]
  by_cases hk:k=f
  .rw [if_pos hk]
   by_cases h:g=k
   .have hb:(g == k)=true:=beq_iff_eq.mpr h
    simp only [C2,hb,if_pos (h.trans hk)]
   .have hb:(g == k)=false:=beq_eq_false_iff_ne.mpr h
    simp only [C2,hb,if_neg (λe:g=f=>h (e.trans hk.symm))]
  .rw [if_neg hk]
   by_cases h:g=k
   .have hb:(g == k)=true:=beq_iff_eq.mpr h
    simp only [C2,hb,if_neg (λe:g=f=>hk (h.symm.trans e))]
   .have hb:(g == k)=false:=beq_eq_false_iff_ne.mpr h
    simp only [C2,hb]
    exact ih
theorem qe5 (f:Str) (v:V):∀ fs:List (Str × V),f ∈ (qcs f v fs).map (·.1)/\∀ g,g ∈ fs.map (·.1)->g ∈ (qcs f v fs).map (·.1)
 | []=>⟨by simp [qcs],λg h=>by simp at h⟩
 | (k,x) :: r=>by
  obtain ⟨i1,i2⟩:=qe5 f v r
  rw [show qcs f v ((k,x) :: r)=(if k=f then (k,v) :: r else (k,x) :: qcs f v r) from rfl]
  by_cases hk:k=f
  .rw [if_pos hk]
   subst hk
   exact ⟨by simp,λg h=>by simpa using h⟩
  .rw [if_neg hk]
   refine ⟨?_,λg h => ?_⟩
   .rw [A4]
    exact Au _ i1
   .rw [A4] at h |-
    rcases Ao.mp h with e | e
    .exact Ao.mpr (.inl e)
    .exact Au _ (i2 g e)
theorem qiy (f:Str) (v:V):∀ fs:List (Str × V),(qcs f v fs).length <= fs.length + 1
 | []=>by simp [qcs]
 | (k,x) :: r=>by
  have ih:=qiy f v r
  rw [show qcs f v ((k,x) :: r)=(if k=f then (k,v) :: r else (k,x) :: qcs f v r) from rfl]
  by_cases hk:k=f
  .rw [if_pos hk,An,An]; lia
  .rw [if_neg hk,An,An]; lia
theorem RelO.some_of {v:V} {o:Option Value} (r:RelO (some v) o):∃ u,o=some u/\RelV v u:=by
 cases o with
 | none=>exact (show False from r).elim
 | some u=>exact ⟨u,rfl,r⟩
theorem RelO.none_of {o:Option Value} (r:RelO none o):o=none:=by
 cases o with
 | none=>rfl
 | some u=>exact (show False from r).elim
theorem qlo {v:V} {u:Value} (r:RelV v u):PySem.W.handedIn u=true:=by
 cases v with
 | non=>cases (show u=BF from r); rfl
 | bl b=>cases (show u=DZ b from r); rfl
 | int i=>obtain ⟨t,e⟩:=(show ∃ t,u=Value.int i t from r); cases e; rfl
 | str x=>obtain ⟨t,e⟩:=(show ∃ t,u=Value.str x t from r); cases e; rfl
 | byt b=>obtain ⟨t,e⟩:=(show ∃ t,u=Value.bytes b t from r); cases e; rfl
 | flt b=>obtain ⟨t,e⟩:=(show ∃ t,u=Value.float b t from r); cases e; rfl
 | ref a=>cases (show u=Al a from r); rfl
 | ty n=>cases (show u=BO n from r); rfl
section
variable {P:AM} {w:World} {H H':Hp} {h h':Heap} {a C dx:Addr} {fs fs':List (Str × V)}
theorem qjh (hok:HOk P w H h) (e:H a=some (.ins C dx fs)):∃ mA,ObjM h a dx C mA/\(∀ f,RelO (fs.lookup f) (mA f))/\Db mA (fs.map (·.1))/\fs.length <= 1000/\H dx=some (.own a):=by
 obtain ⟨d,z,ne,ob,mA,n,r,q⟩:=(show ObjOk P w H h a (.ins C dx fs) from hok a _ e)
 exact ⟨mA,⟨ob,n,ne⟩,r,q,z,d⟩
end
structure Cls (K:Af) (C:Addr):Prop where
 pg:Dc K C Str.empty=true
 hd:C1 K C=true
 po:Ef K C=true
 sa:AK K (.ref C) "__setattr__" = some (some (.builtin "object.__setattr__"))
theorem Cls.get {K:Af} {C:Addr} (c:Cls K C) (f:Str):Dc K C f=true:=c.pg
noncomputable def NoAttr (K:Af) (C:Addr) (f:Str):Prop:=AK K (.ref C) f=some none
theorem NoAttr.taker {K:Af} {C:Addr} {f:Str} (n:NoAttr K C f):PySem.W.takerIn K C f=some none:=by
 unfold PySem.W.takerIn
 rw [show AK K (.ref C) f=some none from n]
 rfl
structure Meth (K:Af) (C:Addr) (m:Str) (f:Addr):Prop where
 at_:AK K (.ref C) m=some (some (.ref f))
 fn:DX K (.ref f)=true
 kp:Bg K (.ref f)=true
section
variable {X:Cx} {pins:List (Addr × Obj)} {σ:St} {H:Hp} {s:Ah} {a C dx:Addr} {fs:List (Str × V)} {f:Str} {v:V} {A:AU} {E:Value->Ah->Prop}
theorem qo2 {b:Bool} {Q:Value->Ah->Prop} (I:Inv X pins σ H s) (e:H a=some (.ins C dx fs)) (c:Cls X.K C) (n:NoAttr X.K C f) (l:fs.lookup f=some v)
  (h:∀ u s',Inv X pins σ H s'->RelV v u->Q u s'):wpAny (model X.prog X.w) A (getAttr (.ref a) f b) Q E s:=by
 obtain ⟨mA,O,r,_,_,_⟩:=qjh I.hok e
 obtain ⟨u,hu,ru⟩:=RelO.some_of (v:=v) (o:=mA f) (by rw [<- l]; exact r f)
 exact qvx I.kIn O (c.get f) c.hd n hu (qlo ru) (h u _ (I.tok _) ru)
theorem qo3 {m:Str} {g:Addr} {pl:Sem Bool} {Q:Value × List Value->Ah->Prop} (I:Inv X pins σ H s) (e:H a=some (.ins C dx fs)) (c:Cls X.K C) (k:Meth X.K C m g) (l:fs.lookup m=none)
  (h:Q (.ref g,[.ref a]) s):wpAny (model X.prog X.w) A (getMethod (.ref a) m pl) Q E s:=by
 obtain ⟨mA,O,r,_,_,_⟩:=qjh I.hok e
 have hn:mA m=none:=RelO.none_of (by rw [<- l]; exact r m)
 exact qtg I.kIn O (c.get m) k.at_ k.fn hn h
theorem qo4 {y:V} {u:Value} {Q:Unit->Ah->Prop} (I:Inv X pins σ H s) (e:H a=some (.ins C dx fs)) (c:Cls X.K C) (n:NoAttr X.K C f) (hl:fs.length < 1000) (ry:RelV y u)
  (h:∀ s',Inv X pins σ (upd H a (.ins C dx (qcs f y fs))) s'->Q () s'):wpAny (model X.prog X.w) A (setAttr (.ref a) f u) Q E s:=by
 obtain ⟨mA,O,r,wi,_,ho⟩:=qjh I.hok e
 have hz:(fs.map (·.1)).length <= Ax:=by rw [Ab,Bi]; lia
 refine qvy I.kIn O c.sa c.po n.taker c.hd wi hz λh' O' sb=>h _ ?_
 have hd:∃ o,h'.get? dx=some o:=let ⟨o,_,_,e',_⟩:=O'.ns; ⟨o,e'⟩
 refine I.write (x:=a) (e:=dx) (by rw [e]; exact C4) (.inr ho) (λb q hb z=>(sb.2 b hb).trans z) hd ?_
 refine ⟨by rw [zf O.ne]; exact ho,?_,O.ne,O'.obj,_,O'.ns,λg => ?_,λg hg => ?_⟩
 .have:=qiy f y fs; lia
 .show RelO ((qcs f y fs).lookup g) (if g=f then some u else mA g)
  rw [qft]
  by_cases q:g=f
  .rw [if_pos q,if_pos q]; exact ry
  .rw [if_neg q,if_neg q]; exact r g
 .by_cases q:g=f
  .rw [q]; exact (qe5 f y fs).1
  .refine (qe5 f y fs).2 g (wi g λz=>hg ?_)
   show (if g=f then some u else mA g)=none
   rw [if_neg q]; exact z
theorem Inv.made (I:Inv X pins σ H s):Inv X pins σ (upd (upd H s.heap.objs.size (.own (s.heap.objs.size + 1))) (s.heap.objs.size + 1) (.ins C s.heap.objs.size []))
  { s with heap:=(s.heap.push BP).push (Co C s.heap.objs.size) }:=by
 have e1:(s.heap.push BP).get? s.heap.objs.size=some BP:=A6 s.heap rfl
 have e2:((s.heap.push BP).push (Co C s.heap.objs.size)).get? (s.heap.objs.size + 1)=some (Co C s.heap.objs.size):=by
  have:=A6 (s.heap.push BP) (o:=Co C s.heap.objs.size) rfl
  rwa [Cn] at this
 have e3:(s.heap.push BP).Ns s.heap.objs.size (λ_=>none):=⟨BP,#[],_,e1,rfl,(λe he=>absurd he (by simp)),λ_=>rfl⟩
 have I1:=I.laid (a:=s.heap.objs.size) (o:=.own (s.heap.objs.size + 1)) (h':=s.heap.push BP) (t':=s.toks) (λb u q=>Am _ q) (Az _) ⟨_,e1⟩
 refine I1.laid (a:=s.heap.objs.size + 1) (o:=.ins C s.heap.objs.size []) (t':=s.toks) (λb u q=>Am _ q) (BS (Cn _ _)) ?_
 have ne:s.heap.objs.size ≠ s.heap.objs.size + 1:=AJ (CA _)
 refine ⟨by rw [zf ne,zb],B0 _,ne,e2,λ_=>none,(Heap.Ns1.of_empty e3).at λo q=>Am _ q,λ_=>C4,λy hy=>absurd rfl hy⟩
theorem qqp {prog:AM} {w:World} {env:Env} {e:Expr} {f:Str} {pos:Pos} {s:Ah} {Q:Value->Ah->Prop} (hb:attributeBase e f env (eval e env)=eval e env)
  (h:wpAny (model prog w) A (eval e env) (λo s₁=>wpAny (model prog w) A (getAttr o f true) Q E s₁) E s):wpAny (model prog w) A (eval (.Attribute e f pos) env) Q E s :=
 Attribute_any_ h (by rw [arm_eval_Attribute,hb])
end
noncomputable def tFld (K:Af) (ta:TE) (f:Str):TE:=λσ H Q=>ta σ H λx H1=>∃ a C dx fs v,x=.ref a/\H1 a=some (.ins C dx fs)/\Cls K C/\NoAttr K C f/\fs.lookup f=some v/\Q v H1
noncomputable def sFld (K:Af) (ta tv:TE) (f:Str):TS:=λD σ H=>tv σ H λy H1=>ta σ H1 λx H2=>∃ a C dx fs,x=.ref a/\H2 a=some (.ins C dx fs)/\Cls K C/\NoAttr K C f/\fs.length < 1000 /\
 D.nx σ (upd H2 a (.ins C dx (qcs f y fs)))
section
variable {X:Cx} {o e value:Expr} {f:Str} {pos pos' tpos:Pos} {ta tv:TE}
theorem qba (he:PE X e ta) (hb:attributeBase e f X.env (eval e X.env)=eval e X.env):PE X (.Attribute e f pos) (tFld X.K ta f):=by
 intro pins s σ H Q I h
 refine qqp hb (thn (he pins s σ H _ I h) λu s1 hh9 => ?_)
 obtain ⟨x,H1,I1,rx,a,C,dx,fs,v,ex,ea,c,n,l,q⟩:=hh9
 subst ex
 obtain rfl:u=Al a:=rx
 exact qo2 I1 ea c n l λu' s2 I2 ru=>⟨v,H1,I2,ru,q⟩
theorem qda (ha:PE X o ta) (hv:PE X value tv) (hs:swapsWith value (some (.Attribute o f pos')) pos.line X.env=pure false):PS X (.Assign [.Attribute o f pos'] value pos) (sFld X.K ta tv f):=by
 intro pins s σ H D I h
 refine D3 (thn (hv pins s σ H _ I h) λu s1 ⟨y,H1,I1,ry,q⟩=>thn (ha pins s1 σ H1 _ I1 q) λov s2 hh9 => ?_) hs
 obtain ⟨x,H2,I2,rx,a,C,dx,fs,ex,ea,c,n,l,q2⟩:=hh9
 subst ex
 obtain rfl:ov=Al a:=rx
 exact qo4 I2 ea c n l ry λs3 I3=>⟨σ,_,I3,q2⟩
end
section
variable {X:Cx} {pins:List (Addr × Obj)} {σ:St} {H:Hp} {s:Ah} {A:AU} {E:Value->Ah->Prop} {Q:Value->Ah->Prop} {c:Value} {b:Bool}
inductive TyOf (K:Af) (H:Hp):V->Value->Prop where
 | non:TyOf K H .non (.type "NoneType")
 | bl (x:Bool):TyOf K H (.bl x) (.type "bool")
 | int (i:Int):TyOf K H (.int i) (.type "int")
 | str (x:Str):TyOf K H (.str x) (.type "str")
 | flt (x:UInt64):TyOf K H (.flt x) (.type "float")
 | lst {a:Addr} {xs:List V} (e:H a=some (.lst xs)):TyOf K H (.ref a) (.type "list")
 | frz {a:Addr} {o:Obj} {xs:List V} (e:H a=some (.frz o (.lst xs))):TyOf K H (.ref a) (.type "list")
 | tup {a:Addr} {xs:List V} (e:H a=some (.tup xs)):TyOf K H (.ref a) (.type "tuple")
 | dK {a:Addr} {kvs:List (Key × V)} (e:H a=some (.dK kvs)):TyOf K H (.ref a) (.type "dict")
 | dT {a:Addr} {kvs:List (List Key × V)} (e:H a=some (.dT kvs)):TyOf K H (.ref a) (.type "dict")
 | ins {a C dx:Addr} {fs:List (Str × V)} (e:H a=some (.ins C dx fs)) (cl:Cls K C) (ha:AK K (.ref C) "__class__" = some (some (.builtin "object.__class__")))
   (hn:Dt K (.builtin "object.__class__") "__get__" = some (some (.builtin "getset_descriptor.__get__"))) (htk:PySem.W.takesIn K (.builtin "object.__class__")=some true)
   (hm:DE K C (.type "object")=some true):TyOf K H (.ref a) (.ref C)
theorem qru {x:V} {u t:Value} (I:Inv X pins σ H s) (rx:RelV x u) (ty:TyOf X.K H x t) (e:B6 X.K t c=some b) (h:∀ tk,Q (.bool b) { s with toks:=tk }) :
  wpAny (model X.prog X.w) A (call (.builtin "isinstance") [u,c]) Q E s:=by
 cases ty with
 | non=>cases (show u=BF from rx); exact BH PySem.W.kitx_none I.kIn C4 e (λz=>nomatch z) h
 | bl y=>cases (show u=DZ y from rx); exact BH PySem.W.kitx_bool I.kIn C4 e (λz=>nomatch z) h
 | int i=>obtain ⟨t,q⟩:=(show ∃ t,u=Value.int i t from rx); cases q; exact BH PySem.W.kitx_int I.kIn C4 e (λz=>nomatch z) h
 | str y=>obtain ⟨t,q⟩:=(show ∃ t,u=Value.str y t from rx); cases q; exact BH PySem.W.kitx_str I.kIn C4 e (λz=>nomatch z) h
 | flt y=>obtain ⟨t,q⟩:=(show ∃ t,u=Value.float y t from rx); cases q; exact BH PySem.W.kitx_float I.kIn C4 e (λz=>nomatch z) h
 | @lst a xs ea =>
  cases (show u=Al a from rx)
  obtain ⟨_,_,n,_,h1⟩:=(show ObjOk X.prog X.w H s.heap a (.lst xs) from I.hok a _ ea)
  exact BH PySem.W.kitx_list I.kIn ⟨_,h1,rfl⟩ e (λz=>nomatch z) h
 | @frz a ob xs ea =>
  cases (show u=Al a from rx)
  obtain ⟨_,_,_,n,_,h1⟩:=(show ObjOk X.prog X.w H s.heap a (.frz ob (.lst xs)) from I.hok a _ ea)
  exact BH PySem.W.kitx_list I.kIn ⟨_,h1,rfl⟩ e (λz=>nomatch z) h
 | @tup a xs ea =>
  cases (show u=Al a from rx)
  obtain ⟨_,_,_,p⟩:=(show ObjOk X.prog X.w H s.heap a (.tup xs) from I.hok a _ ea)
  obtain ⟨o,h1,h2,_⟩:=p
  exact BH PySem.W.kitx_tuple I.kIn ⟨o,h1,h2⟩ e (λz=>nomatch z) h
 | @dK a kvs ea =>
  cases (show u=Al a from rx)
  obtain ⟨_,_,vs,_,p⟩:=(show ObjOk X.prog X.w H s.heap a (.dK kvs) from I.hok a _ ea)
  obtain ⟨o,es,ep,h1,h2,_⟩:=p
  exact BH PySem.W.kitx_dict I.kIn ⟨o,h1,h2.1⟩ e (λz=>nomatch z) h
 | @dT a kvs ea =>
  cases (show u=Al a from rx)
  obtain ⟨_,_,xs,_,o,es,ep,h1,h2,_⟩:=(show ObjOk X.prog X.w H s.heap a (.dT kvs) from I.hok a _ ea)
  exact BH PySem.W.kitx_dict I.kIn ⟨o,h1,h2.1⟩ e (λz=>nomatch z) h
 | @ins a C dx fs ea cl ha hn htk hm =>
  cases (show u=Al a from rx)
  obtain ⟨mA,O,_⟩:=qjh I.hok ea
  obtain ⟨od,J,_⟩:=O.look
  exact BH (PySem.W.kitx_own (cl.get _) cl.hd ha hn htk hm) I.kIn J e (λz=>nomatch z) h
end
end L2
namespace L2
open PySem PySem.Spec PyProof.Rows
structure Room (k:Nat) (A:AU):Prop where
 hd:A.handled=none
 dp:A.depth + 3 * k + 5 < recursionLimit
 un:A.units + 16 * k + 200 < cLine
theorem Room.mono {j k:Nat} {A:AU} (r:Room k A) (h:j <= k):Room j A:=⟨r.hd,by have:=r.dp; lia,by have:=r.un; lia⟩
theorem Room.deeper {k:Nat} {A:AU} (r:Room (k + 1) A) (env:Env):Room k (A.deeper env) :=
 ⟨r.hd,by have:=r.dp; show A.depth + 1 + 3 * k + 5 < _; lia,by have:=r.un; show A.units + 3 + 16 * k + 200 < _; lia⟩
theorem qo5 {A:AU} {C:Addr} {us:List Value} {kw:List (Str × Value)}:(A.under (.builtin "type.__call__" ⟨.ref C :: us,kw⟩)).depth=A.depth + 1:=by
 first | rfl | simp [AU.under,Code.weight,Code.isCreation,Code.isGuard,Code.isCaller,Code.frames,Code.isFrame,guardIds]
theorem qo6 {A:AU} {C:Addr} {us:List Value} {kw:List (Str × Value)}:(A.under (.builtin "type.__call__" ⟨.ref C :: us,kw⟩)).units=A.units + 1:=by
 first | rfl | simp [AU.under,Code.cUnits,Code.frames,Code.isFrame]
theorem Room.make {k:Nat} {A:AU} (r:Room (k + 1) A) (C:Addr) (us:List Value) (kw:List (Str × Value)):Room k (A.under (.builtin "type.__call__" ⟨.ref C :: us,kw⟩)) :=
 ⟨r.hd,by have:=r.dp; rw [qo5]; lia,by have:=r.un; rw [qo6]; lia⟩
theorem Room.depth {k:Nat} {A:AU} (r:Room k A):A.depth < recursionLimit:=by have:=r.dp; lia
theorem Room.units {k:Nat} {A:AU} (r:Room k A):A.units + 64 < cLine:=by have:=r.un; lia
theorem Room.units0 {k:Nat} {A:AU} (r:Room k A):A.units < cLine:=by have:=r.un; lia
noncomputable def tNil:TA:=λ_ H Q=>Q [] H
noncomputable def tCons (ta:TE) (tr:TA):TA:=λσ H Q=>ta σ H λx H1=>tr σ H1 λxs H2=>Q (x :: xs) H2
section
variable {X:Cx} {e:Expr} {es:List Expr} {te:TE} {t:TA} {pos:Pos}
theorem qt:PA X [] tNil:=λ_ _ _ _ H Q I h=>Du ⟨[],H,I,.nil,h⟩
theorem qj (ha:PE X e te) (hr:PA X es t) (hs:starEach (e :: es) X.env=(false,eval e X.env) :: starEach es X.env:=by rfl):PA X (e :: es) (tCons te t):=by
 intro pos pins s σ H Q I h
 rw [hs]
 show wpAny _ _ (spliced ((false,eval e X.env) :: backTo pos (starEach es X.env))) _ _ s
 refine Dn (thn (ha pins s σ H _ I h) λu s1 hh9 => ?_)
 obtain ⟨x,H1,I1,r1,q1⟩:=hh9
 exact thn (hr pos pins s1 σ H1 _ I1 q1) λus s2 ⟨xs,H2,I2,r2,q2⟩=>⟨x :: xs,H2,I2,.cons r1 r2,q2⟩
noncomputable def tTup (t:TA):TE:=λσ H Q=>t σ H λxs H1=>xs.length <= Ax/\∀ p,H1 p=none->Q (.ref p) (upd H1 p (.tup xs))
noncomputable def tLst (t:TA):TE:=λσ H Q=>t σ H λxs H1=>xs.length <= Ax/\∀ p,H1 p=none->Q (.ref p) (upd H1 p (.lst xs))
theorem zt {x1} (h:PA X es t):PE X (.Tuple es x1 pos) (tTup t):=by
 intro pins s σ H Q I hq
 refine wpAny_Tuple_spliced (thn (h pos pins s σ H _ I hq) λus s1 ⟨xs,H1,I1,r,z,q⟩=>⟨by rw [<- r.length]; exact z,?_⟩)
 have hf:H1 s1.heap.objs.size=none:=I1.hok.fresh (Az _)
 refine ⟨.ref s1.heap.objs.size,upd H1 s1.heap.objs.size (.tup xs),I1.laid (t':=s1.toks) (λb u e=>Am _ e) (Az _) ?_,rfl,q _ hf⟩
 exact ⟨z,us,r,⟨_,A6 _ rfl,rfl,_,rfl⟩⟩
theorem zr (h:PA X es t):PE X (.List es pos) (tLst t):=by
 intro pins s σ H Q I hq
 refine wpAny_List_spliced (thn (h pos pins s σ H _ I hq) λus s1 ⟨xs,H1,I1,r,z,q⟩=>⟨by rw [<- r.length]; exact z,?_⟩)
 have hf:H1 s1.heap.objs.size=none:=I1.hok.fresh (Az _)
 refine ⟨.ref s1.heap.objs.size,upd H1 s1.heap.objs.size (.lst xs),I1.laid (t':=s1.toks) (λb u e=>Am _ e) (Az _) ?_,rfl,q _ hf⟩
 exact ⟨z,us,0,r,A6 _ rfl⟩
end
noncomputable abbrev Sp:=List V->Hp->VK->XK->Prop
noncomputable abbrev CXT:=List Env->Hp->Ah->XK->Value->Ah->Prop
structure Env0 (P:AM) (w:World) (K:Af) (mg:Str->Option Value) (base:Heap) (A:AU) (outer:List Env) (s:Ah) (H:Hp):Prop where
 frames:A.frames=some outer
 mod:Mod K mg base
 bs:∀ b o,base.get? b=some o->s.heap.get? b=some o/\H b=none
 bsz:base.objs.size <= s.heap.objs.size
 funs:s.heap.FunFrames base outer
 frf:∀ b ∈ frs outer,H b=none
 hok:HOk P w H s.heap
 bare:DV s.gens
noncomputable def CE (outer:List Env) (P:AM) (w:World) (H:Hp) (s:Ah) (Q:VK) (u:Value) (s':Ah):Prop :=
 ∃ v H',s'.os=s.os/\DV s'.gens/\Un (frs outer) [] H H' s.heap s'.heap/\HOk P w H' s'.heap/\RelV v u/\Q v H'
noncomputable def CR (CX:CXT) (outer:List Env) (P:AM) (w:World) (H:Hp) (s:Ah) (Q:VK) (E:XK) (r:Result) (s':Ah):Prop :=
 match r with
 | .ok (.ret u)=>CE outer P w H s Q u s'
 | .ok _=>False
 | .error e=>CX outer H s E e s'
structure FnOk (P:AM) (w:World) (K:Af) (mg:Str->Option Value) (base:Heap) (CX:CXT) (k:Nat) (f:Addr) (fd:AB) (ps:List Str) (sp:Sp):Prop where
 len:∀ vs H Q E,sp vs H Q E->vs.length=ps.length
 run:∀ (A:AU) (outer:List Env) (s:Ah) (H:Hp) (args:Args) (us:List Value) (vs:List V) (Q:VK) (E:XK),Room k A->Env0 P w K mg base A outer s H->BindsTo s fd args (ps.zip us)->Vals vs us->sp vs H Q E ->
  codeAny (model P w) A (.call (.ref f) args) (CR CX outer P w H s Q E) s
theorem Env0.make {P:AM} {w:World} {K:Af} {mg:Str->Option Value} {base:Heap} {A:AU} {outer:List Env} {s:Ah} {H:Hp} (e:Env0 P w K mg base A outer s H) (C:Addr) (us:List Value) (kw:List (Str × Value)) :
  Env0 P w K mg base (A.under (.builtin "type.__call__" ⟨.ref C :: us,kw⟩)) outer s H:=⟨by first | exact e.frames | (simpa [AU.under,Code.envs,Code.isFrame,pushEnvs] using e.frames),e.mod,e.bs,e.bsz,e.funs,e.frf,e.hok,e.bare⟩
section
variable {X:Cx} {pins:List (Addr × Obj)} {σ:St} {H:Hp} {s s':Ah}
theorem Inv.env0 (I:Inv X pins σ H s):Env0 X.prog X.w X.K X.mg X.base X.A X.stack s H :=
 ⟨I.ok.frames,I.ok.mod,I.bs,A1 I.ok.bsz I.sz,I.stack,I.stkFree,I.hok,I.bare⟩
theorem Inv.after {Q:VK} {u:Value} (I:Inv X pins σ H s) (h:CE X.stack X.prog X.w H s Q u s'):EP X pins σ Q u s':=by
 obtain ⟨v,H',os,bare,un,hok,r,q⟩:=h
 obtain ⟨hh,g,d,t,os'⟩:=s'
 obtain rfl:os'=s.os:=os
 exact ⟨v,H',I.call (h':=hh) (g':=g) (d':=d) (t':=t) (ch:=[]) un hok bare (λb z=>absurd z (by simp)),r,q⟩
end
noncomputable def tCall (sp:Sp) (dvs:List V) (E:XK) (t:TA):TE:=λσ H Q=>t σ H λvs H1=>sp (vs ++ dvs) H1 Q E
noncomputable def tMeth (C:Addr) (m:Str) (sp:Sp) (dvs:List V) (E:XK) (ta:TE) (t:TA):TE:=λσ H Q=>ta σ H λx H1=>∃ a dx fs,x=.ref a/\H1 a=some (.ins C dx fs)/\fs.lookup m=none /\
 t σ H1 λvs H2=>sp (x :: (vs ++ dvs)) H2 Q E
noncomputable def tMake (C:Addr) (sp:Sp) (dvs:List V) (E:XK) (t:TA):TE:=λσ H Q=>t σ H λvs H1=>∀ x dx,H1 x=none->H1 dx=none->dx ≠ x ->
 sp (.ref x :: (vs ++ dvs)) (upd (upd H1 dx (.own x)) x (.ins C dx [])) (λv H2=>v=.non/\Q (.ref x) H2) E
noncomputable def Binds (K:Af) (fd:AB) (ps:List Str) (ds:List Value):Prop :=
 ∀ (s:Ah) (us:List Value),K.In s.heap->(us ++ ds).length=ps.length->BindsTo s fd ⟨us,[]⟩ (ps.zip (us ++ ds))
theorem Binds.all {K:Af} {fd:AB} {ps:List Str} (h:∀ us:List Value,us.length=ps.length->bindArgs fd ⟨us,[]⟩=pure (ps.zip us)):Binds K fd ps []:=λs us _ hl=>by
 rw [Be] at hl |-
 exact .of_eq (h us hl)
noncomputable def qfu (CX:CXT) (X:Cx) (E:XK):Prop:=∀ (pins:List (Addr × Obj)) (σ:St) (H:Hp) (s:Ah) (e:Value) (s':Ah),Inv X pins σ H s->CX X.stack H s E e s'->X.xe e s'
section
variable {X:Cx} {CX:CXT} {k:Nat} {f C:Addr} {fd:AB} {ps:List Str} {sp:Sp} {dvs:List V} {ds:List Value} {E:XK} {x m:Str} {p pos apos:Pos} {e o:Expr} {es:List Expr} {ta:TE} {t:TA}
theorem qth {pins:List (Addr × Obj)} {σ:St} {H:Hp} {s:Ah} {Q:VK} {us:List Value} {vs:List V} (F:FnOk X.prog X.w X.K X.mg X.base CX k f fd ps sp) (hr:Room k X.A) (hb:Binds X.K fd ps ds) (hd:Vals dvs ds) (hx:qfu CX X E)
  (I:Inv X pins σ H s) (r:Vals vs us) (h:sp (vs ++ dvs) H Q E):wpAny (model X.prog X.w) X.A (call (.ref f) us) (EP X pins σ Q) X.xe s:=by
 have r2:Vals (vs ++ dvs) (us ++ ds):=r.append hd
 have hl:(us ++ ds).length=ps.length:=by rw [<- r2.length]; exact F.len _ _ _ _ h
 refine CG (CH (F.run X.A X.stack s H ⟨us,[]⟩ (us ++ ds) (vs ++ dvs) Q E hr I.env0 (hb s us I.kIn hl) r2 h) λr s' hq => ?_)
 cases r with
 | error e=>exact hx pins σ H s e s' I hq
 | ok fl =>
  cases fl with
  | ret u=>exact I.after hq
  | next=>exact By hq
  | brk=>exact By hq
  | cont=>exact By hq
theorem zn (F:FnOk X.prog X.w X.K X.mg X.base CX k f fd ps sp) (hr:Room k X.A) (hg:Gl X x) (hm:X.mg x=some (.ref f)) (hk:Bg X.K (.ref f)=true) (hb:Binds X.K fd ps ds) (hd:Vals dvs ds) (hx:qfu CX X E)
  (ha:PA X (e :: es) t) (hdb:(x == ("__debug__" : Str))=false:=by decide) (he:starEach (e :: es) X.env=(false,eval e X.env) :: starEach es X.env:=by rfl) (hpl:(backTo pos (starEach es X.env)).any (·.1)=false:=by rfl) :
  PE X (.Call (.Name x p) (e :: es) [] pos) (tCall sp dvs E t):=by
 intro pins s σ H Q I h
 refine BG (qev I hg hm ?_ hdb)
 refine CI (h₀:=X.base) I.ok.mod.kin hk (thn (ha pos pins s σ H _ I h) λus s1 ⟨vs,H1,I1,r,q⟩=>⟨I1.kIn,?_⟩) he hpl
 exact qth F hr hb hd hx I1 r q
theorem qnm {pl:Sem Bool} (he:PE X o ta) (c:Cls X.K C) (hm:Meth X.K C m f) (F:FnOk X.prog X.w X.K X.mg X.base CX k f fd ps sp) (hr:Room k X.A) (hb:Binds X.K fd ps ds) (hd:Vals dvs ds) (hx:qfu CX X E)
  (ht:eval (.Call (.Attribute o m apos) [] [] pos) X.env=(do
   let ov <- eval o X.env
   standAt apos.atName
   let (f,first) <- holding [ov] (getMethod ov m pl)
   callWith pos f first (backTo pos (starEach [] X.env)) (backToKw pos (keywordEach [] X.env))):=by rfl) :
  PE X (.Call (.Attribute o m apos) [] [] pos) (tMeth C m sp dvs E ta tNil):=by
 intro pins s σ H Q I h
 refine PySem.W.methodCall_KW (pl:=pl) (thn (he pins s σ H _ I h) λu s1 hh9 => ?_) ht
 obtain ⟨x,H1,I1,rx,a,dx,fs,ex,ea,l,q⟩:=hh9
 subst ex
 obtain rfl:u=Al a:=rx
 refine qo3 I1 ea c hm l ?_
 exact PySem.W.callWith_K0 (first:=[.ref a]) I1.kIn hm.kp (qth (us:=[.ref a]) (vs:=[.ref a]) F hr hb hd hx I1 (.cons rfl .nil) q)
structure Mk (K:Af) (C f:Addr):Prop where
 makes:PySem.W.makesIn K C=true
 init:AK K (.ref C) "__init__" = some (some (.ref f))
 fn:DX K (.ref f)=true
 kp:Bg K (.ref C)=true
theorem qti {pins:List (Addr × Obj)} {σ:St} {H:Hp} {s:Ah} {Q:VK} {us:List Value} {vs:List V} (M:Mk X.K C f) (F:FnOk X.prog X.w X.K X.mg X.base CX k f fd ps sp) (hr:Room (k + 1) X.A) (hb:Binds X.K fd ps ds) (hd:Vals dvs ds)
  (hx:qfu CX X E) (I:Inv X pins σ H s) (r:Vals vs us)
  (h:∀ x dx,H x=none->H dx=none->dx ≠ x->sp (.ref x :: (vs ++ dvs)) (upd (upd H dx (.own x)) x (.ins C dx [])) (λv H2=>v=.non/\Q (.ref x) H2) E) :
  wpAny (model X.prog X.w) X.A (call (.ref C) us) (EP X pins σ Q) X.xe s:=by
 have hq:=h (s.heap.objs.size + 1) s.heap.objs.size (I.hok.fresh (Cs _)) (I.hok.fresh (Az _)) (AJ (CA _))
 have I2:=Inv.made (C:=C) I
 have r2:Vals (V.ref (s.heap.objs.size + 1) :: (vs ++ dvs)) (Al (s.heap.objs.size + 1) :: (us ++ ds)):=.cons rfl (r.append hd)
 have hl:(Al (s.heap.objs.size + 1) :: us ++ ds).length=ps.length:=by
  have e:=r2.length
  rw [F.len _ _ _ _ hq] at e
  exact e.symm
 refine CG (qnl (f:=f) I.kIn M.makes M.init (beq_iff_eq.mp M.fn) (CH (F.run _ X.stack _ _ ⟨Al (s.heap.objs.size + 1) :: us,[]⟩ (Al (s.heap.objs.size + 1) :: (us ++ ds)) _ _ E (hr.make C us [])
  (I2.env0.make C us []) (hb _ (Al (s.heap.objs.size + 1) :: us) I2.kIn hl) r2 hq) λr s' hq' => ?_))
 cases r with
 | error e=>exact hx pins σ _ _ e s' I2 hq'
 | ok fl =>
  cases fl with
  | ret u =>
   obtain ⟨v,H',I3,rv,ev,q3⟩:=I2.after hq'
   subst ev
   exact ⟨rv,⟨V.ref (s.heap.objs.size + 1),H',I3,rfl,q3⟩⟩
  | next=>exact By hq'
  | brk=>exact By hq'
  | cont=>exact By hq'
theorem qvz (M:Mk X.K C f) (F:FnOk X.prog X.w X.K X.mg X.base CX k f fd ps sp) (hr:Room (k + 1) X.A) (hg:Gl X x) (hm:X.mg x=some (.ref C)) (hb:Binds X.K fd ps ds) (hd:Vals dvs ds) (hx:qfu CX X E)
  (ha:PA X (e :: es) t) (hdb:(x == ("__debug__" : Str))=false:=by decide) (he:starEach (e :: es) X.env=(false,eval e X.env) :: starEach es X.env:=by rfl) (hpl:(backTo pos (starEach es X.env)).any (·.1)=false:=by rfl) :
  PE X (.Call (.Name x p) (e :: es) [] pos) (tMake C sp dvs E t):=by
 intro pins s σ H Q I h
 refine BG (qev I hg hm ?_ hdb)
 refine CI (h₀:=X.base) I.ok.mod.kin M.kp (thn (ha pos pins s σ H _ I h) λus s1 ⟨vs,H1,I1,r,q⟩=>⟨I1.kIn,?_⟩) he hpl
 exact qti M F hr hb hd hx I1 r q
end
section
variable {X:Cx} {CX:CXT} {k:Nat} {f C:Addr} {fd:AB} {ps ks:List Str} {sp:Sp} {E:XK} {x m:Str} {p pos apos kpos:Pos} {e o:Expr} {es:List Expr} {kws:List Keyword} {te ta:TE} {t tk:TA} {nm:Option Str}
variable {g:List Value->List Value->List Value} {gV:List V->List V->List V}
end
structure FnScope (N P:List Str) (sc:Scope):Prop where
 kind:sc.kind=.function
 co:sc.isCoroutine=false
 gen:sc.isGenerator=false
 nd:N.Nodup
 pre:N.take P.length=P
 par:∀ x ∈ P,sc.names.lookup x=some .local \/ sc.names.lookup x=some .cell
 nofree:∀ y ∈ sc.names,y.2 ≠ .free
theorem qlp {kindOf:Str->Option Bo} {x:Str}:∀ {binds:List (Str × Value)} {m:Str->Option Value},(∀ v,(x,v) ∉ binds)->bindL kindOf binds m x=m x
 | [],_,_=>rfl
 | (n,v) :: r,m,h=>by
  unfold bindL
  rw [qlp λw hw=>h w (Au _ hw)]
  split
  .have:x ≠ n:=by rintro rfl; exact h v Aq
   simp [this]
  .rfl
theorem qlq {kindOf:Str->Option Bo} {x:Str}:∀ {binds:List (Str × Value)} {m:Str->Option Value},(∀ v,(x,v) ∉ binds)->bindC kindOf binds m x=m x
 | [],_,_=>rfl
 | (n,v) :: r,m,h=>by
  unfold bindC
  rw [qlq λw hw=>h w (Au _ hw)]
  split
  .rfl
  .have:x ≠ n:=by rintro rfl; exact h v Aq
   simp [this]
theorem qlr {kindOf:Str->Option Bo} {x:Str} {v:Value}:∀ {P:List Str} {vs:List Value} {i:Nat} {m:Str->Option Value},P.Nodup->P[i]?=some x->vs[i]?=some v->kindOf x=some .local ->
  bindL kindOf (P.zip vs) m x=some v
 | [],_,_,_,_,h,_,_=>by simp at h
 | _ :: _,[],_,_,_,_,h,_=>by simp at h
 | p :: P,w :: vs,0,m,nd,h1,h2,hk=>by
  simp at h1 h2; subst h1; subst h2
  show bindL kindOf ((p,w) :: P.zip vs) m p=_
  unfold bindL
  rw [qlp λv hv=>(Bb.mp nd).1 (List.of_mem_zip hv).1,if_pos hk]
  simp
 | p :: P,w :: vs,i + 1,m,nd,h1,h2,hk=>by
  show bindL kindOf ((p,w) :: P.zip vs) m x=_
  unfold bindL
  exact qlr (i:=i) (Bb.mp nd).2 (by simpa using h1) (by simpa using h2) hk
theorem qls {kindOf:Str->Option Bo} {x:Str} {v:Value}:∀ {P:List Str} {vs:List Value} {i:Nat} {m:Str->Option Value},P.Nodup->P[i]?=some x->vs[i]?=some v->kindOf x ≠ some .local ->
  bindC kindOf (P.zip vs) m x=some v
 | [],_,_,_,_,h,_,_=>by simp at h
 | _ :: _,[],_,_,_,_,h,_=>by simp at h
 | p :: P,w :: vs,0,m,nd,h1,h2,hk=>by
  simp at h1 h2; subst h1; subst h2
  show bindC kindOf ((p,w) :: P.zip vs) m p=_
  unfold bindC
  rw [qlq λv hv=>(Bb.mp nd).1 (List.of_mem_zip hv).1,if_neg hk]
  simp
 | p :: P,w :: vs,i + 1,m,nd,h1,h2,hk=>by
  show bindC kindOf ((p,w) :: P.zip vs) m x=_
  unfold bindC
  exact qls (i:=i) (Bb.mp nd).2 (by simpa using h1) (by simpa using h2) hk
noncomputable def qfq (N:List Str) (vs:List V):St:=vs.map some ++ List.replicate (N.length - vs.length) none
noncomputable def qms (CX:CXT) (P:AM) (w:World) (K:Af) (mg:Str->Option Value) (base:Heap) (N:List Str) (qual:Str) (scope:Scope) (f:Addr) (cd:Value) (A:AU) (outer:List Env) (s:Ah) (H:Hp) (E:XK):Cx where
 prog:=P
 w:=w
 K:=K
 mg:=mg
 base:=base
 A:=A.deeper (envOfC qual scope s.heap.objs.size f cd)
 N:=N
 s₀:=s
 H₀:=H
 env:=envOfC qual scope s.heap.objs.size f cd
 outer:=outer
 stack:=envOfC qual scope s.heap.objs.size f cd :: outer
 ex:=[]
 calm:=true
 fn:=λ_=>true
 pn:=[]
 xe:=λe s'=>wpAny (model P w) (A.deeper (envOfC qual scope s.heap.objs.size f cd)) (leaving (envOfC qual scope s.heap.objs.size f cd) e) (λ_ s''=>CX outer H s E e s'') (λe' s''=>CX outer H s E e' s'') s'
theorem qnn {sc:Scope} {n:Nat} {x:Str} (h:sc.names.lookup x=some .cell):∃ c,(cellsFrom n sc.names []).lookup x=some c:=by
 have q:=PySem.W.cellsFrom_some sc.names n [] (.inl h)
 exact C5.mp q
theorem qrv {CX:CXT} {P:AM} {w:World} {K:Af} {mg:Str->Option Value} {base:Heap} {N ps:List Str} {qual:Str} {scope:Scope} {f:Addr} {cd:Value} {A:AU} {outer:List Env} {s s1:Ah} {H:Hp} {E:XK} {us:List Value} {vs:List V}
  (S:FnScope N ps scope) (hd:A.handled=none) (e0:Env0 P w K mg base A outer s H) (hl:vs.length=ps.length) (r:Vals vs us)
  (x:InCallC s s.heap.objs.size (bindL (envOfC qual scope s.heap.objs.size f cd).kindOf (ps.zip us) λ_=>none) (cellsFrom (s.heap.objs.size + 1) scope.names []) (bindC (envOfC qual scope s.heap.objs.size f cd).kindOf (ps.zip us) λ_=>none) s1) :
  Inv (qms CX P w K mg base N qual scope f cd A outer s H E) [] (qfq N vs) H s1:=by
 have hpl:ps.length <= N.length:=by have:=congrArg CF S.pre; rw [A2] at this; lia
 obtain ⟨h1,tk,rfl,hk⟩:=x.done
 have noA:∀ b:Addr,b ∉ (qms CX P w K mg base N qual scope f cd A outer s H E).ex:=λb z=>absurd (show b ∈ ([]:List Addr) from z) (by simp)
 refine ⟨⟨e0.mod,S.kind,rfl,rfl,Az _,λy z c h1 h2 => ?_,λy hy => ?_,λy c _ h => ?_,λ_=>hd,AU.frames_deeper e0.frames,.inr ⟨rfl,rfl⟩,λb z=>absurd z (noA b),e0.bs,e0.bsz,λb _ _=>noA b,λb z=>absurd z (noA b),e0.funs,e0.frf⟩,
  rfl,e0.bare,Un.kept hk,⟨_,x.toInCall.ns,λi y v h1 h2 h3 => ?_⟩,λy c h=>⟨_,x.cell y c h⟩,e0.hok.fresh (Az _),λy c h => ?_,λp hp=>absurd (show p ∈ ([]:List (Addr × Obj)) from hp) (by simp),e0.hok.kept hk,?_⟩
 .exact name_of_addr x.apart (C9 h1) (C9 h2)
 .have hy:scope.names.lookup y=some .cell \/ scope.names.lookup y=some .free:=hy
  rcases hy with hy | hy
  .exact qnn hy
  .exact absurd rfl (S.nofree _ (C9 hy))
 .exact Nat.le_of_lt (x.above y c (C9 h))
 .have hi:i < vs.length:=by
   unfold qfq at h2
   by_cases hi:i < vs.length
   .exact hi
   .rw [AL (by simpa using hi)] at h2
    rw [List.getElem?_replicate] at h2
    split at h2 <;> cases h2
  have ha:vs[i]?=some v:=by
   unfold qfq at h2
   rw [AQ (by simpa using hi),Ak] at h2
   cases e:vs[i]? with
   | none=>rw [e] at h2; cases h2
   | some a=>rw [e] at h2; cases h2; rfl
  obtain ⟨u,hu,rv⟩:=r.get ha
  have hp:ps[i]?=some y:=by
   rw [<- S.pre,Dj (by lia)]; exact h1
  have ndP:ps.Nodup:=by rw [<- S.pre]; exact S.nd.sublist (BJ _ _)
  refine ⟨u,rv,?_⟩
  rcases S.par y (Ap hp) with k | k
  .exact .inl ⟨k,qlr ndP hp hu k⟩
  .obtain ⟨c,e⟩:=qnn (n:=s.heap.objs.size + 1) k
   refine .inr ⟨.inl k,c,e,?_⟩
   have q:=x.cell y c e
   rw [qls ndP hp hu (by show scope.names.lookup y ≠ _; rw [k]; decide)] at q
   exact q
 .exact e0.hok.fresh (Nat.le_of_lt (x.above y c (C9 h)))
 .unfold qfq
  show _=N.length
  rw [Ai,Ab,List.length_replicate]
  lia
theorem qtj {CX:CXT} {P:AM} {w:World} {K:Af} {mg:Str->Option Value} {base:Heap} {k:Nat} {f:Addr} {name qual:Str} {params:Arguments} {body:List Stmt} {scope:Scope} {dV kV doc pm cdv ct oc:Value} {an od:Option Addr}
  {osl:Array (Option Value)} {N ps:List Str} {sp:Sp} (lk:K.lookup f=some ⟨oc,od,.func (Bt name qual params body scope dV kV doc pm an cdv ct),osl⟩) (hcd:BR K cdv qual=true) (S:FnScope N ps scope)
  (len:∀ vs H Q E,sp vs H Q E->vs.length=ps.length)
  (hbody:∀ (A:AU) (outer:List Env) (s:Ah) (H:Hp) (vs:List V) (Q:VK) (E:XK),Room k (A.deeper (envOfC qual scope s.heap.objs.size f cdv))->sp vs H Q E ->
   ∃ t,PSs (qms CX P w K mg base N qual scope f cdv A outer s H E) body t/\t { nx:=λ_ H'=>Q .non H',rt:=Q } (qfq N vs) H) :
  FnOk P w K mg base CX (k + 1) f (Bt name qual params body scope dV kV doc pm an cdv ct) ps sp:=by
 refine ⟨len,λA outer s H args us vs Q E hr e0 hb r hsp => ?_⟩
 have hl:=len _ _ _ _ hsp
 have KX:K.In s.heap:=e0.mod.kin.keeps λb o e=>(e0.bs b o e).1
 have lim:s.heap.NoLimit:=e0.mod.nolimit.keeps λb o e=>(e0.bs b o e).1
 have hkind:∀ y ∈ ps.zip us,scope.names.lookup y.1=some .local \/ (scope.names.lookup y.1=some .cell/\((cellsFrom (s.heap.objs.size + 1) scope.names []).lookup y.1).isSome=true):=λ⟨n,v⟩ hy=>by
  rcases S.par n (List.of_mem_zip hy).1 with q | q
  .exact .inl q
  .exact .inr ⟨q,PySem.W.cellsFrom_some _ _ _ (.inl q)⟩
 refine codeAny_call_function hr.depth (KX _ _ lk) rfl S.co S.gen rfl (PySem.W.codeRec_of KX hcd) (hb _ _ _ _ ?_)
 refine wpAny_newFunctionEnv_cells S.kind hkind λenv he s1 x => ?_
 subst he
 refine ⟨lim.keeps x.toInCall.keep,codeAny_func ?_⟩
 obtain ⟨t,ht,hq⟩:=hbody A outer s H vs Q E (hr.deeper _) hsp
 have I:Inv (qms CX P w K mg base N qual scope f cdv A outer s H E) [] (qfq N vs) H s1:=qrv S hr.hd e0 hl r x
 refine BL (ht [] s1 (qfq N vs) H _ I hq) (λfl s' hs => ?_) λe s' hs=>hs
 have fin:∀ {σ':St} {H':Hp} {v:V} {u:Value},Inv (qms CX P w K mg base N qual scope f cdv A outer s H E) [] σ' H' s'->RelV v u->Q v H'->CE outer P w H s Q u s' :=
  λ{σ' H' v u} J rv q=>⟨v,H',J.os,J.bare,J.base,J.hok,rv,q⟩
 cases fl with
 | ret u =>
  obtain ⟨v,σ',H',J,rv,q⟩:=hs
  exact fin J rv q
 | next =>
  obtain ⟨σ',H',J,q⟩:=hs
  exact fin (v:=V.non) (u:=BF) J rfl q
 | brk =>
  obtain ⟨_,_,_,q⟩:=hs
  exact By q
 | cont =>
  obtain ⟨_,_,_,q⟩:=hs
  exact By q
end L2
namespace L2
open PySem PySem.Spec PyProof.Rows
section
variable {X:Cx} {x:Str} {p pos:Pos} {e:Expr} {es:List Expr} {t:TA} {id T:String} {r:List V->Hp->VK->Prop}
noncomputable def tCB (r:List V->Hp->VK->Prop) (t:TA):TE:=λσ H Q=>t σ H λvs H1=>r vs H1 Q
theorem zo (hc:qej X (.builtin id) r) (hg:Gl X x) (hm:X.mg x=none) (hv:bootBuiltins x=some (.builtin id)) (ha:PA X (e :: es) t) (hn:x ≠ "__name__" := by decide) (hdb:(x == ("__debug__" : Str))=false:=by decide)
  (he:starEach (e :: es) X.env=(false,eval e X.env) :: starEach es X.env:=by rfl) (hpl:(backTo pos (starEach es X.env)).any (·.1)=false:=by rfl):PE X (.Call (.Name x p) (e :: es) [] pos) (tCB r t):=by
 intro pins s σ H Q I h
 refine BG (qfc I hg hm hv ?_ hn hdb)
 exact D6 (thn (ha pos pins s σ H _ I h) λus s1 ⟨vs,H1,I1,r1,q1⟩=>hc pins s1 σ H1 vs us Q I1 r1 q1) he hpl
theorem qb3 (hc:qej X (.type T) r) (hg:Gl X x) (hm:X.mg x=none) (hv:bootBuiltins x=some (.type T)) (ha:PA X (e :: es) t) (hn:x ≠ "__name__" := by decide) (hdb:(x == ("__debug__" : Str))=false:=by decide)
  (he:starEach (e :: es) X.env=(false,eval e X.env) :: starEach es X.env:=by rfl) (hpl:(backTo pos (starEach es X.env)).any (·.1)=false:=by rfl):PE X (.Call (.Name x p) (e :: es) [] pos) (tCB r t):=by
 intro pins s σ H Q I h
 refine BG (qfc I hg hm hv ?_ hn hdb)
 exact Bz (thn (ha pos pins s σ H _ I h) λus s1 ⟨vs,H1,I1,r1,q1⟩=>hc pins s1 σ H1 vs us Q I1 r1 q1) he hpl
end
end L2
namespace HT
open PySem PyProof.Rows
section
open PySem.SeqAt
open PySem.AutoSeq1 (wpAny_loadPart')
open PySem.MeetsSeq PySem.MeetsSeq2 PySem.MeetsSeq3
end
section
variable {prog:AM} {w:World} {A:AU} {E:Value->Ah->Prop} {s:Ah}
noncomputable def sIx (n d:Nat):Option Int->Nat
 | none=>d
 | some v=>if v < 0 then (v + (n:Int)).toNat else min v.toNat n
end
end HT
namespace L2
open PySem PySem.Spec PyProof.Rows
noncomputable abbrev TO:=St->Hp->(Option Int->Hp->Prop)->Prop
noncomputable def PO (X:Cx) (e:Option Expr) (t:TO):Prop :=
 ∀ (pins:List (Addr × Obj)) (s:Ah) (σ:St) (H:Hp) (Q:Option Int->Hp->Prop),Inv X pins σ H s->t σ H Q ->
  wpAny (model X.prog X.w) X.A (evalPart e X.env) (λu s'=>∃ o H',Inv X pins σ H' s'/\IsPart u o/\Q o H') X.xe s
noncomputable def qv0:TO:=λ_ H Q=>Q none H
noncomputable def tPart (t:TE):TO:=λσ H Q=>t σ H λx H1=>∃ i,x=.int i/\Q (some i) H1
section
variable {X:Cx} {e:Expr} {te:TE} {lo hi:Option Expr} {tl th:TO} {pos p2:Pos}
theorem qc0:PO X none qv0:=by
 intro pins s σ H Q I h
 rw [evalPart_none]
 exact Ay ⟨none,H,I,.none,h⟩
theorem qa5 (h:PE X e te):PO X (some e) (tPart te):=by
 intro pins s σ H Q I hw
 rw [evalPart_some]
 refine thn (h pins s σ H _ I hw) λu s1 hh9 => ?_
 obtain ⟨x,H1,I1,r1,q1⟩:=hh9
 obtain ⟨i,rfl,q⟩:=q1
 obtain ⟨t,rfl⟩:=r1
 exact ⟨some i,H1,I1,.int i t,q⟩
noncomputable def SlR (X:Cx) (r:V->Option Int->Option Int->Hp->VK->Prop):Prop :=
 ∀ (pins:List (Addr × Obj)) (s:Ah) (σ:St) (H:Hp) (x:V) (v vl vu:Value) (lo hi:Option Int) (sl:Addr) (Q:VK),Inv X pins σ H s->RelV x v->s.heap.IsSliceOf sl vl vu .none->IsPart vl lo->IsPart vu hi->r x lo hi H Q ->
  ∃ T id,typeLookup (.type T) "__getitem__" = pure (some (.builtin id))/\s.TypeIs v T/\wpAny (model X.prog X.w) X.A (getItem v (.ref sl)) (EP X pins σ Q) X.xe s
noncomputable def tSl (r:V->Option Int->Option Int->Hp->VK->Prop) (te:TE) (tl th:TO):TE:=λσ H Q=>te σ H λx H1=>tl σ H1 λl H2=>th σ H2 λu H3=>r x l u H3 Q
theorem qbb {r:V->Option Int->Option Int->Hp->VK->Prop} (hr:SlR X r) (he:PE X e te) (hl:PO X lo tl) (hu:PO X hi th):PE X (.Subscript e (.Slice lo hi none p2) pos) (tSl r te tl th):=by
 intro pins s σ H Q I h
 refine Subscript_ (thn (he pins s σ H _ I h) λv s1 hh9 => ?_)
 obtain ⟨x,H1,I1,r1,q1⟩:=hh9
 refine wpAny_Slice (thn (hl pins s1 σ H1 _ I1 q1) λvl s2 ⟨l,H2,I2,pl,q2⟩=>thn (hu pins s2 σ H2 _ I2 q2) λvu s3 hh9 => ?_)
 obtain ⟨u,H3,I3,pu,q3⟩:=hh9
 rw [evalPart_none]
 refine Ay ?_
 have I4:Inv X pins σ H3 { s3 with heap:=s3.heap.push { cls:=.type "slice",data:=.fields #[vl,vu,.none] } }:=I3.kept (t':=s3.toks) λb ob q=>Am _ q
 obtain ⟨T,id,hT,ht,hg⟩:=hr pins { s3 with heap:=s3.heap.push { cls:=.type "slice",data:=.fields #[vl,vu,.none] } } σ H3 x v vl vu l u s3.heap.objs.size Q I4 r1 (Heap.IsSliceOf.new ..) pl pu q3
 show wpAny (model X.prog X.w) X.A (subscriptTail e (.Slice lo hi none p2) v (.ref s3.heap.objs.size)) (EP X pins σ Q) X.xe { s3 with heap:=s3.heap.push { cls:=.type "slice",data:=.fields #[vl,vu,.none] } }
 exact tail_any (ops:=[.ref s3.heap.objs.size,v]) ht hT hg (by with_unfolding_all rfl)
noncomputable def qgz (xs:List V) (lo hi:Option Int):List V:=(xs.drop (HT.sIx xs.length 0 lo)).take (HT.sIx xs.length xs.length hi - HT.sIx xs.length 0 lo)
theorem qno (xs:List V) (lo hi:Option Int):(qgz xs lo hi).length <= xs.length:=by
 unfold qgz
 rw [A2,Bl]
 lia
end
end L2
namespace L2
open PySem PySem.Spec PyProof.Rows
noncomputable def ixN (n:Nat) (i:Int):Option Nat:=if 0 <= i then (if i < n then some i.toNat else none) else if -(n:Int) <= i then some (i + n).toNat else none
noncomputable def atI {α:Type} (xs:List α) (i:Int):Option α:=(ixN xs.length i).bind λj=>xs[j]?
theorem qqq {n:Nat} {i:Int} {j:Nat} (h:ixN n i=some j):seqIndex? i n=some j/\j < n /\ -(n:Int) <= i/\i < n:=by
 unfold ixN at h
 by_cases h0:0 <= i
 .rw [if_pos h0] at h
  by_cases h1:i < n
  .rw [if_pos h1] at h
   have e:i.toNat=j:=AG h
   exact ⟨by rw [seqIndex_of h0 h1,e],by lia,by lia,h1⟩
  .rw [if_neg h1] at h; cases h
 .rw [if_neg h0] at h
  by_cases h1 : -(n:Int) <= i
  .rw [if_pos h1] at h
   have e:(i + n).toNat=j:=AG h
   exact ⟨by rw [seqIndex_neg (by lia) h1,e],by lia,h1,by lia⟩
  .rw [if_neg h1] at h; cases h
theorem qmt {α:Type} {xs:List α} {i:Int} {v:α} (h:atI xs i=some v):∃ j,seqIndex? i xs.length=some j/\xs[j]?=some v/\j < xs.length /\ -(xs.length:Int) <= i/\i < xs.length:=by
 unfold atI at h
 cases e:ixN xs.length i with
 | none=>rw [e] at h; cases h
 | some j =>
  rw [e] at h
  obtain ⟨h1,h2,h3,h4⟩:=qqq e
  exact ⟨j,h1,h,h2,h3,h4⟩
theorem qaz {α:Type} {xs:List α} {j:Nat} {v:α} (h:xs[j]?=some v):atI xs (j:Int)=some v:=by
 have hj:j < xs.length:=(Ae.mp h).1
 have e:ixN xs.length (j:Int)=some j:=by
  unfold ixN
  rw [if_pos (by lia),if_pos (by lia)]; simp
 unfold atI; rw [e]; exact h
noncomputable def qv1 (b:Expr):Prop:=∀ o i,subscripted b false o i=operate [o,i] (getItem o i)
noncomputable def IxR (X:Cx) (r:R2):Prop :=
 ∀ (value slice:Expr) (pins:List (Addr × Obj)) (s:Ah) (σ:St) (H:Hp) (x y:V) (v u:Value) (Q:VK),Inv X pins σ H s->RelV x v->RelV y u->r x y H Q ->
  subscripted slice false v u=operate [v,u] (getItem v u)->wpAny (model X.prog X.w) X.A (subscriptTail value slice v u) (EP X pins σ Q) X.xe s
noncomputable def MtR (X:Cx) (id:String) (r:V->List V->Hp->VK->Prop):Prop :=
 ∀ (pins:List (Addr × Obj)) (s:Ah) (σ:St) (H:Hp) (x:V) (xs:List V) (v:Value) (us:List Value) (Q:VK),Inv X pins σ H s->RelV x v->Vals xs us->r x xs H Q ->
  wpAny (model X.prog X.w) X.A (call (.builtin id) (v :: us)) (EP X pins σ Q) X.xe s
section
variable {X:Cx} {a b:Expr} {ta tb:TE} {pos:Pos}
theorem zz {r:R2} (hr:IxR X r) (ha:PE X a ta) (hb:PE X b tb) (hs:qv1 b):PE X (.Subscript a b pos) (tOp r ta tb):=by
 intro pins s σ H Q I h
 exact Subscript_ (qya ha hb I h λv u s2 x y H2 I2 rx ry q=>hr a b pins s2 σ H2 x y v u Q I2 rx ry q (hs _ _))
noncomputable def rIxL (K:Af):R2:=λx y H Q=>∃ p xs i v,x=.ref p/\y=.int i/\SqL K H p xs/\atI xs i=some v/\Q v H
noncomputable def rIxT (K:Af):R2:=λx y H Q=>∃ p xs i v,x=.ref p/\y=.int i/\SqT K H p xs/\atI xs i=some v/\Q v H
noncomputable def rIxS:R2:=λx y H Q=>∃ z i c,x=.str z/\y=.int i/\z.length <= Ax/\atI z.cps.toList i=some c/\Q (.str ⟨#[c]⟩) H
theorem jb:IxR X (rIxL X.K):=by
 intro value slice pins s σ H x y v u Q I rx ry h hs
 obtain ⟨p,xs,i,z,rfl,rfl,hq,he,q⟩:=h
 cases rx
 obtain ⟨t,rfl⟩:=ry
 obtain ⟨its,r,pl,hz⟩:=I.list hq
 obtain ⟨j,h1,h2,h3,h4,h5⟩:=qmt he
 obtain ⟨w,ew,rw'⟩:=r.get h2
 have hl:=r.length
 have hn:=qjt
 have fin:EP X pins σ Q w s:=⟨z,H,I,rw',q⟩
 by_cases h0:0 <= i
 .have hj:i.toNat=j:=by
   rw [seqIndex_of h0 h5] at h1
   exact AG h1
  exact item_listR pl.isList h0 (by lia) (by rw [hj]; simpa using ew) fin hs
 .have hj:(i + (its.toArray.size:Int)).toNat=j:=by
   rw [seqIndex_neg (by lia) h4] at h1
   rw [Av,<- hl]
   exact AG h1
  exact subscriptTail_builtinR (x:=w) pl.isList.typeIs slot_list_getitem.lookup
   (wpAny_getItem_list_neg (Q:=λr s'=>r=w/\EP X pins σ Q r s') pl.isList (by lia) (by rw [Av] <;> lia) (by lia) (by rw [hj]; simpa using ew) ⟨rfl,fin⟩) hs
theorem ja:IxR X (rIxT X.K):=by
 intro value slice pins s σ H x y v u Q I rx ry h hs
 obtain ⟨p,xs,i,z,rfl,rfl,hq,he,q⟩:=h
 cases rx
 obtain ⟨t,rfl⟩:=ry
 obtain ⟨its,r,pl,hz⟩:=I.tuple hq
 obtain ⟨j,h1,h2,h3,h4,h5⟩:=qmt he
 obtain ⟨w,ew,rw'⟩:=r.get h2
 have hl:=r.length
 have hn:=qjt
 have fin:EP X pins σ Q w s:=⟨z,H,I,rw',q⟩
 exact subscriptTail_builtinR (x:=w) pl.typeIs slot_tuple_getitem.lookup
  (getItem_tuple (j:=j) (Q:=λr s'=>r=w/\EP X pins σ Q r s') pl (by lia) (by lia) (by rw [Av,<- hl]; exact h1) (by simpa using ew) ⟨rfl,fin⟩) hs
theorem qtk:IxR X rIxS:=by
 intro value slice pins s σ H x y v u Q I rx ry h hs
 obtain ⟨z,i,c,rfl,rfl,hz,he,q⟩:=h
 obtain ⟨t,rfl⟩:=rx
 obtain ⟨t',rfl⟩:=ry
 obtain ⟨j,h1,h2,h3,h4,h5⟩:=qmt he
 have hl:z.cps.toList.length=z.length:=by simp [Str.length]
 rw [hl] at h1 h4 h5
 have hn:=qjt
 exact tail_any (Eb s z t) slot_str_getitem.lookup (getItem_str (c:=c) (by
  have e1:decide (i < -(2 ^ 63:Int))=false:=decide_eq_false (by lia)
  have e2:decide (i ≥ 2 ^ 63)=false:=decide_eq_false (by lia)
  rw [e1,e2,Bool.or_false]) (by rw [h1]; simpa using h2) ⟨.str ⟨#[c]⟩,H,I.tok _,⟨_,rfl⟩,q⟩) hs
theorem qo7 (its:List Value) (n j:Nat) (u:Value):Do (·.setIfInBounds j u) { cls:=.type "list",data:=.seq its.toArray n }={ cls:=.type "list",data:=.seq (its.set j u).toArray n }:=by
 simp [Do]
theorem Inv.lst {pins:List (Addr × Obj)} {σ:St} {H:Hp} {s:Ah} {p:Addr} {xs:List V} (I:Inv X pins σ H s) (h:H p=some (.lst xs)) :
  ∃ (its:List Value) (n:Nat),Vals xs its/\s.heap.get? p=some { cls:=.type "list",data:=.seq its.toArray n }/\xs.length <= Ax:=by
 obtain ⟨z,its,n,r,e⟩:=I.hok p _ h
 exact ⟨its,n,r,e,z⟩
theorem Inv.lstUpd {pins:List (Addr × Obj)} {σ:St} {H:Hp} {s:Ah} {p:Addr} {xs ys:List V} {its its':List Value} {n n':Nat} {f:Obj->Obj} (I:Inv X pins σ H s) (h:H p=some (.lst xs))
  (ho:s.heap.get? p=some { cls:=.type "list",data:=.seq its.toArray n }) (hf:f { cls:=.type "list",data:=.seq its.toArray n }={ cls:=.type "list",data:=.seq its'.toArray n' }) (r:Vals ys its') (hz:ys.length <= Ax) (t:Nat) :
  Inv X pins σ (upd H p (.lst ys)) { s with heap:=s.heap.update p f,toks:=t }:=by
 have e:(s.heap.update p f).get? p=some { cls:=.type "list",data:=.seq its'.toArray n' }:=by
  rw [B1 f ho (by rw [hf] <;> rfl),hf]
 refine I.write (x:=p) (e:=p) (by rw [h]; trivial) (.inl rfl) (λb u hb q=>(Bw _ _ (AX hb)).trans q) ⟨_,e⟩ ?_
 exact ⟨hz,its',n',r,e⟩
noncomputable def rSetL:V->V->V->Hp->(Hp->Prop)->Prop:=λo i v H Q=>∃ p xs k j,o=.ref p/\i=.int k/\H p=some (.lst xs)/\ixN xs.length k=some j/\Q (upd H p (.lst (xs.set j v)))
theorem qnp:PSet X rSetL:=by
 intro pins s σ H o i v ov iv u Q I ro ri rv h
 obtain ⟨p,xs,k,j,rfl,rfl,hp,hj,q⟩:=h
 cases ro
 obtain ⟨t,rfl⟩:=ri
 obtain ⟨its,n,r,ho,hz⟩:=I.lst hp
 obtain ⟨h1,h2,h3,h4⟩:=qqq hj
 have hl:=r.length
 have hn:=qjt
 have I':Inv X pins σ (upd H p (.lst (xs.set j v))) { s with heap:=s.heap.update p (Do (·.setIfInBounds j u)) } :=
  I.lstUpd hp ho (qo7 its n j u) (r.set rv j) (by rw [BT]; exact hz) s.toks
 by_cases h0:0 <= k
 .have hk:k.toNat=j:=by
   rw [seqIndex_of h0 h4] at h1
   exact AG h1
  exact PySem.W.ki_setAt ho h0 (by lia) (by rw [Av,<- hl]; exact h4) (by rw [hk]; exact ⟨_,I',q⟩)
 .have hk:(k + (its.toArray.size:Int)).toNat=j:=by
   rw [seqIndex_neg (by lia) h3] at h1
   rw [Av,<- hl]
   exact AG h1
  exact PySem.W.ki_setBack ho (by lia) (by rw [Av,<- hl]; exact h3) (by lia) (by rw [hk]; exact ⟨_,I',q⟩)
theorem qmu (lo hi:Option Int) (n:Nat):(sliceBounds lo hi none n).1=((HT.sIx n 0 lo:Nat):Int)/\(sliceBounds lo hi none n).2.1=((HT.sIx n n hi:Nat):Int)/\(sliceBounds lo hi none n).2.2=1:=by
 refine ⟨?_,?_,rfl⟩
 .cases lo with
  | none=>simp [sliceBounds,HT.sIx]
  | some i =>
   simp only [sliceBounds,HT.sIx,Option.getD_none,show (1:Int) > 0 by decide,if_true]
   by_cases h:i < 0
   .simp only [h,if_true] <;> lia
   .simp only [h,if_false] <;> lia
 .cases hi with
  | none=>simp [sliceBounds,HT.sIx]
  | some i =>
   simp only [sliceBounds,HT.sIx,Option.getD_none,show (1:Int) > 0 by decide,if_true]
   by_cases h:i < 0
   .simp only [h,if_true] <;> lia
   .simp only [h,if_false] <;> lia
theorem qk8 (its:List Value) (lo hi:Option Int):slicePick its.toArray lo hi none=((its.drop (HT.sIx its.length 0 lo)).take (HT.sIx its.length its.length hi - HT.sIx its.length 0 lo)).toArray:=by
 obtain ⟨h1,h2,h3⟩:=qmu lo hi its.toArray.size
 unfold slicePick
 rw [h1,h2,h3]
 simp only [sliceRange_one,pick_run,Av] <;> rfl
noncomputable def rSlL (K:Af):V->Option Int->Option Int->Hp->VK->Prop:=λx lo hi H Q=>∃ a xs,x=.ref a/\SqL K H a xs/\∀ p,H p=none->Q (.ref p) (upd H p (.lst (qgz xs lo hi)))
theorem qb2:SlR X (rSlL X.K):=by
 intro pins s σ H x v vl vu lo hi sl Q I rx hs pl pu h
 obtain ⟨a,xs,rfl,hx,q⟩:=h
 cases rx
 obtain ⟨its,r,ht,hz⟩:=I.list hx
 have hlen:=r.length
 refine ⟨"list",_,slot_list_getitem.lookup,ht.isList.typeIs,?_⟩
 refine wpAny_getItem_list_slice ht.isList hs pl pu .none (by simp) ?_ (by rw [Av] <;> lia)
 rw [qk8,<- hlen]
 refine ⟨.ref s.heap.objs.size,_,I.laid (t':=s.toks) (o:=.lst (qgz xs lo hi)) (λb ob q=>Am _ q) (Az _) ?_,rfl,q _ (I.hok.fresh (Az _))⟩
 exact ⟨A1 (qno xs lo hi) hz,_,0,(r.drop (HT.sIx xs.length 0 lo)).take (HT.sIx xs.length xs.length hi - HT.sIx xs.length 0 lo),A6 _ rfl⟩
noncomputable def qcr:V->Bool
 | .non=>true
 | .bl _=>true
 | .int _=>true
 | .str _=>true
 | _=>false
noncomputable def eqV:V->V->Bool
 | .non,.non=>true
 | .bl a,.bl b=>a == b
 | .bl a,.int b=>(if a then 1 else 0) == b
 | .int a,.bl b=>a == (if b then 1 else 0)
 | .int a,.int b=>a == b
 | .str a,.str b=>a == b
 | _,_=>false
theorem qtl {A:AU} {s:Ah} {y x:V} {u v:Value} (ry:RelV y u) (rx:RelV x v) (fy:qcr y=true) (fx:qcr x=true):B5 A s u v (eqV y x):=by
 cases y with
 | non =>
  cases ry
  cases x with
  | non=>cases rx; exact B5.same _
  | bl b=>cases rx; exact B5.none_bool b
  | int b=>obtain ⟨t,rfl⟩:=rx; exact B5.none_int b t
  | str b=>obtain ⟨t,rfl⟩:=rx; exact B5.none_str b t
  | _=>exact absurd (show false=true from fx) AA
 | bl a =>
  cases ry
  cases x with
  | non=>cases rx; exact B5.bool_none a
  | bl b=>cases rx; exact B5.bool_bool a b
  | int b=>obtain ⟨t,rfl⟩:=rx; exact B5.bool_int a b t
  | str b=>obtain ⟨t,rfl⟩:=rx; exact B5.bool_str a b t
  | _=>exact absurd (show false=true from fx) AA
 | int a =>
  obtain ⟨t',rfl⟩:=ry
  cases x with
  | non=>cases rx; exact B5.int_none a t'
  | bl b=>cases rx; exact B5.int_bool a t' b
  | int b=>obtain ⟨t,rfl⟩:=rx; exact B5.int_int a t' b t
  | str b=>obtain ⟨t,rfl⟩:=rx; exact B5.int_str a t' b t
  | _=>exact absurd (show false=true from fx) AA
 | str a =>
  obtain ⟨t',rfl⟩:=ry
  cases x with
  | non=>cases rx; exact B5.str_none a t'
  | bl b=>cases rx; exact B5.str_bool a t' b
  | int b=>obtain ⟨t,rfl⟩:=rx; exact B5.str_int a t' b t
  | str b=>obtain ⟨t,rfl⟩:=rx; exact B5.str_str a t' b t
  | _=>exact absurd (show false=true from fx) AA
 | _=>exact absurd (show false=true from fy) AA
noncomputable def eqU (x:V) (u:Value):Bool:=match u with
 | .none=>eqV .non x
 | .bool b=>eqV (.bl b) x
 | .int i _=>eqV (.int i) x
 | .str z _=>eqV (.str z) x
 | _=>false
theorem qtm {x y:V} {u:Value} (r:RelV y u) (f:qcr y=true):eqU x u=eqV y x:=by
 cases y with
 | non=>cases r; rfl
 | bl b=>cases r; rfl
 | int i=>obtain ⟨t,rfl⟩:=r; rfl
 | str z=>obtain ⟨t,rfl⟩:=r; rfl
 | _=>exact absurd (show false=true from f) AA
theorem qhi {x:V}:∀ {xs:List V} {us:List Value},Vals xs us->xs.all qcr=true->us.any (eqU x)=xs.any λy=>eqV y x
 | _,_,.nil,_=>rfl
 | y :: xs,u :: us,.cons r t,f=>by
  rw [CS,AI] at f
  rw [Dk,Dk,qtm r f.1,qhi t f.2]
theorem qfv {A:AU} {s:Ah} {x:V} {v:Value} (rx:RelV x v) (fx:qcr x=true):∀ {xs:List V} {us:List Value},Vals xs us->xs.all qcr=true->∀ u ∈ us,B5 A s u v (eqU x u)
 | _,_,.nil,_=>λu hu=>by cases hu
 | y :: xs,u :: us,.cons r t,f=>λu' hu=>by
  rw [CS,AI] at f
  rcases Ao.mp hu with rfl | hu
  .rw [qtm r f.1]; exact qtl r rx f.1 fx
  .exact qfv rx fx t f.2 u' hu
noncomputable def inV (x:V) (xs:List V):Bool:=xs.any λy=>eqV y x
noncomputable def rIn (K:Af) (neg:Bool):R2:=λx y H Q=>∃ p xs,y=.ref p/\(SqL K H p xs \/ SqT K H p xs)/\qcr x=true/\xs.all qcr=true/\Q (.bl (if neg then !inV x xs else inV x xs)) H
theorem qed:OpR X (compareOp .In) (rIn X.K false):=by
 intro pins s σ H x y v u Q I rx ry h
 obtain ⟨p,xs,rfl,hq,fx,fs,q⟩:=h
 cases ry
 rcases hq with hq | hq
 .obtain ⟨its,r,pl,hz⟩:=I.list hq
  refine SeqAt.in_listAt (eqU x) pl.isList (λw hw=>qfv rx fx r fs w (by simpa using hw)) ⟨.bl _,H,I,rfl,?_⟩
  rw [show its.toArray.any (eqU x)=its.any (eqU x) by simp,qhi r fs]
  exact q
 .obtain ⟨its,r,pl,hz⟩:=I.tuple hq
  refine SeqAt.in_tupleAt (eqU x) pl (λw hw=>qfv rx fx r fs w (by simpa using hw)) ⟨.bl _,H,I,rfl,?_⟩
  rw [show its.toArray.any (eqU x)=its.any (eqU x) by simp,qhi r fs]
  exact q
theorem qhj:OpR X (compareOp .NotIn) (rIn X.K true):=by
 intro pins s σ H x y v u Q I rx ry h
 obtain ⟨p,xs,rfl,hq,fx,fs,q⟩:=h
 cases ry
 rcases hq with hq | hq
 .obtain ⟨its,r,pl,hz⟩:=I.list hq
  refine SeqAt.notIn_listAt (eqU x) pl.isList (λw hw=>qfv rx fx r fs w (by simpa using hw)) ⟨.bl _,H,I,rfl,?_⟩
  rw [show its.toArray.any (eqU x)=its.any (eqU x) by simp,qhi r fs]
  exact q
 .obtain ⟨its,r,pl,hz⟩:=I.tuple hq
  refine SeqAt.notIn_tupleAt (eqU x) pl (λw hw=>qfv rx fx r fs w (by simpa using hw)) ⟨.bl _,H,I,rfl,?_⟩
  rw [show its.toArray.any (eqU x)=its.any (eqU x) by simp,qhi r fs]
  exact q
theorem qhk:qej X (.type "list") (λxs H Q=>∃ p ys,xs=[.ref p]/\(SqL X.K H p ys \/ SqT X.K H p ys)/\∀ l,H l=none->Q (.ref l) (upd H l (.lst ys))):=by
 intro pins s σ H xs us Q I r h
 obtain ⟨p,ys,rfl,hq,q⟩:=h
 obtain ⟨u,rfl,rx⟩:=qfp r
 cases rx
 have fin:∀ (its:List Value),Vals ys its->ys.length <= Ax->∀ (h':Heap) (c':Nat),(∀ b o',s.heap.get? b=some o'->h'.get? b=some o') ->
   h'.get? s.heap.objs.size=some { cls:=.type "list",dict:=none,data:=.seq its.toArray c',slots:=#[] }->EP X pins σ Q (.ref s.heap.objs.size) { s with heap:=h' }:=λits r' hz h' c' kp e =>
  ⟨.ref s.heap.objs.size,_,I.laid (t':=s.toks) kp (Az _) (show ObjOk X.prog X.w _ h' _ (.lst ys) from ⟨hz,its,c',r',e⟩),rfl,q _ (I.hok.fresh (Az _))⟩
 rcases hq with hq | hq
 .obtain ⟨its,r',pl,hz⟩:=I.list hq
  have hlen:=r'.length
  obtain ⟨o,ho,hc,n,hd⟩:=pl.isList
  exact call_list_seq p (.inl rfl) ho hc hd (λh' c' kp e=>fin its r' hz h' c' kp e) (by simp only [Av] <;> lia)
 .obtain ⟨its,r',pl,hz⟩:=I.tuple hq
  have hlen:=r'.length
  obtain ⟨o,ho,hc,n,hd⟩:=pl
  exact call_list_seq p (.inr rfl) ho hc hd (λh' c' kp e=>fin its r' hz h' c' kp e) (by simp only [Av] <;> lia)
noncomputable def tyV (K:Af) (T:String) (x:V) (H:Hp):Prop:=match x with
 | .str _=>T = "str"
 | .int _=>T = "int"
 | .ref p=>(T = "list" /\ ∃ xs,SqL K H p xs) \/ (T = "tuple" /\ ∃ o,K.lookup p=some o/\o.cls=.type "tuple" /\ o.dict=none) \/
   (T = "dict" /\ ((∃ kvs,H p=some (.dK kvs)) \/ ∃ kvs,H p=some (.dT kvs))) \/ (T = "set" /\ ∃ S n,H p=some (.set S n))
 | _=>False
theorem qyc {pins:List (Addr × Obj)} {σ:St} {H:Hp} {s:Ah} {T:String} {x:V} {v:Value} (I:Inv X pins σ H s) (r:RelV x v) (ty:tyV X.K T x H) :
  s.TypeIs v T/\∀ a,v=.ref a->∃ ob,s.heap.get? a=some ob/\ob.dict=none:=by
 cases x with
 | str z =>
  obtain ⟨t,rfl⟩:=r
  cases (show T = "str" from ty)
  exact ⟨Eb s z t,λ_ e=>nomatch e⟩
 | int i =>
  obtain ⟨t,rfl⟩:=r
  cases (show T = "int" from ty)
  exact ⟨typeIs_int s i t,λ_ e=>nomatch e⟩
 | ref p =>
  cases r
  rcases ty with ⟨rfl,xs,hq⟩ | ⟨rfl,o,hk,hc,hd⟩ | ⟨rfl,hk⟩ | ⟨rfl,S,n,hk⟩
  .obtain ⟨its,_,pl,_⟩:=I.list hq
   refine ⟨pl.isList.typeIs,λa e => ?_⟩
   cases e
   obtain ⟨o,n,e,c,hd,_⟩:=pl
   exact ⟨o,e,hd⟩
  .refine ⟨⟨o,I.kIn p o hk,hc⟩,λa e => ?_⟩
   cases e
   exact ⟨o,I.kIn _ o hk,hd⟩
  .have z:∃ o,s.heap.get? p=some o/\o.ExactDict:=by
    rcases hk with ⟨kvs,hk⟩ | ⟨kvs,hk⟩
    .obtain ⟨_,_,_,_,o,_,_,e,ex,_⟩:=I.hok p _ hk
     exact ⟨o,e,ex⟩
    .obtain ⟨_,_,_,_,o,_,_,e,ex,_⟩:=I.hok p _ hk
     exact ⟨o,e,ex⟩
   obtain ⟨o,e,ex⟩:=z
   refine ⟨⟨o,e,ex.1⟩,λa e2 => ?_⟩
   cases e2
   exact ⟨o,e,ex.2.1⟩
  .obtain ⟨o,_,_,_,e,ex,_⟩:=I.hok p _ hk
   refine ⟨⟨o,e,ex.1⟩,λa e2 => ?_⟩
   cases e2
   exact ⟨o,e,ex.2.1⟩
 | _=>exact By ty
noncomputable def tBM (K:Af) (T:String) (r:V->List V->Hp->VK->Prop) (to:TE) (t:TA):TE:=λσ H Q=>to σ H λx H1=>tyV K T x H1/\t σ H1 λxs H2=>r x xs H2 Q
variable {o e:Expr} {es:List Expr} {to:TE} {t:TA} {name:Str} {apos cpos:Pos} {T id:String} {r:V->List V->Hp->VK->Prop}
theorem qcb (pa:PlainAttrs T) (slot:Slot T name id) (hty:typeOf (.builtin id)=pure (.type "method_descriptor")) (hm:MtR X id r) (ho:PE X o to) (ha:PA X (e :: es) t)
  (hbase:attributeBase o name X.env (eval o X.env)=eval o X.env:=by rfl)
  (hfew:((backTo cpos (starEach (e :: es) X.env)).all (λx => !x.1) && (backToKw cpos (keywordEach [] X.env)).all (λx=>x.1.isSome)
   && decide ((e :: es).length + ([]:List Keyword).length + (if ([]:List Keyword).isEmpty then 0 else 1) < 30))=true:=by rfl)
  (hline:(apos.endLine == cpos.line)=true:=by rfl) (hs:starEach (e :: es) X.env=(false,eval e X.env) :: starEach es X.env:=by rfl) (hplain:(backTo cpos (starEach es X.env)).any (·.1)=false:=by rfl) :
  PE X (.Call (.Attribute o name apos) (e :: es) [] cpos) (tBM X.K T r to t):=by
 intro pins s σ H Q I h
 refine wpAny_Call_method_late hbase hfew hline rfl (thn (ho pins s σ H _ I h) λv s1 hh9 => ?_)
 obtain ⟨x,H1,I1,r1,ty,q1⟩:=hh9
 obtain ⟨h1,h2⟩:=qyc I1 r1 ty
 refine ⟨T,id,pa,slot,hty,h1,h2,?_⟩
 have hA:=ha cpos pins s1 σ H1 _ I1 q1
 rw [hs] at hA |-
 refine Calls.callWith_builtin (by show (false || (backTo cpos (starEach es X.env)).any (·.1))=false; rw [hplain] <;> rfl) (Calls.evalArgs_plain ?_)
 exact thn hA λus s2 ⟨vs,H2,I2,r2,q2⟩=>hm pins s2 σ H2 x vs v us Q I2 r1 r2 q2
/- xs.append(e),list.index on a module's tuple .. are MtR facts of 06m -/
end
end L2
namespace L2
open PySem PySem.Spec PyProof.Rows
noncomputable def MtM (X:Cx) (id:String) (r:V->List V->Hp->VK->Prop):Prop :=
 ∀ (pins:List (Addr × Obj)) (s:Ah) (σ:St) (H:Hp) (x:V) (xs:List V) (v:Value) (us:List Value) (Q:VK),Inv X pins σ H s->RelV x v->Vals xs us->r x xs H Q ->
  wpAny (model X.prog X.w) X.A (call (.builtin id) (v :: us)) (EP X pins σ Q) X.xe s
theorem Vals.one {x:V} {us:List Value} (h:Vals [x] us):∃ u,us=[u]/\RelV x u:=by
 cases h with | cons r t=>cases t; exact ⟨_,rfl,r⟩
theorem Vals.two {x y:V} {us:List Value} (h:Vals [x,y] us):∃ u v,us=[u,v]/\RelV x u/\RelV y v:=by
 cases h with | cons r t=>cases t with | cons q t=>cases t; exact ⟨_,_,rfl,r,q⟩
section
variable {X:Cx} {pins:List (Addr × Obj)} {σ:St} {H:Hp} {s:Ah} {l b:Addr} {xs ys zs:List V}
theorem Inv.lset {its its':List Value} {n:Nat} {f:Array Value->Array Value} {t':Nat} (I:Inv X pins σ H s) (hH:H l=some (.lst xs))
  (e:s.heap.get? l=some { cls:=.type "list",data:=.seq its.toArray n }) (hf:f its.toArray=its'.toArray) (hv:Vals ys its') (hz:ys.length <= Ax) :
  Inv X pins σ (upd H l (.lst ys)) { s with heap:=s.heap.update l (Do f),toks:=t' }:=by
 have q:=PySem.IsL.update e f
 rw [hf] at q
 refine I.write (x:=l) (e:=l) (by rw [hH]; exact trivial) (.inl rfl) (λb' u hb hu=>(Bw s.heap (Do f) (AX hb)).trans hu) ⟨_,q⟩ ?_
 exact ⟨hz,its',_,hv,q⟩
theorem Inv.lnew {its:List Value} {t':Nat} (I:Inv X pins σ H s) (hv:Vals ys its) (hz:ys.length <= Ax) :
  Inv X pins σ (upd H s.heap.objs.size (.lst ys)) { s with heap:=s.heap.push { cls:=.type "list",data:=.seq its.toArray },toks:=t' } :=
 I.laid (λ_ _ q=>Am _ q) (Az _) ⟨hz,its,0,hv,A6 _ rfl⟩
theorem Inv.fresh (I:Inv X pins σ H s):H s.heap.objs.size=none:=I.hok.fresh (Az _)
theorem Inv.lstM (I:Inv X pins σ H s) (hH:H l=some (.lst xs)):xs.length <= Ax/\∃ (its:List Value) (n:Nat),Vals xs its/\xs.length=its.length/\s.heap.get? l=some { cls:=.type "list",data:=.seq its.toArray n }:=by
 obtain ⟨z,its,n,r,e⟩:=I.hok l _ hH
 exact ⟨z,its,n,r,r.length,e⟩
theorem qnq {n:Nat} (h:n <= Ax):AO.List.listTooLong n=false:=by
 unfold AO.List.listTooLong
 exact decide_eq_false (by lia)
end
section
variable {X:Cx}
noncomputable def qv2:V->List V->Hp->VK->Prop:=λx vs H Q=>∃ l xs y,x=.ref l/\vs=[y]/\H l=some (.lst xs)/\xs.length < Ax/\Q .non (upd H l (.lst (xs ++ [y])))
theorem qa0:MtM X "list.append" qv2:=by
 intro pins s σ H x vs v us Q I rx rv h
 obtain ⟨l,xs,y,rfl,rfl,hH,hz,q⟩:=h
 cases rx
 obtain ⟨u,rfl,ru⟩:=rv.one
 obtain ⟨z,its,n,r,hl,e⟩:=I.lstM hH
 refine D7 F.slot_list_append ⟨_,e,rfl⟩ F.entry_list_append (F.args_list_append_2 _ _) (PySem.list_append l its.toArray n u (by rw [Av]; lia)) ⟨e,?_⟩
 refine ⟨.non,_,I.lset (its':=its ++ [u]) hH e (by simp) (r.append (.cons ru .nil)) ?_,rfl,q⟩
 rw [Ai,B3]
 lia
noncomputable def rCat:R2:=λx y H Q=>∃ l b xs zs,x=.ref l/\y=.ref b/\H l=some (.lst xs)/\H b=some (.lst zs)/\xs.length + zs.length <= Ax/\∀ p,H p=none->Q (.ref p) (upd H p (.lst (xs ++ zs)))
theorem qde:OpR X (binaryOp .Add) rCat:=by
 intro pins s σ H x y v u Q I rx ry h
 obtain ⟨l,b,xs,zs,rfl,rfl,hH,hB,hz,q⟩:=h
 cases rx
 cases ry
 obtain ⟨z,its,n,r,hl,e⟩:=I.lstM hH
 obtain ⟨z2,its2,n2,r2,hl2,e2⟩:=I.lstM hB
 refine PySem.P.add_list e e2 ?_ (by rw [Av,Av]; lia)
 have ea:its.toArray ++ its2.toArray=(its ++ its2).toArray:=by simp
 rw [ea]
 exact ⟨.ref _,_,I.lnew (t':=s.toks) (r.append r2) (by rw [Ai]; lia),rfl,q _ I.fresh⟩
end
section
variable {prog:AM} {w:World} {A:AU} {E:Value->Ah->Prop} {s:Ah}
end
section
variable {X:Cx}
end
end L2
namespace Att
open PySem PySem.W PySem.Calls PyProof.Rows
theorem qja {P:Params} {h:Heap}:∀ (ns:List Int) (vs:List Value),WellAll P h vs (ns.map WData.int)->IntsAre vs ns:=by
 intro ns
 induction ns with
 | nil =>
  intro vs w
  rw [Bu] at w
  cases w
  exact .nil
 | cons n ns ih =>
  intro vs w
  rw [A4] at w
  cases w with
  | cons a b =>
   cases a
   exact .cons _ _ (ih _ b)
theorem qrw {l:OpenLaw} {n:Nat} (hn:l.most=some n) {P:Params} {h:Heap} {args:List WData} {qca:List Value}
  (hpre:l.row.toRowW.claim.pre args=true) (hwl:WellAll P h qca args) :
  ∃ a vs ns,qca=[Al a]/\args=[WData.list (ns.map WData.int)]/\h.get? a=some { cls:=.type "list",data:=.seq vs.toArray }/\IntsAre vs ns/\ns.length <= n:=by
 have hsh:WShape.hasAll [] args [.list .int]=true:=(pre_splitW hpre).1
 have hc:l.pre.holds [] { args:=args }=true:=(pre_splitW hpre).2
 obtain ⟨d,r,rfl,h1,h2⟩:=hasAllW_cons hsh
 obtain rfl:=hasAllW_nil h2
 obtain ⟨xs,rfl,h3⟩:=hasW_list h1
 obtain ⟨ns,rfl⟩:=items_int h3
 have hlen:ns.length <= n:=by
  unfold OpenLaw.pre at hc
  have h4:(WTm.not (.lt (.lit (.int (n:Int))) (.len (.arg 0)))).holds [] { args:=[.list (ns.map .int)] }=true:=by
   have h4:=(holds_andW hc).1
   rw [hn] at h4
   exact h4
  have h5:=condW_of h4 (w_not (w_lt w_lit (w_len_list (w_arg rfl))))
  rw [Ab] at h5
  refine Nat.le_of_not_lt λq => ?_
  have q':(n:Int) < ((ns.length:Nat):Int):=by lia
  first
   | (rw [decide_eq_true q'] at h5; exact absurd h5 (by decide))
   | (simp at h5; lia)
 cases hwl with
 | cons w1 w2 =>
  cases w2
  cases w1 with
  | list ho hall=>exact ⟨_,_,ns,rfl,rfl,ho,qja ns _ hall,hlen⟩
theorem qrx (l:OpenLaw) (args:List WData):l.row.toRowW.claim.post args (.bool true) args=true :=
 postW_of (r:=l.row.toRowW) (X:=(true == true))
  (show WShape.has [] (.bool true) .bool=true by first | rfl | decide | simp [WShape.has,WShape.arms,WShape.armsAll])
  (show (WTm.eq .res (.lit (.bool true))).value [] { args:=args,res:=some (.bool true),after:=args }=some (.bool (true == true)) from w_eq_bool (w_res rfl) w_lit) rfl
theorem attach_call {l:OpenLaw} {n:Nat} {q:AM} {loose:List Str} {XP:(Str->Option Value)->Heap->Prop} {YP:World->Heap->Prop} {d:DefRec}
  (hn:l.most=some n) (hdf:d.params.defaults=[])
  (call:∀ (w:World) (s₀ s₁:Ah) (mg mb:Str->Option Value) (fa:Addr) (o:Obj) (pm cd doc:Value) (a:Addr) (vs:List Value) (ns:List Int),
   Ground q loose [] XP w s₀ mg mb s₁.heap->YP w s₁.heap ->
   s₁.heap.get? fa=some o->o.data=.func (docDef d.name d.params d.body d.scope pm cd doc)->s₁.heap.CodeRec cd d.name->mg d.name=some (.ref fa) ->
   s₁.heap.get? a=some { cls:=.type "list",data:=.seq vs.toArray }->IntsAre vs ns->ns.length <= n->s₁.gens=#[] ->
   codeAny (model l.prog w) callerA (.call (.ref fa) ⟨[.ref a],[]⟩) (λr s'=>r=.ok (.ret (.bool true))/\OldK s₁.heap s'.heap/\s'.os=s₁.os/\DV s'.gens) s₁) :
  WalkO q loose XP YP l.row.toRowW d [] (λf vs=>PySem.call f vs):=by
 intro w s₀ s₁ mg mb G Y fa o pm cd doc dV kV ho hd hcd hD hmg hg args qca as hpre hlay hrd hwl hlo
 obtain rfl:dV=.none:=Dflts.none hD hdf
 obtain rfl:kV=.none:=Dflts.noKw hD
 obtain ⟨a,vs,ns,rfl,rfl,hobj,hints,hlen⟩:=qrw hn hpre hwl
 refine enter_call (CH (call w s₀ s₁ mg mb fa o pm cd doc a vs ns G Y ho (fd_plain hd) hcd hmg hobj hints hlen hg) λr s' hq => ?_)
 obtain ⟨rfl,h2,h3,h4⟩:=hq
 exact ⟨.inl ⟨.bool true,.bool true,[],rfl,λ_=>rfl,.bool true,qrx l _,λ_=>⟨List.Pairwise.nil,λ_ hm=>(nomatch hm)⟩⟩,h2,h3,h4⟩
section
variable {prog:AM} {w:World} {A:AU} {E:Value->Ah->Prop} {s:Ah} {K:Frag}
noncomputable def ledger (h:Heap) (L d:Addr):List (Addr × Obj):=(Ba h.objs.size).filterMap λa=>if a=L \/ a=d then none else (h.get? a).map λo=>(a,o)
end
end Att
namespace L2
open PySem PySem.Spec PyProof.Rows
theorem qlt:∀ {vs:List Value} {ns:List Int},IntsAre vs ns->Vals (ns.map V.int) vs
 | _,_,.nil=>.nil
 | _,_,.cons n t h=>.cons ⟨t,rfl⟩ (qlt h)
noncomputable def qyd (H:Hp):Prop:=∀ b,H b=none \/ ∃ o xs,H b=some (.frz o (.lst xs))
theorem qtn {P:AM} {w:World} {K:Af} {mg mb:Str->Option Value} {CX:CXT} {k:Nat} {fa a:Addr} {fd:AB} {x:Str} {sp:Sp} {s₁:Ah} {vs:List Value} {ns:List Int}
  (KX:K.In s₁.heap) (hns:s₁.heap.Ns A7 mg) (hb:s₁.heap.Ns builtinsNs mb) (hbb:∀ x:Str,x ≠ "__name__" -> mb x=bootBuiltins x) (hlim:s₁.heap.NoLimit) (hg:s₁.gens=#[])
  (ha:s₁.heap.get? a=some { cls:=.type "list",data:=.seq vs.toArray }) (hi:IntsAre vs ns) (hl:ns.length <= Ax) (hr:Room k callerA)
  (F:∀ base:Heap,K.In base->base.Ns A7 mg->FnOk P w K mg base CX k fa fd [x] sp) (hbind:∀ (s:Ah) (u:Value),BindsTo s fd ⟨[u],[]⟩ [(x,u)])
  (hsp:∀ H:Hp,qyd H->SqL K H a (ns.map V.int)->sp [.ref a] H (λv _=>v=.bl true) λ_ _ _=>False)
  (hCX:∀ H e s',CX [] H s₁ (λ_ _ _=>False) e s'->False) :
  codeAny (model P w) callerA (.call (.ref fa) ⟨[.ref a],[]⟩) (λr s'=>r=.ok (.ret (.bool true))/\OldK s₁.heap s'.heap/\s'.os=s₁.os/\DV s'.gens) s₁:=by
 have rv:=qlt hi
 have lenV:=hi.length
 -- from an abstract heap in which nothing but the script may be tracked
 have core:∀ H:Hp,qyd H->SqL K H a (ns.map V.int)->HOk P w H s₁.heap->(∀ b,H b ≠ none->b=a)->(H a ≠ none->K.lookup a=none) ->
   codeAny (model P w) callerA (.call (.ref fa) ⟨[.ref a],[]⟩) (λr s'=>r=.ok (.ret (.bool true))/\OldK s₁.heap s'.heap/\s'.os=s₁.os/\DV s'.gens) s₁:=by
  intro H hO hS hok hA hK
  have base_of:∀ {b:Addr} {o:Obj},s₁.heap.get? b=some o->H b=none->(qmp s₁.heap H).get? b=some o:=λe n=>qs9 e n
  have noA:∀ {b:Addr} {o:Obj} {es:Array DictEntry} {ep:Nat},s₁.heap.get? b=some o->o.data=.dict es ep->H b=none:=λ{b o es ep} e d=>by
   cases q:H b with
   | none=>rfl
   | some u =>
    have e':b=a:=hA b (by rw [q]; simp)
    subst e'
    rw [ha] at e; cases e
    have d':Data.seq vs.toArray _=Data.dict es ep:=d
    cases d'
  have nsK:∀ {b:Addr} {m:Str->Option Value},s₁.heap.Ns b m->(qmp s₁.heap H).Ns b m:=λ{b m} ⟨o,es,ep,e,d,r⟩=>⟨o,es,ep,base_of e (noA e d),d,r⟩
  have hKb:K.In (qmp s₁.heap H):=λb o e=>base_of (KX b o e) (by
   cases q:H b with
   | none=>rfl
   | some u =>
    have e':b=a:=hA b (by rw [q]; simp)
    subst e'
    rw [hK (by rw [q]; simp)] at e; cases e)
  have hM:Mod K mg (qmp s₁.heap H):=⟨hKb,nsK hns,⟨mb,nsK hb,hbb⟩,let ⟨mc,h1,h2⟩:=hlim; ⟨mc,nsK h1,h2⟩⟩
  have e0:Env0 P w K mg (qmp s₁.heap H) callerA [] s₁ H:=⟨rfl,hM,λb o e=>qvr e,BS (qrp _ _),trivial,λb hb=>absurd (show b ∈ ([]:List Addr) from hb) (by simp),hok,.of_eq hg⟩
  refine CH ((F _ hKb (nsK hns)).run callerA [] s₁ H ⟨[.ref a],[]⟩ [.ref a] [.ref a] _ _ hr e0 (hbind s₁ (.ref a)) (.cons rfl .nil) (hsp H hO hS)) λr s' h => ?_
  cases r with
  | error e=>exact (hCX H e s' h).elim
  | ok fl =>
   cases fl with
   | next=>exact By h
   | brk=>exact By h
   | cont=>exact By h
   | ret u =>
    obtain ⟨v,H',os,bare,un,hok',r',q⟩:=h
    have q':v=.bl true:=q
    subst q'
    obtain rfl:u=DZ true:=r'
    refine ⟨rfl,OldK.of_keep λb o e => ?_,os,bare⟩
    cases q:H b with
    | none=>exact un.keep b o e q (by intro z; exact absurd (show b ∈ ([]:List Addr) from z) (by simp)) (by simp)
    | some u =>
     rcases hO b with z | ⟨ob,xs,z⟩
     .rw [q] at z; cases z
     .have z2:=un.frzs b ob _ z
      obtain ⟨e1,_⟩:=hok b _ z
      obtain ⟨e2,_⟩:=hok' b _ z2
      rw [e] at e1; cases e1
      exact e2
 cases hk:K.lookup a with
 | some o =>
  -- the script is one of the module's own objects
  have e:=KX a o hk
  rw [ha] at e
  cases e
  refine core (λ_=>none) (λ_=>.inl rfl) (.inr ⟨_,vs.toArray,_,hk,rfl,rfl,rfl,by rw [Av,lenV]; exact hl,by simpa using rv⟩) (λb u z=>by have z':(none:Option HO)=some u:=z; cases z') (λb z=>absurd rfl z) λz=>absurd rfl z
 | none =>
  refine core (λb=>if b=a then some (.frz { cls:=.type "list",data:=.seq vs.toArray } (.lst (ns.map V.int))) else none) (λb => ?_) (.inl (.inr ⟨{ cls:=.type "list",data:=.seq vs.toArray },if_pos rfl⟩)) (λb u z => ?_) (λb z => ?_) λ_=>hk
  .by_cases hb:b=a
   .exact .inr ⟨_,_,if_pos hb⟩
   .exact .inl (if_neg hb)
  .by_cases hb:b=a
   .have z':=(if_pos hb).symm.trans z
    cases z'
    subst hb
    exact ⟨ha,by rw [Ab]; exact hl,vs,_,rv,ha⟩
   .have z':=(if_neg hb).symm.trans z
    cases z'
  .by_cases hb:b=a
   .exact hb
   .exact absurd (if_neg hb) z
end L2
namespace L2
open PySem PySem.Spec PyProof.Rows
noncomputable abbrev KOf {K:Af} {h:Heap} (_:K.In h):Af:=K
theorem walk_of {l:PySem.W.OpenLaw} {n k:Nat} {q:AM} {loose:List Str} {XP:(Str->Option Value)->Heap->Prop} {YP:World->Heap->Prop} {d:DefRec} {K:Params->Af} {CX:World->CXT} {sp:World->Sp} {x:Str}
  (hn:l.most=some n) (hn2:n <= Ax) (hdf:d.params.defaults=[]) (hr:Room k callerA)
  (hY:∀ (w:World) (h:Heap),YP w h->(K w.params).In h)
  (F:∀ (w:World) (mg:Str->Option Value) (fa:Addr) (h:Heap),(K w.params).In h->h.Ns A7 mg->mg d.name=some (.ref fa) ->
   ∃ fd:AB,(∀ (s:Ah) (u:Value),BindsTo s fd ⟨[u],[]⟩ [(x,u)]) /\
    ∀ base:Heap,(K w.params).In base->base.Ns A7 mg->FnOk l.prog w (K w.params) mg base (CX w) k fa fd [x] (sp w))
  (hsp:∀ (w:World) (H:Hp) (a:Addr) (ns:List Int),ns.length <= n->qyd H->SqL (K w.params) H a (ns.map V.int)->sp w [.ref a] H (λv _=>v=.bl true) λ_ _ _=>False)
  (hCX:∀ (w:World) (H:Hp) (s:Ah) (e:Value) (s':Ah),CX w [] H s (λ_ _ _=>False) e s'->False) :
  PySem.W.WalkO q loose XP YP l.row.toRowW d [] (λf vs=>PySem.call f vs):=by
 refine Att.attach_call hn hdf λw s₀ s₁ mg mb fa o pm cd doc a vs ns G Y ho hd hcd hmg hobj hints hlen hg => ?_
 have KX:=hY w _ Y
 obtain ⟨fd,hb,hF⟩:=F w mg fa _ KX G.T.g hmg
 exact qtn KX G.T.g G.T.b G.T.builtins G.T.nolimit hg hobj hints (A1 hlen hn2) hr hF hb (λH hO hS=>hsp w H a ns hlen hO hS) λH e s'=>hCX w H s₁ e s'
end L2
/- THE LAST THEOREM (shape; LID,My.* are yours):
   My.Adr: a structure of the addresses that your layer names (classes,functions); My.Txt K t: a structure (Prop) of the equations over K;
   My.txt_mk:{K} {implicit addresses ..} (e1:nsIn K A7 "law" = some (some (.ref f))) (e2:K.lookup f=some ⟨oc,od,.func (fnOf "law" "law" params body scope dV kV doc pm an cdv ct),sl⟩) (e3:codeIn K cdv "law" = true) .. : ∃ t,My.Txt K t
set_option maxRecDepth 100000 in
set_option maxHeartbeats 0 in
theorem PySem.Challenge.cw_LID_holds : PySem.Challenge.rw_LID.Holds := by
 w_on; o_law; k_head; (case hw=>w_witness2)
 k_fill
 refine L2.walk_of (l:=PySem.Challenge.rw_LID) (n:=63) (k:=40) (x := "script") (CX:=λw=>..) (sp:=λ_=>My.sp_law) rfl (by decide) rfl ⟨rfl,by decide,by decide⟩ (λw h Y=>PySem.W.kIn_of Y) ?F ?S ?C
 case F =>
  intro w mg fa h KX G hmg
  have T:∃ t,My.Txt (L2.KOf KX) t:=by
   dsimp only [L2.KOf]                          -- K must stand as «<heap const> w.params» for k_is
   refine' My.txt_mk ?e1 ?e2 ?e3 ..
   (case e1=>PySem.W.k_is)                    -- in the order: a name -> its address -> its object -> its parts
   (case e2=>PySem.W.k_is)
   ..
  obtain ⟨t,T⟩:=T
  have e0:=hmg.symm.trans (AT KX G T.law)
  cases e0                                       -- fa is the law's own address
  exact ⟨_,λs u=>.of_eq rfl,λbase kb nb=>My.law_fn T kb nb⟩     -- if «.of_eq rfl» comes too early: refine' ⟨_,?b,λbase kb nb=>My.law_fn T kb nb⟩; exact λs u=>.of_eq rfl
 case S=>exact λw H a ns hl hO hS=>..
 case C=>exact ..
(the tactic k_is has no namespace: write k_is) -/
namespace L2
open PySem PySem.Spec PyProof.Rows
noncomputable def qd6 (s:Stmt) (j:Nat):Stmt:=match s with
 | .ClassDef _ _ _ body _ _ _ _ _ _ _=>body.getD j (.Pass ⟨0,0,0,0⟩)
 | _=>.Pass ⟨0,0,0,0⟩
noncomputable def qbw (s:Stmt):Arguments:=match s with
 | .FunctionDef _ a _ _ _ _ _ _ _ _=>a
 | _=>{ posonlyargs:=[],args:=[],vararg:=none,kwonlyargs:=[],kw_defaults:=[],kwarg:=none,defaults:=[] }
noncomputable def qbm (s:Stmt):List Stmt:=match s with
 | .FunctionDef _ _ b _ _ _ _ _ _ _=>b
 | _=>[]
noncomputable def qab (s:Stmt):Scope:=match s with
 | .FunctionDef _ _ _ _ _ _ sc _ _ _=>sc
 | _=>{ kind:=.function,names:=[],isGenerator:=false,isCoroutine:=false }
noncomputable abbrev CX0:CXT:=λ_ _ _ _ _ _=>False
noncomputable abbrev E0:XK:=λ_ _ _=>False
theorem qau {X:Cx}:qfu CX0 X E0:=λ_ _ _ _ _ _ _ h=>h.elim
structure Fun (K:Af) (x qual:Str) (st:Stmt) (f:Addr) (fd:AB):Prop where
 ex:∃ (oc:Value) (od:Option Addr) (kV doc pm:Value) (an:Option Addr) (cdv ct:Value) (osl:Array (Option Value)),
  fd=Bt x qual (qbw st) (qbm st) (qab st) .none kV doc pm an cdv ct/\K.lookup f=some ⟨oc,od,.func fd,osl⟩/\BR K cdv qual=true
 kp:Bg K (.ref f)=true
section
variable {P:AM} {w:World} {K:Af} {mg:Str->Option Value} {base:Heap}
theorem Fun.ok {x qual:Str} {st:Stmt} {f:Addr} {fd:AB} {N ps:List Str} {k:Nat} {sp:Sp} (F:Fun K x qual st f fd) (S:FnScope N ps (qab st)) (len:∀ vs H Q E,sp vs H Q E->vs.length=ps.length)
  (hbody:∀ (cdv:Value) (A:AU) (outer:List Env) (s:Ah) (H:Hp) (vs:List V) (Q:VK) (E:XK),Room k (A.deeper (envOfC qual (qab st) s.heap.objs.size f cdv))->sp vs H Q E ->
   ∃ t,PSs (qms CX0 P w K mg base N qual (qab st) f cdv A outer s H E).nox (qbm st) t/\t { nx:=λ_ H'=>Q .non H',rt:=Q } (qfq N vs) H):FnOk P w K mg base CX0 (k + 1) f fd ps sp:=by
 obtain ⟨oc,od,kV,doc,pm,an,cdv,ct,osl,rfl,lk,hcd⟩:=F.ex
 refine qtj lk hcd S len λA outer s H vs Q E hr hsp => ?_
 obtain ⟨t,h,q⟩:=hbody cdv A outer s H vs Q E hr hsp
 exact ⟨t,h.nox,q⟩
theorem Fun.binds {x qual:Str} {st:Stmt} {f:Addr} {fd:AB} {ps:List Str} (F:Fun K x qual st f fd)
  (h:∀ (kV doc pm:Value) (an:Option Addr) (cdv ct:Value) (us:List Value),us.length=ps.length->bindArgs (Bt x qual (qbw st) (qbm st) (qab st) .none kV doc pm an cdv ct) ⟨us,[]⟩=pure (ps.zip us)):Binds K fd ps []:=by
 obtain ⟨oc,od,kV,doc,pm,an,cdv,ct,osl,rfl,lk,hcd⟩:=F.ex
 exact .all (h kV doc pm an cdv ct)
theorem qo8 {x qual:Str} {st:Stmt} {f:Addr} {oc:Value} {od an:Option Addr} {osl:Array (Option Value)} {kV doc pm cdv ct:Value} (l:K.lookup f=some ⟨oc,od,.func (Bt x qual (qbw st) (qbm st) (qab st) .none kV doc pm an cdv ct),osl⟩)
  (c:BR K cdv qual=true) (k:Bg K (.ref f)=true):Fun K x qual st f (Bt x qual (qbw st) (qbm st) (qab st) .none kV doc pm an cdv ct):=⟨⟨oc,od,kV,doc,pm,an,cdv,ct,osl,rfl,l,c⟩,k⟩
end
theorem qfw {A:AU} {k:Nat} (hr:Room k A):A.units + 1 < cLine:=Nat.lt_of_le_of_lt (Nat.add_le_add_left (by decide:1 <= 64) _) hr.units
section
variable {X:Cx}
theorem pv (i:Nat) {x:Str} {pos:Pos} (hN:X.N[i]?=some x:=by rfl) (hv:Vis X.env.scope x:=by first | exact Aw rfl | exact Cq (Aw rfl) | exact Cq (Cq rfl)) (hd:(x == ("__debug__" : Str))=false:=by decide)
  (hcd:(x == ("__classdict__" : Str))=false:=by decide):PE X (.Name x pos) (tVar i):=qx4 hN hv hd hcd
end
theorem qbo {A B:Prop} (h:B):if false=true then A else B:=by
 rw [if_neg AA]
 exact h
theorem qct {A B:Prop} (h:A):if true=true then A else B:=by
 rw [if_pos rfl]
 exact h
theorem qb4 {c A B:Prop} [Decidable c] (h1:c->A) (h2:¬ c->B):if c then A else B:=by
 by_cases h:c
 .rw [if_pos h]
  exact h1 h
 .rw [if_neg h]
  exact h2 h
noncomputable def Same (H H':Hp):Prop:=∀ b o,H b=some o->H' b=some o
theorem Same.refl (H:Hp):Same H H:=λ_ _ h=>h
theorem Same.trans {H H1 H2:Hp} (a:Same H H1) (b:Same H1 H2):Same H H2:=λc o h=>b c o (a c o h)
theorem Same.free {H H':Hp} (e:Same H H') {l:Addr} (h:H' l=Option.none):H l=Option.none:=by
 cases q:H l with
 | none=>rfl
 | some o =>
  rw [e l o q] at h
  cases h
theorem Same.seq {K:Af} {H H':Hp} {a:Addr} {xs:List V} (e:Same H H') (h:SqL K H a xs):SqL K H' a xs:=by
 rcases h with (h | ⟨o,h⟩) | h
 .exact .inl (.inl (e _ _ h))
 .exact .inl (.inr ⟨o,e _ _ h⟩)
 .exact .inr h
end L2
namespace L2
open PySem PySem.Spec PyProof.Rows
section
variable {κ:Type} [DecidableEq κ]
noncomputable def qdn (kvs:List (κ × V)) (k:κ):Option V:=(kvs.find? λkv=>decide (kv.1=k)).map (·.2)
noncomputable def qfe (kvs:List (κ × V)) (k:κ) (v:V):List (κ × V) :=
 if (kvs.any λkv=>decide (kv.1=k))=true then kvs.map (λkv=>if kv.1=k then (kv.1,v) else kv) else kvs ++ [(k,v)]
theorem qcg {p:κ × V} {r:List (κ × V)} {k:κ} (e:p.1=k):qdn (p :: r) k=some p.2:=by simp [qdn,CN,e]
theorem qch {p:κ × V} {r:List (κ × V)} {k:κ} (e:¬ p.1=k):qdn (p :: r) k=qdn r k:=by simp [qdn,CN,e]
theorem qfx (k:κ):∀ kvs:List (κ × V),(kvs.any λkv=>decide (kv.1=k))=(qdn kvs k).isSome
 | []=>rfl
 | p :: r=>by
  rw [Dk]
  by_cases e:p.1=k
  .simp only [qcg e,decide_eq_true e,Bool.true_or,Option.isSome_some]
  .rw [qch e,decide_eq_false e,Bool.false_or]; exact qfx k r
theorem qnr (k j:κ) (y:V):∀ kvs:List (κ × V),qdn (kvs.map λkv=>if kv.1=k then (kv.1,y) else kv) j=(qdn kvs j).map λx=>if j=k then y else x
 | []=>rfl
 | p :: r=>by
  have ih:=qnr k j y r
  rw [A4]
  by_cases h:p.1=k
  .rw [if_pos h]
   by_cases e:p.1=j
   .rw [qcg (p:=(p.1,y)) e,qcg e,CO,if_pos (e.symm.trans h)]
   .rw [qch (p:=(p.1,y)) e,qch e,ih]
  .rw [if_neg h]
   by_cases e:p.1=j
   .rw [qcg (p:=p) e,qcg e,CO,if_neg (λz=>h (e.trans z))]
   .rw [qch (p:=p) e,qch e,ih]
theorem qlu (k j:κ) (y:V):∀ kvs:List (κ × V),qdn kvs k=none->qdn (kvs ++ [(k,y)]) j=if j=k then some y else qdn kvs j
 | [],_=>by
  by_cases e:k=j
  .rw [if_pos e.symm]; exact qcg (p:=(k,y)) e
  .rw [if_neg (λz=>e z.symm)]; exact qch (p:=(k,y)) e
 | p :: r,hn=>by
  rw [AR]
  have hk:¬ p.1=k:=λz=>by rw [qcg z] at hn; cases hn
  rw [qch hk] at hn
  have ih:=qlu k j y r hn
  by_cases e:p.1=j
  .rw [qcg e,qcg e,if_neg (λz=>hk (e.trans z))]
  .rw [qch e,qch e,ih]
theorem qto (kvs:List (κ × V)) (k j:κ) (y:V):qdn (qfe kvs k y) j=if j=k then some y else qdn kvs j:=by
 unfold qfe
 by_cases a:(kvs.any λkv=>decide (kv.1=k))=true
 .rw [if_pos a,qnr]
  rw [qfx] at a
  by_cases e:j=k
  .obtain ⟨x,hx⟩:=C5.mp a
   rw [if_pos e,e,hx,CO,if_pos rfl]
  .rw [if_neg e]
   cases qdn kvs j with
   | none=>rfl
   | some x=>rw [CO,if_neg e]
 .rw [if_neg a]
  refine qlu k j y kvs ?_
  rw [qfx] at a
  cases q:qdn kvs k with
  | none=>rfl
  | some x=>rw [q] at a; exact (a rfl).elim
theorem qfy (kvs:List (κ × V)) (k:κ) (v:V):(qfe kvs k v).length <= kvs.length + 1:=by
 unfold qfe
 split
 .rw [Ab]; lia
 .rw [Ai,An,Cg]; lia
theorem qju {kvs:List (κ × V)} {k:κ} (v:V) (h:qdn kvs k=none):qfe kvs k v=kvs ++ [(k,v)]:=by
 unfold qfe
 rw [qfx,h]
 exact if_neg (by decide)
theorem RelO.isSome_eq {o:Option V} {u:Option Value} (r:RelO o u):o.isSome=u.isSome:=by
 cases o with
 | none=>cases u with
  | none=>rfl
  | some _=>exact (show False from r).elim
 | some _=>cases u with
  | none=>exact (show False from r).elim
  | some _=>rfl
theorem KV.val {kvs:List (κ × V)} {vs:List (κ × Value)} (r:KV kvs vs) (k:κ):RelO (qdn kvs k) (valueAt vs k):=by
 unfold KV at r
 induction r with
 | nil=>exact C4
 | @cons p q ps qs h t ih =>
  obtain ⟨h1,h2⟩:=h
  by_cases e:p.1=k
  .have e':q.1=k:=h1.symm.trans e
   have b:valueAt (q :: qs) k=some q.2:=by simp [valueAt,CN,e']
   rw [qcg e,b]; exact h2
  .have e':¬ q.1=k:=λz=>e (h1.trans z)
   have b:valueAt (q :: qs) k=valueAt qs k:=by simp [valueAt,CN,e']
   rw [qch e,b]; exact ih
theorem KV.any {kvs:List (κ × V)} {vs:List (κ × Value)} (r:KV kvs vs) (k:κ):(kvs.any λkv=>decide (kv.1=k))=vs.any λkv=>decide (kv.1=k):=by
 unfold KV at r
 induction r with
 | nil=>rfl
 | cons h t ih=>rw [Dk,Dk,ih,h.1]
theorem KV.repl {kvs:List (κ × V)} {vs:List (κ × Value)} (r:KV kvs vs) (k:κ) {y:V} {u:Value} (ry:RelV y u) :
  KV (kvs.map λkv=>if kv.1=k then (kv.1,y) else kv) (vs.map λkv=>if kv.1=k then (kv.1,u) else kv):=by
 unfold KV at r |-
 induction r with
 | nil=>exact .nil
 | @cons p q ps qs h t ih =>
  rw [A4,A4]
  refine .cons ?_ ih
  obtain ⟨h1,h2⟩:=h
  by_cases e:p.1=k
  .rw [if_pos e,if_pos (h1.symm.trans e)]; exact ⟨h1,ry⟩
  .rw [if_neg e,if_neg (λz=>e (h1.trans z))]; exact ⟨h1,h2⟩
theorem KV.put {kvs:List (κ × V)} {vs:List (κ × Value)} (r:KV kvs vs) (k:κ) {y:V} {u:Value} (ry:RelV y u):KV (qfe kvs k y) (stored vs k u):=by
 unfold qfe stored
 rw [r.any k]
 by_cases e:(vs.any λkv=>decide (kv.1=k))=true
 .rw [if_pos e,if_pos e]; exact r.repl k ry
 .rw [if_neg e,if_neg e]; exact Dm.snoc r ⟨rfl,ry⟩
theorem KV.keys {kvs:List (κ × V)} {vs:List (κ × Value)} (r:KV kvs vs):kvs.map (·.1)=vs.map (·.1):=by
 unfold KV at r
 induction r with
 | nil=>rfl
 | cons h t ih=>rw [A4,A4,ih,h.1]
theorem KV.length {kvs:List (κ × V)} {vs:List (κ × Value)} (r:KV kvs vs):kvs.length=vs.length:=Dm.length r
end
theorem qns {P:AM} {w:World} {k:Key} {u:Value} (r:RelV (kV k) u):(qbv P w).is k u=true:=by
 cases k with
 | inl i=>obtain ⟨t,e⟩:=(show ∃ t,u=Value.int i t from r); subst e; exact qni P w i t
 | inr x=>obtain ⟨t,e⟩:=(show ∃ t,u=Value.str x t from r); subst e; exact qnj P w x t
theorem qlv {P:AM} {w:World}:∀ {ks:List Key} {us:List Value},Vals (ks.map kV) us->ItemsAre (qbv P w) ks us
 | [],_,r=>by rw [Bu] at r; cases r; exact .nil
 | k :: ks,_,r=>by
  rw [A4] at r
  cases r with
  | cons h t=>exact .cons (qns h) (qlv t)
noncomputable abbrev KT (H:Hp):List (List Key × V)->List (List Key × Addr × Value)->Prop:=Dm λp q=>p.1=q.1/\H q.2.1=some (.tup (p.1.map kV))/\RelV p.2 q.2.2
theorem KT.val {H:Hp} {kvs:List (List Key × V)} {xs:List (List Key × Addr × Value)} (r:KT H kvs xs) (k:List Key):RelO (qdn kvs k) ((atKey xs k).map (·.2)):=by
 induction r with
 | nil=>exact C4
 | @cons p q ps qs h t ih =>
  obtain ⟨h1,_,h2⟩:=h
  by_cases e:p.1=k
  .have e':q.1=k:=h1.symm.trans e
   have b:atKey (q :: qs) k=some q.2:=by simp [atKey,CN,e']
   rw [qcg e,b]; exact h2
  .have e':¬ q.1=k:=λz=>e (h1.trans z)
   have b:atKey (q :: qs) k=atKey qs k:=by simp [atKey,CN,e']
   rw [qch e,b]; exact ih
theorem KT.repl {H:Hp} {kvs:List (List Key × V)} {xs:List (List Key × Addr × Value)} (r:KT H kvs xs) (k:List Key) {y:V} {u:Value} (ry:RelV y u) :
  KT H (kvs.map λkv=>if kv.1=k then (kv.1,y) else kv) (xs.map (putAt k u)):=by
 induction r with
 | nil=>exact .nil
 | @cons p q ps qs h t ih =>
  rw [A4,A4]
  refine .cons ?_ ih
  obtain ⟨h1,h2,h3⟩:=h
  unfold putAt
  by_cases e:p.1=k
  .rw [if_pos e,if_pos (h1.symm.trans e)]; exact ⟨h1,h2,ry⟩
  .rw [if_neg e,if_neg (λz=>e (h1.trans z))]; exact ⟨h1,h2,h3⟩
theorem KT.put {H:Hp} {kvs:List (List Key × V)} {xs:List (List Key × Addr × Value)} (r:KT H kvs xs) (k:List Key) {b:Addr} {y:V} {u:Value} (hb:H b=some (.tup (k.map kV))) (ry:RelV y u) :
  KT H (qfe kvs k y) (storedH xs k b u):=by
 have e:(kvs.any λkv=>decide (kv.1=k))=(atKey xs k).isSome:=by
  rw [qfx,(r.val k).isSome_eq,Eg]
 unfold qfe storedH
 rw [e]
 by_cases q:(atKey xs k).isSome=true
 .rw [if_pos q,if_pos q]; exact r.repl k ry
 .rw [if_neg q,if_neg q]; exact Dm.snoc r ⟨rfl,hb,ry⟩
theorem KT.keeps {H H':Hp} {kvs:List (List Key × V)} {xs:List (List Key × Addr × Value)} (r:KT H kvs xs) (ht:∀ b ys,H b=some (.tup ys)->H' b=some (.tup ys)):KT H' kvs xs :=
 Dm.mapP r λ_ _ z=>⟨z.1,ht _ _ z.2.1,z.2.2⟩
section
variable {P:AM} {w:World} {H:Hp} {h:Heap} {a:Addr}
theorem qxr {u:HO} (ok:HOk P w H h) (e:Rd H a u):ObjOk P w H h a u:=e.ok ok
theorem qnt {kvs:List (Key × V)} (ok:HOk P w H h) (e:Rd H a (.dK kvs)):kvs.length <= Ax/\(a == sysModules)=false/\∃ vs,KV kvs vs/\h.DictOf (qbv P w) a vs :=
 show ObjOk P w H h a (.dK kvs) from qxr ok e
theorem qqr {kvs:List (Key × V)} (ok:HOk P w H h) (e:H a=some (.dK kvs)):kvs.length <= Ax/\(a == sysModules)=false/\∃ vs,KV kvs vs/\h.DictOf (qbv P w) a vs:=qnt ok (.inl e)
theorem qjv {ks:List Key} (ok:HOk P w H h) (e:H a=some (.tup (ks.map kV))):(tupleKind (qbv P w)).is h ks a:=by
 obtain ⟨_,its,r,o,h1,h2,n,h3⟩:=(show ObjOk P w H h a (.tup (ks.map kV)) from ok a _ e)
 exact ⟨o,its.toArray,n,h1,h2,h3,by simpa using qlv r⟩
theorem qnu {kvs:List (List Key × V)} (ok:HOk P w H h) (e:Rd H a (.dT kvs)):kvs.length <= Ax/\(a == sysModules)=false /\
  ∃ xs,KT H kvs xs/\h.DictOfH (tupleKind (qbv P w)) a xs:=by
 obtain ⟨z,y,xs,r,o,es,ep,h1,h2,h3,h4,h5⟩:=(show ObjOk P w H h a (.dT kvs) from qxr ok e)
 refine ⟨z,y,xs,r,o,es,ep,h1,h2,h3,h4,λx hx => ?_,h5⟩
 have all:∀ {l:List (List Key × V)} {m:List (List Key × Addr × Value)},KT H l m->∀ x ∈ m,(tupleKind (qbv P w)).is h x.1 x.2.1:=by
  intro l m q
  induction q with
  | nil=>intro x hx; exact nomatch hx
  | @cons p q ps qs hq t ih =>
   intro x hx
   rcases Ao.mp hx with e | hx
   .subst e
    exact qjv ok (by rw [<- hq.1]; exact hq.2.1)
   .exact ih x hx
 exact all r x hx
theorem dt_of {kvs:List (List Key × V)} (ok:HOk P w H h) (e:H a=some (.dT kvs)):kvs.length <= Ax/\(a == sysModules)=false /\
  ∃ xs,KT H kvs xs/\h.DictOfH (tupleKind (qbv P w)) a xs:=qnu ok (.inl e)
end
noncomputable def DGet (H:Hp) (a:Addr) (y:V) (r:Option V):Prop :=
 (∃ kvs k,Rd H a (.dK kvs)/\y=kV k/\r=qdn kvs k) \/ ∃ kvs k b,Rd H a (.dT kvs)/\y=.ref b/\H b=some (.tup (k.map kV))/\r=qdn kvs k
noncomputable def DPut (H:Hp) (a:Addr) (y v:V) (H':Hp):Prop :=
 (∃ kvs k,H a=some (.dK kvs)/\y=kV k/\kvs.length < Ax/\H'=upd H a (.dK (qfe kvs k v))) \/
 ∃ kvs k b,H a=some (.dT kvs)/\y=.ref b/\H b=some (.tup (k.map kV))/\kvs.length < Ax/\H'=upd H a (.dT (qfe kvs k v))
theorem DGet.k {H:Hp} {a:Addr} {kvs:List (Key × V)} {k:Key} (e:H a=some (.dK kvs)):DGet H a (kV k) (qdn kvs k):=.inl ⟨kvs,k,.inl e,rfl,rfl⟩
theorem DPut.k {H:Hp} {a:Addr} {kvs:List (Key × V)} {k:Key} {v:V} (e:H a=some (.dK kvs)) (hl:kvs.length < Ax):DPut H a (kV k) v (upd H a (.dK (qfe kvs k v))):=.inl ⟨kvs,k,e,rfl,hl,rfl⟩
section
variable {X:Cx} {pins:List (Addr × Obj)} {σ:St} {H:Hp} {s:Ah} {a:Addr} {y v:V} {u r:Value} {o:Option V} {A:AU} {E:Value->Ah->Prop}
theorem Inv.big (I:Inv X pins σ H s):sysModules < s.heap.objs.size:=by
 have h:A7 < s.heap.objs.size:=(I.mod.glob.keeps I.bk).lt
 exact Nat.lt_trans (by decide) h
theorem qry {Q:Value->Ah->Prop} (hu:A.units + 1 < cLine) (I:Inv X pins σ H s) (g:DGet H a y (some v)) (ry:RelV y u) (h:∀ w' s',Inv X pins σ H s'->RelV v w'->Q w' s') :
  wpAny (model X.prog X.w) A (getItem (.ref a) u) Q E s:=by
 rcases g with ⟨kvs,k,e,ey,l⟩ | ⟨kvs,k,b,e,ey,eb,l⟩
 .subst ey
  obtain ⟨z,hd,vs,rel,dd⟩:=qnt I.hok e
  obtain ⟨w',hw,rw'⟩:=RelO.some_of (v:=v) (o:=valueAt vs k) (by rw [l]; exact rel.val k)
  exact wpAny_getItem_of (qns ry) dd.mapOf hw (h w' _ (I.tok _) rw')
 .subst ey
  cases (show u=Al b from ry)
  obtain ⟨z,hd,xs,rel,dd⟩:=qnu I.hok e
  obtain ⟨w',hw,rw'⟩:=RelO.some_of (v:=v) (o:=(atKey xs k).map (·.2)) (by rw [l]; exact rel.val k)
  obtain ⟨p,hp,hp2⟩:=Option.map_eq_some_iff.mp hw
  refine wpAny_getItem_heap (Dp hu) (qjv I.hok eb) dd hp ?_
  rw [hp2]
  exact h w' _ (I.tok _) rw'
theorem d_in {Q:Value->Ah->Prop} (hu:A.units + 1 < cLine) (I:Inv X pins σ H s) (g:DGet H a y o) (ry:RelV y u) (h:∀ s',Inv X pins σ H s'->Q (.bool o.isSome) s') :
  wpAny (model X.prog X.w) A (compareOp .In u (.ref a)) Q E s:=by
 rcases g with ⟨kvs,k,e,ey,l⟩ | ⟨kvs,k,b,e,ey,eb,l⟩
 .subst ey
  obtain ⟨z,hd,vs,rel,dd⟩:=qnt I.hok e
  refine wpAny_in_of (qns ry) hd dd.mapOf ?_
  rw [<- (rel.val k).isSome_eq,<- l]
  exact h _ (I.tok _)
 .subst ey
  cases (show u=Al b from ry)
  obtain ⟨z,hd,xs,rel,dd⟩:=qnu I.hok e
  refine wpAny_in_heap (Dp hu) (qjv I.hok eb) hd dd ?_
  have q:=(rel.val k).isSome_eq
  rw [Eg] at q
  rw [<- q,<- l]
  exact h _ (I.tok _)
theorem qv3 {Q:Value->Ah->Prop} (hu:A.units + 1 < cLine) (I:Inv X pins σ H s) (g:DGet H a y o) (ry:RelV y u) (h:∀ s',Inv X pins σ H s'->Q (.bool (!o.isSome)) s') :
  wpAny (model X.prog X.w) A (compareOp .NotIn u (.ref a)) Q E s:=by
 rcases g with ⟨kvs,k,e,ey,l⟩ | ⟨kvs,k,b,e,ey,eb,l⟩
 .subst ey
  obtain ⟨z,hd,vs,rel,dd⟩:=qnt I.hok e
  refine wpAny_notIn_of (qns ry) hd dd.mapOf ?_
  rw [<- (rel.val k).isSome_eq,<- l]
  exact h _ (I.tok _)
 .subst ey
  cases (show u=Al b from ry)
  obtain ⟨z,hd,xs,rel,dd⟩:=qnu I.hok e
  refine wpAny_notIn_heap (Dp hu) (qjv I.hok eb) hd dd ?_
  have q:=(rel.val k).isSome_eq
  rw [Eg] at q
  rw [<- q,<- l]
  exact h _ (I.tok _)
theorem qqs {h':Heap} {t':Nat} {ob:HO} (I:Inv X pins σ H s) (mu:Mut (H a)) (hs:Cl a s.heap h') (he:∃ q,h'.get? a=some q) (new:ObjOk X.prog X.w (upd H a ob) h' a ob) :
  Inv X pins σ (upd H a ob) { s with heap:=h',toks:=t' } :=
 I.write (x:=a) (e:=a) mu (.inl rfl) (λb q hb z=>(hs.2 b hb).trans z) he new
theorem qye {P:AM} {w:World} {H':Hp} {h':Heap} {kvs:List (Key × V)} {vs:List (Key × Value)} (z:kvs.length <= Ax) (hd:(a == sysModules)=false) (rel:KV kvs vs) (dd:h'.DictOf (qbv P w) a vs) :
  ObjOk P w H' h' a (.dK kvs):=⟨z,hd,vs,rel,dd⟩
theorem qrz {H':Hp} {Q:Unit->Ah->Prop} (hu:A.units + 1 < cLine) (I:Inv X pins σ H s) (g:DPut H a y v H') (ry:RelV y u) (rv:RelV v r) (h:∀ s',Inv X pins σ H' s'->Q () s') :
  wpAny (model X.prog X.w) A (setItem (.ref a) u r) Q E s:=by
 rcases g with ⟨kvs,k,e,ey,l,eH⟩ | ⟨kvs,k,b,e,ey,eb,l,eH⟩
 .subst ey eH
  obtain ⟨z,hd,vs,rel,dd⟩:=qqr I.hok e
  have hz:vs.length <= Ax:=by rw [<- rel.length]; exact z
  have hl:(qfe kvs k v).length <= Ax:=by have:=qfy kvs k v; lia
  refine wpAny_setItem_pairs (hsz:=hz) (qns ry) dd λh' dd' hs=>h _ ?_
  have he:∃ q,h'.get? a=some q:=let ⟨q,_,_,hq,_⟩:=dd'; ⟨q,hq⟩
  exact qqs I (by rw [e]; exact C4) hs he (qye hl hd (rel.put k rv) dd')
 .subst ey eH
  cases (show u=Al b from ry)
  obtain ⟨z,hd,xs,rel,dd⟩:=dt_of I.hok e
  have hz:xs.length <= Ax:=by rw [<- Dm.length rel]; exact z
  have hl:(qfe kvs k v).length <= Ax:=by have:=qfy kvs k v; lia
  refine wpAny_setItem_heap (hsz:=hz) (Dp hu) (qjv I.hok eb) dd λh' dd' hs=>h _ ?_
  obtain ⟨q,es,ep,hq,h2,h3,h4,_,h5⟩:=dd'
  refine qqs I (by rw [e]; exact C4) hs ⟨q,hq⟩ ⟨hl,hd,_,(rel.put k eb rv).keeps λc ys ec => ?_,q,es,ep,hq,h2,h3,h4,h5⟩
  rw [zf (ne_of ec e (λz=>nomatch z))]
  exact ec
end
section
variable {X:Cx} {pins:List (Addr × Obj)} {σ:St} {H:Hp} {s:Ah} {a:Addr} {kvs:List (Key × V)} {k:Key} {u:Value} {A:AU} {E:Value->Ah->Prop}
end
noncomputable def NoSl (i:Expr):Prop:=∀ ov iv,subscripted i false ov iv=operate [ov,iv] (getItem ov iv)
theorem qv4 {prog:AM} {w:World} {A:AU} {E:Value->Ah->Prop} {s:Ah} {env:Env} {value slice:Expr} {pos:Pos} {T id:String} {Q:Value->Ah->Prop}
  (hl:typeLookup (.type T) "__getitem__" = pure (some (.builtin id))) (hs:NoSl slice)
  (h:wpAny (model prog w) A (eval value env) (λo s₁=>wpAny (model prog w) A (eval slice env) (λi s₂=>s₂.TypeIs o T/\wpAny (model prog w) A (getItem o i) Q E s₂) E s₁) E s) :
  wpAny (model prog w) A (eval (.Subscript value slice pos) env) Q E s:=by
 refine Subscript_ (BL h (λo s₁ h₁=>BL h₁ (λi s₂ h₂ => ?_) λ_ _ x=>x) λ_ _ x=>x)
 obtain ⟨hT,h₂⟩:=h₂
 unfold subscriptTail
 refine Ad ?_
 rw [getitemInPython_of_ne hT.not_modules]
 refine Ad (wpAny_specialOf hT hl ?_)
 have fin:wpAny (model prog w) A (subscripted slice false o i) (λr s₃=>wpAny (model prog w) A (letTemporaryGo value o r >>= λ_=>pure r) Q E s₃) E s₂:=by
  rw [hs o i]
  exact wpAny_operating (BL h₂ (λr s₃ h₃=>Ad (wpAny_letTemporaryGo (Ay h₃))) λ_ _ x=>x)
 first
  | exact Ay (Ad fin)
  | exact Ad (Ay (Ad fin))
  | exact Ad fin
theorem qnv {X:Cx} {pins:List (Addr × Obj)} {σ:St} {H:Hp} {s:Ah} {a:Addr} {y:V} {o:Option V} (I:Inv X pins σ H s) (g:DGet H a y o):s.TypeIs (.ref a) "dict" := by
 rcases g with ⟨kvs,k,e,_,_⟩ | ⟨kvs,k,b,e,_,_,_⟩
 .obtain ⟨_,_,vs,_,dd⟩:=qnt I.hok e
  exact dd.typeIs
 .obtain ⟨_,_,xs,_,dd⟩:=qnu I.hok e
  exact dd.typeIs
noncomputable def tDGet (td ty:TE):TE:=λσ H Q=>td σ H λx H1=>ty σ H1 λy H2=>∃ a v,x=.ref a/\DGet H2 a y (some v)/\Q v H2
noncomputable def tDIn (ty td:TE):TE:=λσ H Q=>ty σ H λy H1=>td σ H1 λx H2=>∃ a o,x=.ref a/\DGet H2 a y o/\Q (.bl o.isSome) H2
noncomputable def qv5 (ty td:TE):TE:=λσ H Q=>ty σ H λy H1=>td σ H1 λx H2=>∃ a o,x=.ref a/\DGet H2 a y o/\Q (.bl (!o.isSome)) H2
noncomputable def sDPut (td ty tv:TE):TS:=λD σ H=>tv σ H λv H1=>td σ H1 λx H2=>ty σ H2 λy H3=>∃ a H4,x=.ref a/\DPut H3 a y v H4/\D.nx σ H4
section
variable {X:Cx} {o i e value:Expr} {pos pos' tpos:Pos} {td ty tv:TE}
theorem qji (hu:X.A.units + 1 < cLine) (ho:PE X o td) (hi:PE X i ty) (hs:NoSl i):PE X (.Subscript o i pos) (tDGet td ty):=by
 intro pins s σ H Q I h
 refine qv4 PySem.F.slot_dict_getitem.lookup hs (thn (ho pins s σ H _ I h) λu s1 ⟨x,H1,I1,rx,q1⟩=>thn (hi pins s1 σ H1 _ I1 q1) λiv s2 hh9 => ?_)
 obtain ⟨y,H2,I2,ry,a,v,ex,g,q2⟩:=hh9
 subst ex
 obtain rfl:u=Al a:=rx
 exact ⟨qnv I2 g,qry hu I2 g ry λw' s3 I3 rw'=>⟨v,H2,I3,rw',q2⟩⟩
theorem qyf (hu:X.A.units + 1 < cLine) (hi:PE X i ty) (ho:PE X o td):PC X .In i o (tDIn ty td):=by
 intro pins s σ H Q I h
 refine thn (hi pins s σ H _ I h) λiv s1 ⟨y,H1,I1,ry,q1⟩=>thn (ho pins s1 σ H1 _ I1 q1) λu s2 hh9 => ?_
 obtain ⟨x,H2,I2,rx,a,ov,ex,g,q2⟩:=hh9
 subst ex
 obtain rfl:u=Al a:=rx
 exact d_in hu I2 g ry λs3 I3=>⟨.bl ov.isSome,H2,I3,rfl,q2⟩
theorem qif (hu:X.A.units + 1 < cLine) (hi:PE X i ty) (ho:PE X o td):PC X .NotIn i o (qv5 ty td):=by
 intro pins s σ H Q I h
 refine thn (hi pins s σ H _ I h) λiv s1 ⟨y,H1,I1,ry,q1⟩=>thn (ho pins s1 σ H1 _ I1 q1) λu s2 hh9 => ?_
 obtain ⟨x,H2,I2,rx,a,ov,ex,g,q2⟩:=hh9
 subst ex
 obtain rfl:u=Al a:=rx
 exact qv3 hu I2 g ry λs3 I3=>⟨.bl (!ov.isSome),H2,I3,rfl,q2⟩
theorem qmv (hu:X.A.units + 1 < cLine) (ho:PE X o td) (hi:PE X i ty) (hv:PE X value tv) (hs:swapsWith value (some (.Subscript o i pos')) pos.line X.env=pure false) :
  PS X (.Assign [.Subscript o i pos'] value pos) (sDPut td ty tv):=by
 intro pins s σ H D I h
 refine wpAny_Assign_Subscript (thn (hv pins s σ H _ I h) λr s1 ⟨v,H1,I1,rv,q1⟩=>thn (ho pins s1 σ H1 _ I1 q1) λu s2 ⟨x,H2,I2,rx,q2⟩=>thn (hi pins s2 σ H2 _ I2 q2) λiv s3 hh9 => ?_) hs
 obtain ⟨y,H3,I3,ry,a,H4,ex,g,q3⟩:=hh9
 subst ex
 obtain rfl:u=Al a:=rx
 exact qrz hu I3 g ry rv λs4 I4=>⟨σ,H4,I4,q3⟩
end
theorem qtp {P:AM} {w:World} {H:Hp} (h:Heap) (hb:sysModules < h.objs.size):ObjOk P w H (h.push { cls:=.type "dict",data:=.dict #[] }) h.objs.size (.dK []) :=
 ⟨B0 _,beq_eq_false_iff_ne.mpr (AX (AJ hb)),[],.nil,Heap.DictOf.new h⟩
noncomputable def qyg:TE:=λ_ H Q=>∀ p,H p=none->Q (.ref p) (upd H p (.dK []))
section
variable {X:Cx} {pos:Pos}
theorem qjw:PE X (.Dict [] [] pos) qyg:=λpins s σ H Q I h =>
 wpAny_Dict_empty ⟨.ref s.heap.objs.size,_,I.laid (a:=s.heap.objs.size) (o:=.dK []) (t':=s.toks) (λ_ _ q=>Am _ q) (Az _) (qtp s.heap I.big),rfl,h _ (I.hok.fresh (Az _))⟩
end
section
variable {X:Cx} {pins:List (Addr × Obj)} {σ:St} {H:Hp} {s:Ah} {a:Addr} {y d:V} {u r:Value} {o:Option V} {A:AU} {E:Value->Ah->Prop}
end
section
variable {X:Cx} {o e f:Expr} {apos cpos:Pos} {td ty tx:TE}
end
section
variable {X:Cx} {pins:List (Addr × Obj)} {σ:St} {H:Hp} {s:Ah} {a:Addr} {kvs:List (Key × V)} {A:AU} {E:Value->Ah->Prop}
end
section
variable {X:Cx} {pins:List (Addr × Obj)} {σ:St} {H:Hp} {s:Ah} {a:Addr} {y:V} {u:Value} {A:AU} {E:Value->Ah->Prop}
end
end L2
namespace L2
open PySem PySem.Spec PyProof.Rows
section
variable {κ:Type} [DecidableEq κ]
end
end L2
namespace Add
open PySem PySem.Spec PyProof.Rows L2
theorem pos {j:Int} (h:0 < j):0 < j:=h
theorem qo9 {i j:Int} (h : -1000000 < i) (h':i < 1000000):CMul i j:=.inl ⟨by lia,by lia⟩
section
variable {K:Af}
theorem qfz:B6 K (.type "int") (.type "int")=some true:=by kernel_rfl
theorem qhl:B6 K (.type "int") (.type "bool")=some false:=by kernel_rfl
end
section
variable {X:Cx}
theorem qf0:qej X (.builtin "isinstance") (λxs H Q=>∃ x t c b,xs=[x,.ty c]/\TyOf X.K H x t/\B6 X.K t (.type c)=some b/\Q (.bl b) H):=by
 intro pins s σ H xs us Q I r h
 obtain ⟨x,t,c,b,rfl,ty,e,q⟩:=h
 obtain ⟨u,u',rfl,r1,r2⟩:=Vals.two r
 cases (show u'=BO c from r2)
 exact qru I r1 ty e λtk=>⟨.bl b,H,I.tok tk,rfl,q⟩
noncomputable def qjb:List V->List V->Bool
 | [],[]=>true
 | x :: xs,y :: ys=>eqV x y && qjb xs ys
 | _,_=>false
noncomputable def eAt (xs ys:List V) (j:Nat):Bool:=match xs[j]?,ys[j]? with
 | some x,some y=>eqV x y
 | _,_=>false
theorem qtq:∀ (xs ys:List V),((Ba (min xs.length ys.length)).all (eAt xs ys) && (xs.length == ys.length))=qjb xs ys
 | [],[]=>rfl
 | [],_ :: _=>by simp [qjb]
 | _ :: _,[]=>by simp [qjb]
 | x :: xs,y :: ys=>by
  have ih:=qtq xs ys
  have e:min (x :: xs).length (y :: ys).length=min xs.length ys.length + 1:=by simp only [An]; lia
  rw [e,List.range_succ_eq_map,CS,CJ]
  have f:(eAt (x :: xs) (y :: ys) ∘ Nat.succ)=eAt xs ys:=by funext j; simp [eAt,Function.comp]
  have g:((x :: xs).length == (y :: ys).length)=(xs.length == ys.length):=by simp
  rw [f,g]
  show ((eqV x y && (Ba (min xs.length ys.length)).all (eAt xs ys)) && (xs.length == ys.length))=(eqV x y && qjb xs ys)
  rw [<- ih,Bool.and_assoc]
theorem qtr {A:AU} {s:Ah} {xs ys:List V} {us ws:List Value} (r:Vals xs us) (r':Vals ys ws) (fx:xs.all qcr=true) (fy:ys.all qcr=true) :
  ∀ j (h1:j < us.toArray.size) (h2:j < ws.toArray.size),B5 A s us.toArray[j] ws.toArray[j] (eAt xs ys j):=by
 intro j h1 h2
 have g1:j < xs.length:=by rw [r.length]; simpa using h1
 have g2:j < ys.length:=by rw [r'.length]; simpa using h2
 obtain ⟨u,hu,ru⟩:=r.get (i:=j) (x:=xs[j]) (by simp [g1])
 obtain ⟨w,hw,rw'⟩:=r'.get (i:=j) (x:=ys[j]) (by simp [g2])
 have e1:us.toArray[j]=u:=by
  have:us[j]?=some us[j]:=by simp
  rw [this] at hu
  simpa using AG hu
 have e2:ws.toArray[j]=w:=by
  have:ws[j]?=some ws[j]:=by simp
  rw [this] at hw
  simpa using AG hw
 have e3:eAt xs ys j=eqV xs[j] ys[j]:=by simp [eAt,g1,g2]
 rw [e1,e2,e3]
 exact qtl ru rw' (AZ.mp fx _ (Br g1)) (AZ.mp fy _ (Br g2))
end
section
variable {X:Cx} {tg:Expr}
end
end Add
namespace Add
open PySem PySem.Spec PyProof.Rows L2
section
open PySem.SeqAt
open PySem.AutoSeq1 (wpAny_loadPart')
open PySem.MeetsSeq PySem.MeetsSeq2 PySem.MeetsSeq3
open HT
end
section
variable {prog:AM} {w:World} {A:AU} {E:Value->Ah->Prop} {s:Ah}
end
section
variable {X:Cx}
end
end Add
namespace Add
open PySem PySem.Spec PyProof.Rows L2
theorem qg7 {env:Env}:∀ (names:List (Str × Bo)) (acc:List (Str × Addr)),(∀ x ∈ names,x.2=.free->∃ c,env.cells.lookup x.1=some c) ->
  (∀ x c,acc.lookup x=some c->env.cells.lookup x=some c) ->
  ∃ cl,(forIn names acc λ(x:Str × Bo) (cs:List (Str × Addr))=>if (x.2 == Bk)=true then (do let a <- cellOf env x.1; pure (CP ((x.1,a) :: cs))) else (pure (CP cs):Sem (ForInStep (List (Str × Addr)))))=pure cl /\
   (∀ x c,cl.lookup x=some c->env.cells.lookup x=some c)/\(∀ x,(acc.lookup x).isSome=true->(cl.lookup x).isSome=true)/\∀ x ∈ names,x.2=.free->(cl.lookup x.1).isSome=true
 | [],acc,_,ha=>⟨acc,rfl,ha,λ_ h=>h,λ_ h=>absurd h (by simp)⟩
 | (n,k) :: r,acc,hf,ha=>by
  have hr:∀ x ∈ r,x.2=.free->∃ c,env.cells.lookup x.1=some c:=λx hx=>hf x (Au _ hx)
  rw [DM]
  cases hk:(k == Bk) with
  | false =>
   obtain ⟨cl,e,c1,c2,c3⟩:=qg7 r acc hr ha
   refine ⟨cl,?_,c1,c2,λx hx hx2 => ?_⟩
   .simp only [hk,Ct,if_false]
    exact e
   .rcases Ao.mp hx with z | z
    .subst z
     have z2:k=.free:=hx2
     subst z2
     exact absurd hk (by decide)
    .exact c3 x z hx2
  | true =>
   have hk':k=.free:=by simpa using hk
   obtain ⟨c,hc⟩:=hf (n,k) Aq hk'
   have ha':∀ x d,((n,c) :: acc).lookup x=some d->env.cells.lookup x=some d:=λx d e=>by
    rw [B7] at e
    cases q:x == n with
    | true =>
     rw [q] at e
     have q':x=n:=by simpa using q
     subst q'
     rw [hc]; exact e
    | false=>rw [q] at e; exact ha x d e
   obtain ⟨cl,e,c1,c2,c3⟩:=qg7 r ((n,c) :: acc) hr ha'
   have there:((((n,c) :: acc).lookup n).isSome)=true:=by simp
   refine ⟨cl,?_,c1,λx hx=>c2 x ?_,λx hx hx2 => ?_⟩
   .have hcell:cellOf env n=pure c:=by unfold cellOf; rw [hc]
    simp only [hk,if_true,hcell]
    exact e
   .rw [B7]
    cases q:x == n with
    | true=>rfl
    | false=>exact hx
   .rcases Ao.mp hx with z | z
    .subst z; exact c2 n there
    .exact c3 x z hx2
theorem qjx {env:Env} {scope:Scope} (hf:∀ x ∈ scope.names,x.2=.free->∃ c,env.cells.lookup x.1=some c) :
  ∃ cl,closureFor scope env=pure cl/\(∀ x c,cl.lookup x=some c->env.cells.lookup x=some c)/\∀ x ∈ scope.names,x.2=.free->(cl.lookup x.1).isSome=true:=by
 obtain ⟨cl,e,c1,_,c3⟩:=qg7 scope.names [] hf (λx c h=>absurd h (by simp))
 refine ⟨cl,?_,c1,c3⟩
 unfold closureFor
 exact (congrArg (λz=>z >>= λcs=>(pure cs:Sem (List (Str × Addr)))) e).trans rfl
noncomputable def qmw (N:List Str) (js:List (Option Nat)) (XN:List Str) (xs scope:Scope):Bool :=
 (scope.kind == .function) && (scope.names.all λx=>x.2 != .cell) && (scope.names.all λx=>x.2 != .local || (scope.names.lookup x.1 == some .local)) &&
 (scope.names.all λx=>x.2 != .free || (xs.names.lookup x.1 == some .cell || xs.names.lookup x.1 == some .free)) && (N.length == js.length) &&
 ((N.zip js).all λp=>match p.2 with | none=>true | some j=>(XN[j]? == some p.1) && (xs.names.lookup p.1 == some .cell || xs.names.lookup p.1 == some .free) && (scope.names.any λx=>x.1 == p.1 && x.2 == .free) && (scope.names.lookup p.1 == some .free))
structure CompNm (N:List Str) (js:List (Option Nat)) (XN:List Str) (xs scope:Scope):Prop where
 kind:scope.kind=.function
 nocell:∀ x ∈ scope.names,x.2 ≠ .cell
 names:∀ x ∈ scope.names,x.2=.local->scope.names.lookup x.1=some .local
 clos:∀ x ∈ scope.names,x.2=.free->(xs.names.lookup x.1=some .cell \/ xs.names.lookup x.1=some .free)
 len:N.length=js.length
 free:∀ (i j:Nat) (x:Str),N[i]?=some x->js[i]?=some (some j)->XN[j]?=some x/\(xs.names.lookup x=some .cell \/ xs.names.lookup x=some .free)/\(x,Bk) ∈ scope.names/\scope.names.lookup x=some .free
theorem qlw {N:List Str} {js:List (Option Nat)} {XN:List Str} {xs scope:Scope} (h:qmw N js XN xs scope=true):CompNm N js XN xs scope:=by
 unfold qmw at h
 simp only [AI,AZ,beq_iff_eq,Bool.or_eq_true,bne_iff_ne,ne_eq] at h
 obtain ⟨⟨⟨⟨⟨h1,h2⟩,h3⟩,h4⟩,h5⟩,h6⟩:=h
 refine ⟨h1,λx hx=>h2 x hx,λx hx e => ?_,λx hx e => ?_,h5,λi j x e1 e2 => ?_⟩
 .rcases h3 x hx with z | z
  .exact absurd e z
  .exact z
 .rcases h4 x hx with z | z
  .exact absurd e z
  .exact z
 .have hz:(N.zip js)[i]?=some (x,some j):=by rw [List.getElem?_zip_eq_some]; exact ⟨e1,e2⟩
  have:=h6 _ (Ap hz)
  simp only [AI,beq_iff_eq,Bool.or_eq_true,D8] at this
  obtain ⟨⟨⟨a1,a2⟩,y,hy,b1,b2⟩,a4⟩:=this
  refine ⟨a1,a2,?_,a4⟩
  obtain ⟨y1,y2⟩:=y
  have b1':y1=x:=b1
  have b2':y2=.free:=b2
  subst b1' b2'
  exact hy
theorem qnw {env:Env} {scope:Scope} {x:Str} (h:scope.names.lookup x=some .free):(relabel scope env).names.lookup x=some .cell \/ (relabel scope env).names.lookup x=some .free:=by
 have gen:∀ (l:List (Str × Bo)),l.lookup x=some .free->((l.map λ(n,k)=>if (k == Bk && env.scope.kind == .function && env.kindOf n == some .cell) then (n,Bo.cell) else (n,k)).lookup x=some .cell \/ (l.map λ(n,k)=>if (k == Bk && env.scope.kind == .function && env.kindOf n == some .cell) then (n,Bo.cell) else (n,k)).lookup x=some .free):=by
  intro l
  induction l with
  | nil=>intro h; simp at h
  | cons y r ih =>
   obtain ⟨n,k⟩:=y
   intro h
   rw [B7] at h
   rw [A4]
   cases q:x == n with
   | false =>
    rw [q] at h
    have:=ih h
    by_cases hc:(k == Bk && env.scope.kind == .function && env.kindOf n == some .cell)=true
    .simpa [hc,B7,q] using this
    .simpa [hc,B7,q] using this
   | true =>
    rw [q] at h
    have h':k=.free:=AG h
    subst h'
    by_cases hc:(Bk == Bk && env.scope.kind == .function && env.kindOf n == some .cell)=true
    .exact .inl (by show C2 x ((if (Bk == Bk && env.scope.kind == .function && env.kindOf n == some .cell)=true then (n,Bo.cell) else (n,Bk)) :: _)=_; rw [if_pos hc,B7,q])
    .exact .inr (by show C2 x ((if (Bk == Bk && env.scope.kind == .function && env.kindOf n == some .cell)=true then (n,Bo.cell) else (n,Bk)) :: _)=_; rw [if_neg hc,B7,q])
 exact gen scope.names h
noncomputable def qcd (X:Cx) (N:List Str) (scope:Scope) (cl:List (Str × Addr)) (C:Addr) (s:Ah) (H:Hp) (fp:List Addr) (E:Value->Ah->Prop):Cx :=
 { X with N:=N,s₀:=s,H₀:=H,env:=compEnvC scope cl C X.env,outer:=X.stack,ex:=fp,fn:=λ_=>false,pn:=[],xe:=E }
noncomputable def qff (js:List (Option Nat)) (σ:L2.St):L2.St:=js.map λj=>j.bind λk=>(σ[k]?).join
section
variable {prog:AM} {w:World} {A:AU} {R:Result->Ah->Prop} {s:Ah}
theorem qpa {elt target iter:Expr} {ifs:List Expr} {scope:Scope} {pos:Pos} {it acc:Value} {env:Env} (I:Nat->Ah->Prop)
  (turn:∀ n s,I n s->wpAny (model prog w) A (pyNext it) (λr s₁=>match r with
   | none=>R (.ok .next) s₁
   | some v=>wpAny (model prog w) A (letOwnedTupleGo target it v) (λ_ s₁'=>wpAny (model prog w) A (assign target env v) (λ_ s₂ =>
     wpAny (model prog w) A (forIn ifs true λc r=>if r=true then do let ok <- isTrue c env (eval c env); pure (CP ok) else pure (CP r)) (λok s₃ =>
      if ok=true then wpAny (model prog w) A (eval elt env) (λx s₄ =>
       wpAny (model prog w) A (call (.builtin "list.append") [acc,x]) (λ_ s₅=>∃ m,m < n/\I m s₅) (notedBy (model prog w) A env λe s'=>R (.error e) s') s₄) (notedBy (model prog w) A env λe s'=>R (.error e) s') s₃
      else ∃ m,m < n/\I m s₃) (notedBy (model prog w) A env λe s'=>R (.error e) s') s₂) (notedBy (model prog w) A env λe s'=>R (.error e) s') s₁')
     (notedBy (model prog w) A env λe s'=>R (.error e) s') s₁) (notedBy (model prog w) A env λe s'=>R (.error e) s') s)
  (n:Nat) (h:I n s):codeAny (model prog w) A (.compLoop (.ListComp elt [⟨target,iter,ifs,0⟩] scope pos) 0 it acc env) R s:=by
 refine codeAny_loop rfl I (λn s hI => ?_) n h
 show wpAny _ A ((compTurn (.ListComp elt [⟨target,iter,ifs,0⟩] scope pos) 0 it acc env).onRaise (λx=>do noteFrame x env; theTreesLotGoes x)) _ _ s
 refine wpAny_noted ?_
 rw [compTurn_list]
 refine Ad (DD (Ad (BL (turn n s hI) (λr s₁ h₁ => ?_) λ_ _ h'=>h')))
 cases r with
 | none=>exact Ay h₁
 | some v =>
  refine Ad (BL h₁ (λ_ s₁' h₁' => ?_) λ_ _ h'=>h')
  refine Ad (BL h₁' (λ_ s₂ h₂=>Ad (BL h₂ (λok s₃ h₃ => ?_) λ_ _ h'=>h')) λ_ _ h'=>h')
  cases ok with
  | false=>exact Ay ⟨rfl,h₃⟩
  | true =>
   exact Ad (Ad (BL h₃ (λx s₄ h₄=>Ad (BL h₄ (λ_ s₅ h₅=>Ay (Ay ⟨rfl,h₅⟩)) λ_ _ h'=>h')) λ_ _ h'=>h'))
end
noncomputable def PTs (X:Cx) (ifs:List Expr) (t:TT):Prop :=
 ∀ (pins:List (Addr × Obj)) (s:Ah) (σ:L2.St) (H:Hp) (Q:Bool->Hp->Prop),Inv X pins σ H s->t σ H Q ->
  wpAny (model X.prog X.w) X.A (forIn ifs true λc r=>if r=true then do let ok <- isTrue c X.env (eval c X.env); pure (CP ok) else pure (CP r)) (TP X pins σ Q) X.xe s
noncomputable def qqt:TT:=λ_ H Q=>Q true H
theorem qdf {X:Cx}:PTs X [] qqt:=λ_ _ _ H _ I h=>wpAny_tests_nil ⟨H,I,h⟩
theorem qmx {X:Cx} {c:Expr} {t:TT} (hc:PT X c t):PTs X [c] t:=λpins s σ H Q I h=>wpAny_tests_one (hc pins s σ H Q I h)
noncomputable def qig (js:List (Option Nat)) (g:TG) (tc:TT) (te:TE) (σ:L2.St) (Q:VK) (J:It) (H1:Hp):Prop:=∀ p,H1 p=none ->
 ∃ W:Nat->Nat->L2.St->Hp->Prop,(∃ m,W 0 m (qff js σ) (upd H1 p (.lst [])))/\∀ i m σ' H',W i m σ' H' ->
  (J.stop i H'/\Q (.ref p) H') \/ (J.go i H'/\∃ N:L2.St->Hp->Prop,(∀ σ2 H2,N σ2 H2->∃ m',m' < m/\W (i + 1) m' σ2 H2) /\
   ∀ x H2,J.yld i H' x H2->g x σ' H2 λσ3 H3=>tc σ3 H3 λk H4=>if k=true then te σ3 H4 λv H5=>∃ xs,H5 p=some (.lst xs)/\xs.length < Ax/\N σ3 (upd H5 p (.lst (xs ++ [v]))) else N σ3 H4)
noncomputable def qxs (js:List (Option Nat)) (wi:TI) (g:TG) (tc:TT) (te:TE):TE:=λσ H Q=>wi σ H (qig js g tc te σ Q)
section
variable {X:Cx} {N XN:List Str} {js:List (Option Nat)} {xs scope:Scope} {elt target iter:Expr} {ifs:List Expr} {pos:Pos} {g:TG} {tc:TT} {te:TE}
theorem qjy {pins:List (Addr × Obj)} {σ:L2.St} {H2:Hp} {s2:Ah} {it:Addr} {fp:List Addr} {tn:Nat->Heap->Prop} {J:It} {cl:List (Str × Addr)} {Q:V->Hp->Prop} {RR:Value->Addr->Result->Ah->Prop} {E:Value->Ah->Prop}
  (hc:X.calm=true) (hN:X.N=XN) (hS:X.env.scope=xs) (nm:CompNm N js XN xs scope) (hcl1:∀ x c,cl.lookup x=some c->X.env.cells.lookup x=some c) (hcl2:∀ x ∈ scope.names,x.2=.free->(cl.lookup x.1).isSome=true)
  (hg:∀ (cl:List (Str × Addr)) (C:Addr) (s:Ah) (H:Hp) (fp:List Addr) (E:Value->Ah->Prop),PG (qcd X N scope cl C s H fp E) target g)
  (ht:∀ (cl:List (Str × Addr)) (C:Addr) (s:Ah) (H:Hp) (fp:List Addr) (E:Value->Ah->Prop),PTs (qcd X N scope cl C s H fp E) ifs tc)
  (he:∀ (cl:List (Str × Addr)) (C:Addr) (s:Ah) (H:Hp) (fp:List Addr) (E:Value->Ah->Prop),PE (qcd X N scope cl C s H fp E) elt te)
  (I2:Inv X pins σ H2 s2) (T:Turn X.prog X.w X.K target J fp it tn) (st2:tn 0 s2.heap) (f2:∀ b ∈ fp,qei X pins H2 b)
  (hW:qig js g tc te σ Q J H2)
  (fin:∀ (p C:Addr) (H':Hp) (s':Ah) (m:Str->Option Value),Inv X pins σ H' s'->s'.heap.Ns C m->s2.heap.objs.size <= C->H' C=none->Q (.ref p) H'->RR (.ref p) C (.ok .next) s') :
  wpAny (model X.prog X.w) X.A (newList []) (λacc s₃=>wpAny (model X.prog X.w) X.A (newFunctionEnv scope X.env.globals cl [] X.env.qual none .none (some X.env)) (λcenv s₄ =>
   codeAny (model X.prog X.w) X.A (.compStart (.ListComp elt [⟨target,iter,ifs,0⟩] scope pos) 0 (.ref it) acc { cenv with scope:=relabel scope X.env }) (RR acc cenv.locals) s₄) E s₃) E s2:=by
 refine Dv (wpAny_newFunctionEnv nm.nocell (by intro y hy; simp at hy) (λh₁ hns₁ hsb₁ => ?_) nm.kind)
 obtain ⟨W,⟨m0,w0⟩,turn⟩:=hW s2.heap.objs.size I2.fresh
 have I3:Inv X pins σ (upd H2 s2.heap.objs.size (.lst [])) { s2 with heap:=s2.heap.push { cls:=.type "list",data:=.seq ([]:List Value).toArray } }:=I2.lnew (ys:=[]) (its:=[]) (t':=s2.toks) .nil (B0 _)
 generalize hs3:({ s2 with heap:=s2.heap.push { cls:=.type "list",data:=.seq ([]:List Value).toArray } }:Ah)=s3 at I3 hns₁ hsb₁ |-
 have hh3:s3.heap=s2.heap.push { cls:=.type "list",data:=.seq ([]:List Value).toArray }:=by rw [<- hs3]
 have z3:s3.heap.objs.size=s2.heap.objs.size + 1:=by rw [hh3,Cn]
 generalize hP:s2.heap.objs.size=P at w0 turn I3 z3 |-
 have hH3:∀ b ∈ fp,upd H2 P (.lst []) b=none:=λb hb=>by
  have nb:b ≠ P:=by
   obtain ⟨o,eo,_⟩:=T.obj 0 s2.heap st2 b hb
   have:=A0 eo
   rw [hP] at this
   exact AJ this
  rw [zf nb]
  exact (f2 b hb).1
 generalize hH:upd H2 P (.lst [])=H3 at w0 I3 hH3
 have f3:∀ b ∈ fp,b ≠ X.env.locals/\b ∉ X.fs/\(b ∈ X.ex \/ X.s₀.heap.objs.size <= b)/\(∀ x c,X.env.cells.lookup x=some c->c ≠ b)/\∀ p ∈ X.pn ++ pins,p.1 ≠ b:=λb hb=>(f2 b hb).2
 have fpl:∀ b ∈ fp,b < s3.heap.objs.size:=λb hb=>by
  obtain ⟨o,eo,_⟩:=T.obj 0 s2.heap st2 b hb
  have hl:=A0 eo
  exact A8 hl (by rw [z3,hP]; exact Cs _)
 have st3:tn 0 s3.heap:=T.keep 0 _ _ st2 λb _ o e=>by rw [hh3]; exact Am _ e
 generalize hC:s3.heap.objs.size=C at hns₁ hsb₁ z3 fpl |-
 have old:∀ b o,s3.heap.get? b=some o->h₁.get? b=some o:=λb o e=>hsb₁.extBut b o (by have hl:=A0 e; rw [hC] at hl; exact AJ hl) (Am _ e)
 have stk:∀ b ∈ fp,b ∉ frs X.stack:=λb hb z=>by
  rcases Ao.mp (I3.stkSub b z) with q | q
  .exact (f3 b hb).1 q
  .exact (f3 b hb).2.1 q
 have ok:∀ E',(qcd X N scope cl C s3 H3 fp E').Ok:=λE'=>{
  mod:=I3.ok.mod
  kind:=nm.kind
  glob:=I3.ok.glob
  blt:=I3.ok.blt
  above:=BS hC
  inj:=λx y c h1 h2=>I3.ok.inj x y c (hcl1 x c h1) (hcl1 y c h2)
  has:=λx hx=>by
   have key:(x,Bk) ∈ scope.names:=by
    have hl:(relabel scope X.env).names.lookup x=some .cell \/ (relabel scope X.env).names.lookup x=some .free:=hx
    have gen:∀ (l:List (Str × Bo)),(∀ y ∈ l,y.2 ≠ .cell)->((l.map λ(n,k)=>if (k == Bk && X.env.scope.kind == .function && X.env.kindOf n == some .cell) then (n,Bo.cell) else (n,k)).lookup x=some .cell \/ (l.map λ(n,k)=>if (k == Bk && X.env.scope.kind == .function && X.env.kindOf n == some .cell) then (n,Bo.cell) else (n,k)).lookup x=some .free)->(x,Bk) ∈ l:=by
     intro l
     induction l with
     | nil=>intro _ h; rcases h with h | h <;> simp at h
     | cons y r ih =>
      obtain ⟨n,k⟩:=y
      intro hn h
      have hr:=ih (λy hy=>hn y (Au _ hy))
      have hk:k ≠ .cell:=hn (n,k) Aq
      rw [A4] at h
      cases q:x == n with
      | false =>
       refine Au _ (hr ?_)
       by_cases hc:(k == Bk && X.env.scope.kind == .function && X.env.kindOf n == some .cell)=true
       .simpa [hc,B7,q] using h
       .simpa [hc,B7,q] using h
      | true =>
       have q':x=n:=by simpa using q
       subst q'
       by_cases hc:(k == Bk && X.env.scope.kind == .function && X.env.kindOf x == some .cell)=true
       .have:k=.free:=by
         simp only [AI,beq_iff_eq] at hc
         exact hc.1.1
        subst this
        exact Aq
       .have h':k=.cell \/ k=.free:=by simpa [hc,B7] using h
        rcases h' with z | z
        .exact absurd z hk
        .subst z; exact Aq
    exact gen scope.names nm.nocell hl
   exact C5.mp (hcl2 _ key rfl)
  cab:=λ_ _ h _=>nomatch h
  hd:=I3.ok.hd
  frames:=I3.ok.frames
  stk:=.inl rfl
  exf:=λb hb=>⟨AJ (fpl b hb),λx c e=>(f3 b hb).2.2.2.1 x c (hcl1 x c e)⟩
  bs:=I3.bs
  bsz:=A1 I3.ok.bsz I3.sz
  noex:=λb o e hb=>by
   rcases (f3 b hb).2.2.1 with z | z
   .exact I3.ok.noex b o e z
   .have h1:=A0 e
    have h2:=I3.ok.bsz
    exact absurd (A8 h1 (A1 h2 z)) (BZ _)
  exfs:=stk
  funs:=I3.stack
  frf:=I3.stkFree }
 have qfq:∀ E',Inv (qcd X N scope cl C s3 H3 fp E') [] (qff js σ) H3 { s3 with heap:=h₁,toks:=s3.toks + ([]:List (Str × Value)).length }:=λE'=>{
  ok:=ok E'
  os:=rfl
  bare:=I3.bare
  base:=Un.kept old
  loc:=by
   refine ⟨_,hns₁,λi x v e1 e2 e3 => ?_⟩
   have e2':((js[i]?).map λj=>j.bind λk=>(σ[k]?).join)=some (some v):=by
    have:=e2
    unfold qff at this
    rwa [Ak] at this
   cases hj:js[i]? with
   | none=>rw [hj] at e2'; cases e2'
   | some jo =>
    rw [hj] at e2'
    cases jo with
    | none=>cases e2'
    | some j =>
     have e2'':(σ[j]?).join=some v:=AG e2'
     have e4:σ[j]?=some (some v):=by
      cases q:σ[j]? with
      | none=>rw [q] at e2''; cases e2''
      | some o=>rw [q] at e2''; cases o with
       | none=>cases e2''
       | some y=>cases e2''; rfl
     obtain ⟨a1,a2,a3,a4⟩:=nm.free i j x e1 hj
     obtain ⟨mX,hnX,lX⟩:=I3.loc
     have vis:Vis X.env.scope x:=by rw [hS]; exact .inr a2
     obtain ⟨u,ru,lu⟩:=lX j x v (by rw [hN]; exact a1) e4 vis
     refine ⟨u,ru,?_⟩
     rcases lu with ⟨k1,_⟩ | ⟨k1,c,e5,z⟩
     .exfalso
      have k1':X.env.scope.names.lookup x=some .local:=k1
      rw [hS] at k1'
      rcases a2 with q | q <;> rw [q] at k1' <;> cases k1'
     .obtain ⟨c',e6⟩:=C5.mp (hcl2 _ a3 rfl)
      have e7:=hcl1 x c' e6
      rw [e5] at e7
      cases e7
      refine .inr ⟨?_,c,e6,?_⟩
      .rcases e3 with q | q | q
       .exfalso
        have:=qnw (env:=X.env) a4
        rcases this with t | t <;> (have q':(relabel scope X.env).names.lookup x=some .local:=q; rw [t] at q'; cases q')
       .exact .inl q
       .exact .inr q
      .obtain ⟨o,ho,hd⟩:=z
       exact ⟨o,old c o ho,hd⟩
  cell:=λx c e=>by
   obtain ⟨v,o,ho,hd⟩:=I3.cell x c (hcl1 x c e)
   exact ⟨v,o,old c o ho,hd⟩
  free:=I3.hok.fresh (BS hC)
  freeC:=λx c e=>I3.freeC x c (hcl1 x c e)
  pin:=λp hp=>absurd (show p ∈ ([]:List (Addr × Obj)) from hp) (by simp)
  hok:=I3.hok.kept old
  len:=by unfold qff; rw [Ab]; exact nm.len.symm }
 have done:∀ {E':Value->Ah->Prop} {σ':L2.St} {H':Hp} {s':Ah},Inv (qcd X N scope cl C s3 H3 fp E') [] σ' H' s'->Q (.ref P) H'->RR (.ref P) C (.ok .next) s':=λ{E' σ' H' s'} J' q=>by
  obtain ⟨m',hn',_⟩:=J'.loc
  refine fin P C H' s' m' (I3.call' (ch:=fp) J'.os J'.base J'.hok J'.bare λb hb=>⟨(f3 b hb).2.2.1,(f3 b hb).1,(f3 b hb).2.2.2.1,(f3 b hb).2.2.2.2⟩) hn' (by rw [z3,hP]; exact Cs _) J'.free q
 have loop:∀ s₄:Ah,s₄={ s3 with heap:=h₁,toks:=s3.toks + ([]:List (Str × Value)).length } ->
   codeAny (model X.prog X.w) X.A (.compLoop (.ListComp elt [⟨target,iter,ifs,0⟩] scope pos) 0 (.ref it) (.ref P) (compEnvC scope cl C X.env)) (RR (.ref P) C) s₄:=by
  rintro s₄ rfl
  generalize hNB:notedBy (model X.prog X.w) X.A (compEnvC scope cl C X.env) (λe s'=>RR (.ref P) C (.error e) s')=NB
  have stat:∀ {H':Hp},(∀ b ∈ fp,H' b=none)->∀ b ∈ fp,qei (qcd X N scope cl C s3 H3 fp NB) [] H' b:=λhn b hb =>
   ⟨hn b hb,AJ (fpl b hb),stk b hb,.inl hb,λx c e=>(f3 b hb).2.2.2.1 x c (hcl1 x c e),λp hp=>absurd (show p ∈ ([]:List (Addr × Obj)) from hp) (by simp)⟩
  refine qpa (λn s'=>∃ i σ' H',Inv (qcd X N scope cl C s3 H3 fp NB) [] σ' H' s'/\tn i s'.heap/\(∀ b ∈ fp,H' b=none)/\W i n σ' H') ?_ m0 ⟨0,qff js σ,H3,qfq NB,T.keep 0 _ _ st3 λb _ o e=>old b o e,hH3,w0⟩
  rw [hNB]
  rintro n s5 ⟨i,σ5,H5,I5,st5,fr5,w5⟩
  rcases turn i n σ5 H5 w5 with ⟨stop,qn⟩ | ⟨go,Nx,hNx,step⟩
  .refine thn (T.done (qcd X N scope cl C s3 H3 fp NB) rfl rfl rfl hc i [] s5 σ5 H5 NB I5 (stat fr5) st5 stop) λr s6 ⟨hr,I6⟩ => ?_
   subst hr
   exact done I6 qn
  .refine thn (T.item (qcd X N scope cl C s3 H3 fp NB) rfl rfl rfl hc i [] s5 σ5 H5 NB I5 (stat fr5) st5 go) λr s6 ⟨u,hr,h6⟩ => ?_
   subst hr
   refine thn h6 λ_ s7 ⟨x,H7,I7,r7,y7,st7,fr7⟩ => ?_
   have I7':=I7.pinned (stat fr7) (T.obj _ _ st7)
   have again:∀ {σ8:L2.St} {H8:Hp} {s8:Ah},Inv (qcd X N scope cl C s3 H3 fp NB) ([] ++ qjr fp s7.heap) σ8 H8 s8->Nx σ8 H8->∃ m,m < n/\∃ i σ' H',Inv (qcd X N scope cl C s3 H3 fp NB) [] σ' H' s8/\tn i s8.heap/\(∀ b ∈ fp,H' b=none)/\W i m σ' H':=λ{σ8 H8 s8} I8 n8=>by
    obtain ⟨m',hm,w8⟩:=hNx σ8 H8 n8
    refine ⟨m',hm,i + 1,σ8,H8,I8.unpinned,T.keep _ _ _ st7 λb hb o e=>(I8.pin (b,o) (AD _ (AD _ (qfd hb e)))).1,λb hb => ?_,w8⟩
    obtain ⟨o,e,d⟩:=T.obj _ _ st7 b hb
    exact (I8.pin (b,o) (AD _ (AD _ (qfd hb e)))).2.1
   refine thn (hg cl C s3 H3 fp NB _ s7 σ5 H7 x u _ I7' r7 (step x H7 y7)) λ_ s8 ⟨σ8,H8,I8,q8⟩ => ?_
   refine thn (ht cl C s3 H3 fp NB _ s8 σ8 H8 _ I8 q8) λk s9 ⟨H9,I9,q9⟩ => ?_
   cases k with
   | false =>
    rw [if_neg (by decide)] at q9 |-
    exact again I9 q9
   | true =>
    rw [if_pos rfl] at q9 |-
    refine thn (he cl C s3 H3 fp NB _ s9 σ8 H9 _ I9 q9) λuv s10 ⟨v,H10,I10,r10,xs',hx1,hx2,q10⟩ => ?_
    refine thn (qa0 (X:=qcd X N scope cl C s3 H3 fp NB) _ s10 σ8 H10 (.ref P) [v] (.ref P) [uv] (λ_ H11=>Nx σ8 H11) I10 rfl (.cons r10 .nil) ⟨P,xs',v,rfl,rfl,hx1,hx2,q10⟩) λ_ s11 ⟨_,H11,I11,_,q11⟩ => ?_
    exact again I11 q11
 exact codeAny_compStart_list (loop _ rfl) (T.self _ 0 _ _ _ (T.keep 0 _ _ st3 λb _ o e=>old b o e) (loop _ rfl))
end
section
variable {X:Cx} {N XN:List Str} {js:List (Option Nat)} {xs scope:Scope} {elt target iter:Expr} {ifs:List Expr} {pos:Pos} {wi:TI} {g:TG} {tc:TT} {te:TE}
theorem qiz {pins:List (Addr × Obj)} {σ σ':L2.St} {H H':Hp} {s s':Ah} {C:Addr} {h':Heap} (I2:Inv X pins σ H s) (J:Inv X pins σ' H' s') (hC:s.heap.objs.size <= C) (hn:H' C=none) (sb:Cl C s'.heap h'):Inv X pins σ' H' { s' with heap:=h' } :=
 J.turned (t':=s'.toks) (it:=C) (λb o hb e=>sb.extBut b o hb e) hn (Cr (A8 I2.lt hC)) (.inr (A1 I2.sz hC))
  (λx c e=>by
   obtain ⟨v,q⟩:=I2.cell x c e
   exact AJ (A8 q.lt hC)) λp hp=>AJ (A8 (A0 (I2.pin p hp).1) hC)
theorem qgp (hc:X.calm=true) (hN:X.N=XN) (hS:X.env.scope=xs) (hok:qmw N js XN xs scope=true) (hi:PI X target iter wi)
  (hg:∀ (cl:List (Str × Addr)) (C:Addr) (s:Ah) (H:Hp) (fp:List Addr) (E:Value->Ah->Prop),PG (qcd X N scope cl C s H fp E) target g)
  (ht:∀ (cl:List (Str × Addr)) (C:Addr) (s:Ah) (H:Hp) (fp:List Addr) (E:Value->Ah->Prop),PTs (qcd X N scope cl C s H fp E) ifs tc)
  (he:∀ (cl:List (Str × Addr)) (C:Addr) (s:Ah) (H:Hp) (fp:List Addr) (E:Value->Ah->Prop),PE (qcd X N scope cl C s H fp E) elt te)
  (hs:∀ x,foldedSetIterable iter X.env x=pure x:=by intro _; rfl):PE X (.ListComp elt [⟨target,iter,ifs,0⟩] scope pos) (qxs js wi g tc te):=by
 intro pins s σ H Q I h
 have nm:=qlw hok
 obtain ⟨cl,hcl,c1,c2⟩:=qjx (env:=X.env) (scope:=scope) λx hx e=>I.ok.has x.1 (by
  rcases nm.clos x hx e with q | q
  .exact .inl (by show X.env.scope.names.lookup _=_; rw [hS]; exact q)
  .exact .inr (by show X.env.scope.names.lookup _=_; rw [hS]; exact q))
 rw [eval_ListComp]
 refine wpAny_comprehension_free (use:=none) rfl hs hcl nm.kind nm.names (thn (hi pins s σ H _ I h) λv s1 h1=>thn h1 λitv s2 h2 => ?_)
 obtain ⟨it,fp,tn,J,H2,e,I2,T,st2,f2,hW⟩:=h2
 subst e
 refine qjy (RR:=λacc C=>compPost (model X.prog X.w) X.A X.xe none (EP X pins σ Q) acc C) hc hN hS nm c1 c2 hg ht he I2 T st2 f2 hW λp C H' s' m J' hn hC hCf q => ?_
 exact ⟨m,hn,λh' hs'=>⟨.ref p,H',qiz I2 J' hC hCf hs',rfl,q⟩⟩
theorem qcu {i:Nat} {x:Str} {px spos:Pos} (hNd:X.N.Nodup) (hix:X.N[i]?=some x) (hloc:X.env.scope.names.lookup x=some .local) (hc:X.calm=true) (hN:X.N=XN) (hS:X.env.scope=xs) (hok:qmw N js XN xs scope=true) (hi:PI X target iter wi)
  (hg:∀ (cl:List (Str × Addr)) (C:Addr) (s:Ah) (H:Hp) (fp:List Addr) (E:Value->Ah->Prop),PG (qcd X N scope cl C s H fp E) target g)
  (ht:∀ (cl:List (Str × Addr)) (C:Addr) (s:Ah) (H:Hp) (fp:List Addr) (E:Value->Ah->Prop),PTs (qcd X N scope cl C s H fp E) ifs tc)
  (he:∀ (cl:List (Str × Addr)) (C:Addr) (s:Ah) (H:Hp) (fp:List Addr) (E:Value->Ah->Prop),PE (qcd X N scope cl C s H fp E) elt te)
  (hsw:swapsWith (.ListComp elt [⟨target,iter,ifs,0⟩] scope pos) (some (.Name x px)) spos.line X.env=pure true:=by rfl)
  (hs:∀ x,foldedSetIterable iter X.env x=pure x:=by intro _; rfl):PS X (.Assign [.Name x px] (.ListComp elt [⟨target,iter,ifs,0⟩] scope pos) spos) (qx6 (qxs js wi g tc te) (qlk i)):=by
 intro pins s σ H D I h
 have nm:=qlw hok
 obtain ⟨cl,hcl,c1,c2⟩:=qjx (env:=X.env) (scope:=scope) λx hx e=>I.ok.has x.1 (by
  rcases nm.clos x hx e with q | q
  .exact .inl (by show X.env.scope.names.lookup _=_; rw [hS]; exact q)
  .exact .inr (by show X.env.scope.names.lookup _=_; rw [hS]; exact q))
 rw [exec_Assign_Name_used _ _ _ _ hsw]
 refine Ad (DD (Ad ?_))
 show wpAny _ X.A (do let _ <- comprehension (.ListComp elt [⟨target,iter,ifs,0⟩] scope pos) scope X.env _ (newList []) false (eval iter X.env) (some (assign (.Name x px) X.env))) _ _ s
 refine Ad (BL (wpAny_comprehension_free (use:=some (assign (.Name x px) X.env)) (Q:=λ_ s'=>SP X pins D .next s') rfl hs hcl nm.kind nm.names
  (thn (hi pins s σ H _ I h) λv s1 h1=>thn h1 λitv s2 h2 => ?_)) (λ_ s' hq=>Ay (Ay hq)) λ_ _ e=>e)
 obtain ⟨it,fp,tn,J,H2,e,I2,T,st2,f2,hW⟩:=h2
 subst e
 refine qjy (Q:=λx H1=>qlk i x σ H1 D.nx) (RR:=λacc C=>compPost (model X.prog X.w) X.A X.xe (some (assign (.Name x px) X.env)) (λ_ s'=>SP X pins D .next s') acc C) hc hN hS nm c1 c2 hg ht he I2 T st2 f2 hW λp C H' s' m J' hn hC hCf q => ?_
 obtain ⟨o,es,ep,ho,hd,hr⟩:=id hn
 have Jp:Inv X (pins ++ [(C,o)]) σ H' s':=J'.pins_of λz hz=>(A5.mp hz).elim (λy=>J'.pin z (AD _ y)) λy=>by
  have e:z=(C,o):=by simpa using y
  subst e
  exact ⟨ho,hCf,Cr (A8 I2.lt hC),I2.nofs hC,λv z=>by rw [hd] at z; cases z⟩
 refine thn (qak (X:=X) (pos:=px) hNd hix (.inl hloc) (.inr hloc) (pins ++ [(C,o)]) s' σ H' (.ref p) (.ref p) _ Jp rfl q) λ_ s'' ⟨σ'',H'',Js,q''⟩ => ?_
 have pc:=Js.pin (C,o) (AD _ (AD _ (by simp)))
 refine ⟨m,⟨o,es,ep,pc.1,hd,hr⟩,λh' hs'=>⟨σ'',H'',qiz I2 Js.unpinned hC pc.2.1 hs',q''⟩⟩
end
noncomputable def qlx (J:It) (H:Hp) (xs:List V):Prop:=∀ H',Same H H'->(∀ i x,xs[i]?=some x->J.go i H'/\∀ y H2,J.yld i H' y H2->y=x/\H2=H')/\J.stop xs.length H'
theorem qdo {K:Af} {H:Hp} {a:Addr} {xs:List V} (h:SqL K H a xs):qlx (Itl K a) H xs:=λH' e =>
 ⟨λi x hx=>⟨⟨xs,x,e.seq h,hx⟩,λy H2 hy=>by
  obtain ⟨e1,e2⟩:=hy
  have:=e2 xs (e.seq h)
  rw [hx] at this
  exact ⟨(AG this).symm,e1⟩⟩,⟨xs,e.seq h,Az _⟩⟩
theorem qdy {H:Hp} {lo:Int} {n:Nat}:qlx (Itr lo n) H ((Ba n).map λi=>V.int (lo + (i:Nat))):=λH' _ =>
 ⟨λi x hx=>by
  rw [Ak] at hx
  cases q:(Ba n)[i]? with
  | none=>rw [q] at hx; cases hx
  | some j =>
   have hi:i < n:=by
    obtain ⟨h1,_⟩:=Ae.mp q
    simpa using h1
   have hj:j=i:=by
    obtain ⟨_,h2⟩:=Ae.mp q
    simpa using h2.symm
   rw [q] at hx
   subst hj
   exact ⟨hi,λy H2 hy=>⟨hy.2.trans (AG hx),hy.1⟩⟩,by show n <= _; simp⟩
theorem qc1 {js:List (Option Nat)} {g:TG} {te:TE} {J:It} {σ:L2.St} {H:Hp} {Q:VK} {xs:List V} (f:V->V) (Sv:L2.St->Prop) (F:qlx J H xs) (hz:xs.length <= Ax) (h0:Sv (qff js σ))
  (step:∀ (x:V) (σ':L2.St) (H':Hp) (R:L2.St->VK),x ∈ xs->Same H H'->Sv σ'->(∀ σ3,Sv σ3->R σ3 (f x) H')->g x σ' H' λσ3 H3=>te σ3 H3 (R σ3))
  (gk:∀ (x:V) (σ':L2.St) (H':Hp) (R R':L2.St->Hp->Prop),(∀ σ3 H3,R σ3 H3->R' σ3 H3)->g x σ' H' R->g x σ' H' R')
  (fin:∀ p,H p=none->Q (.ref p) (upd H p (.lst (xs.map f)))) :
  qig js g qqt te σ Q J H:=by
 intro p hp
 have sm:∀ o,Same H (upd H p o):=λo b u e=>by rw [zf (qae e hp)]; exact e
 refine ⟨λi m σ' H'=>m=xs.length - i/\i <= xs.length/\Sv σ'/\H'=upd H p (.lst ((xs.take i).map f)),⟨xs.length,by simp,B0 _,h0,by simp⟩,?_⟩
 rintro i m σ' H' ⟨rfl,hi,hv,rfl⟩
 obtain ⟨F1,F2⟩:=F _ (sm (.lst ((xs.take i).map f)))
 by_cases hlt:i < xs.length
 .have ex:xs[i]?=some xs[i]:=by simp [hlt]
  obtain ⟨go,yl⟩:=F1 i _ ex
  refine .inr ⟨go,λσ2 H2=>Sv σ2/\H2=upd H p (.lst ((xs.take (i + 1)).map f)),λσ2 H2 ⟨a,b⟩=>⟨xs.length - (i + 1),by lia,rfl,hlt,a,b⟩,λx H2 hy => ?_⟩
  obtain ⟨rfl,rfl⟩:=yl x H2 hy
  refine gk _ _ _ _ _ (λσ3 H3 z => ?_) (step xs[i] σ' _ (λσ3 v H5=>∃ ys,H5 p=some (.lst ys)/\ys.length < Ax/\(Sv σ3/\upd H5 p (.lst (ys ++ [v]))=upd H p (.lst ((xs.take (i + 1)).map f)))) (Br hlt) (sm _) hv λσ3 hs3 => ?_)
  .exact z
  .refine ⟨_,zb,?_,hs3,?_⟩
   .rw [Ab,A2]; lia
   .rw [qqj,Dw,ex,Ar]; rfl
 .have e:i=xs.length:=by lia
  subst e
  refine .inl ⟨F2,?_⟩
  rw [Bs]
  exact fin p hp
theorem qc2 {i:Nat} (x:V) (σ':L2.St) (H':Hp) (R R':L2.St->Hp->Prop) (h:∀ σ3 H3,R σ3 H3->R' σ3 H3) (z:qlk i x σ' H' R):qlk i x σ' H' R':=h _ _ z
end Add
namespace Add
open PySem PySem.Spec PyProof.Rows L2
noncomputable def Ixs (x:Str):It:=⟨λi _=>i < x.cps.size,λi H v H'=>H'=H/\∃ c,x.cps[i]?=some c/\v=.str ⟨#[c]⟩,λi _=>i=x.cps.size⟩
theorem qly {P:AM} {w:World} {K:Af} {tg:Expr} {it:Addr} {x:Str} {t:Tok} {ty:String}
  (hty:["enumerate", "zip", "dict_itemiterator", "dict_reverseitemiterator", "odict_iterator", "itertools.zip_longest", "itertools.pairwise"].contains ty=false)
  (W:∀ A':AU,A'.handled=none->Walks P w A' it [it] [it] x.cps.size (SignAt x) (λi h=>h.IsStrIter it ty x t i))
  (self:∀ (A:AU) (i:Nat) (s:Ah) (Q:Value->Ah->Prop) (E:Value->Ah->Prop),s.heap.IsStrIter it ty x t i->Q (.ref it) s->wpAny (model P w) A (pyIter (.ref it)) Q E s) :
  Turn P w K tg (Ixs x) [it] it (λi h=>h.IsStrIter it ty x t i) where
 mem:=by simp
 obj:=λi h st b hb=>by
  have e:b=it:=by simpa using hb
  subst e
  obtain ⟨o,ho,_,hd⟩:=st
  exact ⟨o,ho,λv z=>by rw [hd] at z; cases z⟩
 keep:=λi h h' st k=>let ⟨o,ho,r⟩:=st; ⟨o,k it (by simp) o ho,r⟩
 item:=by
  intro X hP hw hK hc i pins s σ H E I hf st hg
  subst hP hw hK
  obtain ⟨f0,f1,f2,f3,f4,f5⟩:=hf it (by simp)
  refine (W X.A (I.ok.hd hc)).item i s _ _ hg st λv h' tk hv st' kk => ?_
  obtain ⟨c,u,hcx,rfl⟩:=hv
  have I1:Inv X pins σ H { s with heap:=h',toks:=tk }:=I.turned (λb o hb e=>kk b o (by simpa using hb) e) f0 f1 f3 f4 f5
  obtain ⟨o,ho,hcl,hd⟩:=id st'
  exact ⟨_,rfl,qqk (s:={ s with heap:=h',toks:=tk }) ho hcl hd hty ⟨.str ⟨#[c]⟩,H,I1,⟨u,rfl⟩,⟨rfl,c,hcx,rfl⟩,st',λb hb=>(hf b hb).1⟩⟩
 done:=by
  intro X hP hw hK hc i pins s σ H E I hf st hg
  subst hP hw hK
  obtain ⟨f0,f1,f2,f3,f4,f5⟩:=hf it (by simp)
  have e:i=x.cps.size:=hg
  subst e
  exact (W X.A (I.ok.hd hc)).done s _ _ st λh' tk kk=>⟨rfl,I.turned (t':=tk) (λb o hb e=>kk b o (by simpa using hb) e) f0 f1 f3 f4 f5⟩
 self:=self
section
variable {X:Cx} {tg:Expr}
noncomputable def iText (tl:TE):TI:=λσ H R=>tl σ H λv H1=>∃ x,v=.str x/\R (Ixs x) H1
theorem qqu {l:Expr} {tl:TE} (hl:PE X l tl):PI X tg l (iText tl):=by
 intro pins s σ H R I h
 refine thn (hl pins s σ H _ I h) λv s1 ⟨y,H1,I1,r1,q1⟩ => ?_
 obtain ⟨x,e,q⟩:=q1
 subst e
 obtain ⟨t,rfl⟩:=r1
 have fo:∀ b ∈ [s1.heap.objs.size],qei X pins H1 b:=λb hb=>by
  have e:b=s1.heap.objs.size:=by simpa using hb
  subst e
  exact I1.fpOk (Az _) (I1.hok.fresh (Az _))
 cases ha:x.cps.all (· < 128)
 .exact wpAny_pyIter_wide ha ⟨s1.heap.objs.size,[s1.heap.objs.size],_,_,H1,rfl,I1.kept (t':=s1.toks) λb o e=>Am _ e,
   qly (ty := "str_iterator") (t:=t) (by decide) (λA' hA=>Walks.strWide hA _ x t) (λ_ _ _ _ _ st h=>wpAny_pyIter_striter_wide st h),⟨_,A6 _ rfl,rfl,rfl⟩,fo,q⟩
 .exact wpAny_pyIter_ascii ha ⟨s1.heap.objs.size,[s1.heap.objs.size],_,_,H1,rfl,I1.kept (t':=s1.toks) λb o e=>Am _ e,
   qly (ty := "str_ascii_iterator") (t:=t) (by decide) (λA' hA=>Walks.strAscii hA _ x t) (λ_ _ _ _ _ st h=>wpAny_pyIter_striter_ascii st h),⟨_,A6 _ rfl,rfl,rfl⟩,fo,q⟩
end
theorem qjz {H:Hp} {x:Str}:qlx (Ixs x) H (x.cps.toList.map λc=>V.str ⟨#[c]⟩):=λH' _ =>
 ⟨λi v hv=>by
  rw [Ak] at hv
  cases q:x.cps.toList[i]? with
  | none=>rw [q] at hv; cases hv
  | some c =>
   rw [q] at hv
   have q':x.cps[i]?=some c:=by simpa using q
   have hi:i < x.cps.size:=(Cu.mp q').1
   refine ⟨hi,λy H2 hy=>⟨?_,hy.1⟩⟩
   obtain ⟨_,d,hd,rfl⟩:=hy
   rw [q'] at hd
   cases hd
   exact AG hv,by show _=x.cps.size; simp⟩
section
variable {X:Cx}
theorem qts (bs:List Bool):((Ba bs.length).all λj=>(bs[j]?).getD true)=bs.all λb=>b:=by
 rw [<- all_rangeD bs λb=>b]
 congr 1
theorem qlz (hc:X.calm=true):qej X (.builtin "all") (λxs H Q=>∃ (p:Addr) (bs:List Bool),xs=[V.ref p]/\SqL X.K H p (bs.map V.bl)/\Q (.bl (bs.all λb=>b)) H):=by
 intro pins s σ H xs us Q I r h
 obtain ⟨p,bs,rfl,hS,q⟩:=h
 obtain ⟨u,rfl,ru⟩:=Vals.one r
 cases ru
 obtain ⟨its,rv,pl,hz⟩:=I.list hS
 have hl:=rv.length
 rw [Ab] at hl
 have hne:p ≠ s.heap.objs.size:=by
  obtain ⟨o,ho,_⟩:=pl.isList
  exact AJ (A0 ho)
 refine call_all_walk (Dq pl.isList ⟨s.heap.objs.size,_,_,its.toArray.size,_,_,λj=>(bs[j]?).getD true,rfl,Walks.list (show X.A.in1.handled=none from I.ok.hd hc) _ p hne its.toArray,
  ⟨⟨_,A6 _ rfl,rfl,rfl⟩,pl.isList.at λo e=>Am _ e⟩,?_,λh' tk hk => ?_⟩)
 .intro i v s' Q' E' hv hq
  have hv':its[i]?=some v:=by simpa using hv
  cases e:bs[i]? with
  | none =>
   exfalso
   have h1:its.length <= i:=by rw [<- hl]; exact Ci.mp e
   rw [Ci.mpr h1] at hv'
   cases hv'
  | some b =>
   obtain ⟨u,hu,ru⟩:=rv.get (i:=i) (x:=.bl b) (by rw [Ak,e]; rfl)
   rw [hv'] at hu
   cases hu
   cases (show v=DZ b from ru)
   dsimp only at hq
   rw [e] at hq
   exact B9 hq
 .refine ⟨.bl _,H,I.kept (t':=tk) λb o e=>hk b o (λz => ?_) (Am _ e),rfl,?_⟩
  .have z':b=s.heap.objs.size:=by simpa using z
   exact absurd (A0 e) (by rw [z']; exact BZ _)
  .have e:its.toArray.size=bs.length:=by rw [Av,hl]
   rw [e]
   rw [qts]
   exact q
theorem qgq:OpR X (compareOp .LtE) (λx y H Q=>∃ i j,x=.str i/\y=.str j/\Q (.bl (!decide (j.cps.toList < i.cps.toList))) H):=by
 intro pins s σ H x y v u Q I rx ry h
 obtain ⟨i,j,rfl,rfl,q⟩:=h
 obtain ⟨t,rfl⟩:=rx
 obtain ⟨t',rfl⟩:=ry
 exact PySem.P.le_str (qa2 I q rfl)
theorem qpb:SlR X (λx lo hi H Q=>∃ z,x=.str z/\z.length <= Ax/\Q (.str (D9 z lo hi)) H):=by
 intro pins s σ H x v vl vu lo hi sl Q I rx hs pl pu h
 obtain ⟨z,rfl,hz,q⟩:=h
 obtain ⟨t,rfl⟩:=rx
 refine ⟨"str",_,F.slot_str_getitem.lookup,Eb _ _ _,?_⟩
 have fin:∀ t' k,EP X pins σ Q (.str (D9 z lo hi) t') { s with toks:=k }:=λt' k=>⟨.str _,H,I.tok k,⟨t',rfl⟩,q⟩
 cases pl with
 | none =>
  cases pu with
  | none=>exact CB (l:=none) (u:=none) (st:=none) hs rfl (DN ⟨A1 (Dx z _ _) hz,fin⟩)
  | int j uj=>exact CB (l:=none) (u:=some (j,uj)) (st:=none) hs rfl (DN ⟨A1 (Dx z _ _) hz,fin⟩)
 | int i ui =>
  cases pu with
  | none=>exact CB (l:=some (i,ui)) (u:=none) (st:=none) hs rfl (DN ⟨A1 (Dx z _ _) hz,fin⟩)
  | int j uj=>exact CB (l:=some (i,ui)) (u:=some (j,uj)) (st:=none) hs rfl (DN ⟨A1 (Dx z _ _) hz,fin⟩)
theorem qtt {a b} {es:List Expr} {env:Env}:starEach (.List a b :: es) env=(false,eval (.List a b) env) :: starEach es env:=by rw [starEach]; intro e p' h; cases h
theorem zy {a b c} {es:List Expr} {env:Env}:starEach (.Tuple a b c :: es) env=(false,eval (.Tuple a b c) env) :: starEach es env:=by rw [starEach]; intro e p' h; cases h
theorem qj0 {a b c d} {es:List Expr} {env:Env}:starEach (.ListComp a b c d :: es) env=(false,eval (.ListComp a b c d) env) :: starEach es env:=by rw [starEach]; intro e p' h; cases h
theorem zc {a b c} {es:List Expr} {env:Env}:starEach (.Constant a b c :: es) env=(false,eval (.Constant a b c) env) :: starEach es env:=by rw [starEach]; intro e p' h; cases h
theorem qm {a b} {es:List Expr} {env:Env}:starEach (.Name a b :: es) env=(false,eval (.Name a b) env) :: starEach es env:=by rw [starEach]; intro e p' h; cases h
theorem zu {a b c d} {es:List Expr} {env:Env}:starEach (.Call a b c d :: es) env=(false,eval (.Call a b c d) env) :: starEach es env:=by rw [starEach]; intro e p' h; cases h
theorem zw {a b c d} {es:List Expr} {env:Env}:starEach (.BinOp a b c d :: es) env=(false,eval (.BinOp a b c d) env) :: starEach es env:=by rw [starEach]; intro e p' h; cases h
theorem qnx {a b c d} {es:List Expr} {env:Env}:starEach (.Compare a b c d :: es) env=(false,eval (.Compare a b c d) env) :: starEach es env:=by rw [starEach]; intro e p' h; cases h
theorem zx {a b c} {es:List Expr} {env:Env}:starEach (.Subscript a b c :: es) env=(false,eval (.Subscript a b c) env) :: starEach es env:=by rw [starEach]; intro e p' h; cases h
theorem qci {a b c} {es:List Expr} {env:Env}:starEach (.Attribute a b c :: es) env=(false,eval (.Attribute a b c) env) :: starEach es env:=by rw [starEach]; intro e p' h; cases h
theorem qf1 {a b c} {es:List Expr} {env:Env}:starEach (.BoolOp a b c :: es) env=(false,eval (.BoolOp a b c) env) :: starEach es env:=by rw [starEach]; intro e p' h; cases h
end
section
variable {K:Af}
theorem qf2:B6 K (.type "str") (.type "str")=some true:=by kernel_rfl
theorem qf3:B6 K (.type "str") (.type "int")=some false:=by kernel_rfl
theorem qhm:B6 K (.type "str") (.type "bool")=some false:=by kernel_rfl
end
end Add
namespace Add
open PySem PySem.Spec PyProof.Rows L2
section
variable {prog:AM} {w:World} {A:AU} {E:Value->Ah->Prop} {h:Heap} {g:Array GenState} {d:Drawn} {t:Nat} {os:OsState}
variable {nm q:Str} {C N:Addr} {bs bm bmB:List Value} {hdct:Bool} {sn:List Str} {sub:List Value} {ab:Bool} {col:Option Bool} {dd:Option Addr} {k0 k1 k2 k3 k5:Option Value} {B Bn newId nid initId inN:String} {bmN:List Value}
noncomputable abbrev qf4 (qa9:List Value):Obj:={ cls:=.type "tuple",data:=.seq qa9.toArray }
noncomputable abbrev qek (C t:Addr):Obj:={ cls:=.ref C,data:=.fields #[.ref t,.none,.none,.none,.bool false,.none] }
theorem qk9 (Fn:ExcBaseFacts Bn newId inN bmN) (hBn:bmB.contains (.type Bn)=true) (F:ExcBaseFacts B nid initId bmB) (T:OwnTail h bmB bm) {mN:Str->Option Value} {qa9:List Value} {R:Result->Ah->Prop} {fI:Addr} {A':AU}
  (hC:h.get? C=some (excClassObj nm q C N bs bm hdct sn sub ab col dd k0 k1 k2 k3 k5 newId)) (hn:h.Ns N mN) (hni:mN "__init__" = some (.ref fI)) (hb:∀ self,BA (model prog w) h (bindSpecial (.ref fI) self) (.ref fI,[self]))
  (hq:codeAny (model prog w) A (.call (.ref fI) ⟨.ref (h.objs.size + 1) :: qa9,[]⟩) (PySem.W.InitBack (h.objs.size + 1) R) ⟨(h.push (qf4 qa9)).push (qek C h.objs.size),g,d,t,os⟩) (hrest:qa9.length <= Ax) :
  wpAny (model prog w) A (AO.«type.__call__» ⟨.ref C :: qa9,[]⟩) (λfin s'=>match fin with | .done f=>R (.ok f) s' | .again c'=>c'.quiet=true/\codeAny (model prog w) A' c' R s') (λe s'=>R (.error e) s') ⟨h,g,d,t,os⟩:=by
 repeat (first | with_reducible refine Eh hC ?_ | with_reducible refine wpAny_madeBy_exc hC ?_ | wp_step)
 refine codeAny_call_builtin_code (Code.quiet_builtin _ Fn.quiet) (wpAny_check_new_subU Fn hBn T hC ?_)
 refine codeAny_exc_new_subU Fn hBn F T hC ?_ hrest
 show wpAny _ _ _ _ _ _
 have kk:∀ b o,h.get? b=some o->((h.push (qf4 qa9)).push (qek C h.objs.size)).get? b=some o:=λb o e=>Am _ (Am _ e)
 have hC₁:=kk _ _ hC
 have hn₁:((h.push (qf4 qa9)).push (qek C h.objs.size)).Ns N mN:=let ⟨o,es,ep,e,r⟩:=hn; ⟨o,es,ep,kk _ _ e,r⟩
 have hget:((h.push (qf4 qa9)).push (qek C h.objs.size)).get? (h.objs.size + 1)=some (qek C h.objs.size):=by heap_get
 have hcC:(Al C :: bm).contains (.ref C)=true:=by simp
 have T₁:=T.keeps (h':=(h.push (qf4 qa9)).push (qek C h.objs.size)) kk
 have b1:=(hb (.ref (h.objs.size + 1))).keeps kk
 unfold isInstance
 repeat (first | with_reducible refine Eh hget ?_ | (with_reducible refine wpAny_isSubtype_exc hC₁ ?_; rw [hcC]) | wp_step)
 show wpAny _ _ (typeLookup (.ref C) _) _ _ _
 refine wpAny_typeLookup_tail hC₁ hn₁ T₁ F.mroIs F.init.lookup ?_
 rw [hni]
 refine Ca (Ad (b1.here ?_))
 refine Ad (CG (CH hq λr s' z => ?_))
 rcases r with e | (v | _ | _ | _) <;> first | exact z | exact z.elim | skip
 obtain ⟨rfl,z⟩:=z
 exact Ay (Ay z)
end
end Add
namespace Add
open PySem PySem.Spec PyProof.Rows L2
section
open PySem.W
variable {prog:AM} {w:World} {A:AU} {E:Value->Ah->Prop} {s:Ah} {K:Frag} {x C:Addr} {ox:Obj} {od:Option Obj} {name:Str} {expr:Bool}
theorem qv6:builtinKind "BaseException.__getattribute__" = some .slot:=by decide +kernel
theorem qtu:splitId "BaseException.__getattribute__" = some ("BaseException", "__getattribute__"):=by decide +kernel
theorem qyh:(Value.builtin "BaseException.__getattribute__" == Value.builtin "object.__getattribute__")=false:=by decide +kernel
structure XGet (K:Frag) (C:Addr):Prop where
 ga:findIn K (.ref C) "__getattribute__" = some (some (.builtin "BaseException.__getattribute__"))
 hk:findIn K (.ref C) "__getattr__" = some none
 sub:mroIn K C (.type "BaseException")=some true
theorem qtv {fill:Bool} {tk:Tok} {Q:Value->Ah->Prop} (X:K.In s.heap) (I:InstAt s.heap x ox C od) (c:XGet K C)
  (h:wpAny (model prog w) A.in1 (AO.«object.__getattribute__» ⟨[.ref x,.str name tk],[]⟩)
   (λfin s'=>match fin with | .done (.ret v)=>wpAny (model prog w) A (handedOut v) Q E s' | _=>False) (λ_ _=>False) s) :
  wpAny (model prog w) A (getAttrBy (.ref x) (.str name tk) fill expr) Q E s:=by
 obtain ⟨hh,g,d,t,os⟩:=s
 have L0:=I.type (M:=model prog w)
 have L1:=looks_findIn (M:=model prog w) X c.ga
 have L2:=looks_findIn (M:=model prog w) X c.hk
 have sb:Looks (model prog w) hh (isInstance (.ref x) (.type "BaseException")) true:=L0.andThen (looks_mroIn X c.sub)
 unfold getAttrBy
 refine Ca (Ad (L0.at (Ad (L1.at ?_))))
 dsimp only
 rw [qyh,CV,if_neg (by decide)]
 unfold getAttrByItsOwn hookBefore
 refine Ad ?_
 show wpAny _ _ (typeLookup (.ref C) "__getattr__") _ _ _
 refine L2.at (Ad (wpAny_attempt (Ca ?_)))
 have e1:callGetattribute (.ref x) (.str name tk) (.builtin "BaseException.__getattribute__") expr=boundAndCalled (.builtin "BaseException.__getattribute__") (.ref x) (.str name tk):=by
  cases expr <;> rfl
 rw [e1]
 unfold boundAndCalled
 rw [PySem.F.attr_ValueError.ga.bind (.ref x)]
 refine Ad (Ay (CG ?_))
 refine DH PySem.F.attr_ValueError.ga.plain PySem.F.entry_bexc_ga (@check_slot (model prog w) _ _ ⟨hh,g,d,t,os⟩ "BaseException.__getattribute__" "BaseException" "__getattribute__" (.ref x) [.str name tk] [] _ qv6 qtu sb (PySem.F.args_bexc_ga (.ref x) (.str name tk)) ?_)
 refine BL h (λfin s' z => ?_) λ_ _ z=>z.elim
 rcases fin with (_ | _ | _ | _) | _ <;> first | exact z | exact z.elim
theorem qtw {Q:Value->Ah->Prop} (X:K.In s.heap) (I:InstAt s.heap x ox C od) (c:XGet K C)
  (h:wpAny (model prog w) A.in1 (AO.«object.__getattribute__» ⟨[.ref x,.str name s.toks],[]⟩)
   (λfin s'=>match fin with | .done (.ret v)=>wpAny (model prog w) A (handedOut v) Q E s' | _=>False) (λ_ _=>False) { s with toks:=s.toks + 1 }) :
  wpAny (model prog w) A (getAttr (.ref x) name expr) Q E s:=by
 unfold getAttr
 exact Ad (wpAny_mkText (qtv (s:={ s with toks:=s.toks + 1 }) X I c h))
theorem qr0 {v:Value} {Q:Value->Ah->Prop} (X:K.In s.heap) (I:InstAt s.heap x ox C od) (c:XGet K C) (hf:findObj K C od name=some (.value v)) (hh:handedIn v=true) (h:Q v { s with toks:=s.toks + 1 }) :
  wpAny (model prog w) A (getAttr (.ref x) name expr) Q E s:=by
 refine qtw X I c ?_
 obtain ⟨hh',g,d,t,os⟩:=s
 have L0:=I.type (M:=model prog w)
 have L1:=looks_find (M:=model prog w) X I hf
 unfold AO.«object.__getattribute__»
 refine Ad (Ay (Ad (Ay (Ad (L0.at (Ad (L1.at ?_)))))))
 refine Ay ?_
 show wpAny _ _ (handedOut v) _ _ _
 rw [handedOut_of hh]; exact Ay h
end
end Add
namespace Add
open PySem PySem.Spec PyProof.Rows L2
section
open PySem.W
variable {prog:AM} {w:World} {A:AU} {E:Value->Ah->Prop} {s:Ah} {K:Frag} {x C:Addr} {ox:Obj} {od:Option Obj} {name:Str} {expr:Bool}
structure XIs (K:Frag) (C:Addr):Prop extends XGet K C where
 dct:hasDictIn K C=true
 cls:findIn K (.ref C) "__class__" = some (some (.builtin "object.__class__"))
 get:specialIn K (.builtin "object.__class__") "__get__" = some (some (.builtin "getset_descriptor.__get__"))
 tak:takesIn K (.builtin "object.__class__")=some true
 obj:mroIn K C (.type "object")=some true
theorem qpc (c:XIs K C):findObj K C od "__class__" = some (.bind (.builtin "getset_descriptor.__get__") (.builtin "object.__class__")):=by
 obtain ⟨cd,hc,_⟩:=any_some c.dct
 unfold findObj
 rw [hc,BX,c.cls,BX]
 dsimp only
 rw [c.get,BX]
 dsimp only
 rw [c.tak,BX]
theorem qpd {M:Model} {h:Heap} (c:hasDictIn K C=true) (X:K.In h):Looks M h (isType (.ref C)) true:=by
 obtain ⟨cd,hc,_⟩:=any_some c
 unfold clsIn at hc
 split at hc
 .rename_i c' d' cd' sl' ho
  intro A' Q' E' s' k q
  unfold isType loadHead
  exact Ad (Ea (k _ _ (X _ _ ho)) (Ay q))
 .cases hc
theorem qv7 {h:Heap} {tp:Addr} {dd:Option Addr} {its:List Value} {n:Nat} {sl:Array (Option Value)} (c:hasDictIn K C=true) (X:K.In h) (htp:h.get? tp=some ⟨.type "tuple",dd,.seq its.toArray n,sl⟩):(Al C == .ref tp)=false:=by
 obtain ⟨cd,hc,_⟩:=any_some c
 refine Ei.mpr λq => ?_
 have e:C=tp:=Al.inj (beq_iff_eq.mp q)
 subst e
 unfold clsIn at hc
 split at hc
 .rename_i c' d' cd' sl' ho
  have z:=(X _ _ ho).symm.trans htp
  cases z
 .cases hc
theorem qr1 {Q:Option Value->Ah->Prop} (X:K.In s.heap) (I:InstAt s.heap x ox C od) (c:XIs K C) (h:Q (some (.ref C)) { s with toks:=s.toks + 1 }):wpAny (model prog w) A (getAttr? (.ref x) "__class__") Q E s:=by
 unfold getAttr? getAttrBy?
 refine Ad (wpAny_mkText (Ad (wpAny_attempt (qtv (s:={ s with toks:=s.toks + 1 }) X I c.toXGet ?_))))
 obtain ⟨hh',g,d,t,os⟩:=s
 have L0:=I.type (M:=model prog w)
 have L1:=looks_find (M:=model prog w) X I (qpc (od:=od) c)
 unfold AO.«object.__getattribute__»
 refine Ad (Ay (Ad (Ay (Ad (L0.at (Ad (L1.at ?_)))))))
 show wpAny _ _ (AO.ObjectAttr.bindTo (.builtin "getset_descriptor.__get__") (.builtin "object.__class__") (.ref x) (.ref C)) _ _ _
 unfold AO.ObjectAttr.bindTo
 refine Ad (Ca (CG (class_get (s:=⟨hh',g,d,t + 1,os⟩) (ox:=ox) (od:=od) X I c.obj ?_)))
 refine Ay ?_
 show wpAny _ _ (handedOut (.ref C)) _ _ _
 rw [handedOut_of rfl]
 exact Ay (Ay h)
theorem qny (c:XIs K C):KitX K (.ref x) (.ref C) (λh=>∃ ox od,InstAt h x ox C od) where
 ty:=λ_ _ _ ⟨_,_,I⟩=>I.type
 it:=λ_ _ X _=>qpd c.dct X
 ne:=λh tp dd its n sl X htp=>qv7 c.dct X htp
 ca:=λX ⟨_,_,I⟩ k=>qr1 X I c k
noncomputable abbrev VE:List Value:=[.type "ValueError",.type "Exception",.type "BaseException",.type "object"]
noncomputable def qnz:List Value->Bool
 | .ref _ :: r=>qnz r
 | l=>l == VE
theorem qj1 (self:Value):∀ {l:List Value},qnz l=true->refuseLoop self "__setattr__" l=pure ()/\l.isEmpty=false/\l.contains (.type "object")=true
 | [],e=>by cases e
 | .ref c :: r,e=>by
  obtain ⟨a,b,d⟩:=qj1 self (l:=r) e
  exact ⟨by rw [refuseLoop_ref]; exact a,rfl,by rw [List.contains_cons,d,Bool.or_true]⟩
 | .type n :: r,e=>by
  have e':(.type n :: r:List Value)=VE:=beq_iff_eq.mp e
  rw [e']
  exact ⟨PySem.F.store_ValueError.passes self,rfl,by decide⟩
 | .none :: r,e=>by have e':=beq_iff_eq.mp (show ((.none :: r:List Value) == VE)=true from e); cases e'
 | .bool _ :: r,e=>by have e':=beq_iff_eq.mp (show ((.bool _ :: r:List Value) == VE)=true from e); cases e'
 | .int _ _ :: r,e=>by have e':=beq_iff_eq.mp (show ((.int _ _ :: r:List Value) == VE)=true from e); cases e'
 | .float _ _ :: r,e=>by have e':=beq_iff_eq.mp (show ((.float _ _ :: r:List Value) == VE)=true from e); cases e'
 | .str _ _ :: r,e=>by have e':=beq_iff_eq.mp (show ((.str _ _ :: r:List Value) == VE)=true from e); cases e'
 | .bytes _ _ :: r,e=>by have e':=beq_iff_eq.mp (show ((.bytes _ _ :: r:List Value) == VE)=true from e); cases e'
 | .builtin _ :: r,e=>by have e':=beq_iff_eq.mp (show ((.builtin _ :: r:List Value) == VE)=true from e); cases e'
end
end Add
namespace Add
open PySem PySem.Spec PyProof.Rows L2
section
open PySem.W
variable {prog:AM} {w:World} {A:AU} {E:Value->Ah->Prop} {s:Ah} {K:Frag} {x C:Addr} {o:Obj} {name:Str} {v:Value}
structure XSet (K:Frag) (C:Addr) (name:Str):Prop where
 sa:findIn K (.ref C) "__setattr__" = some (some (.builtin "object.__setattr__"))
 no:findIn K (.ref C) name=some none
 cd:((clsIn K C).any λcd=>qnz cd.mro && cd.hasDict)=true
theorem qv8 {tk:Tok} {R:Result->Ah->Prop} (X:K.In s.heap) (hx:s.heap.get? x=some o) (hc:o.cls=.ref C) (c:XSet K C name)
  (h:wpAny (model prog w) A.in1 (AO.ObjectAttr.storeInOwnDict (.ref x) (.ref C) (.str name tk) name v false)
   (λfin s'=>match fin with | .done f=>R (.ok f) s' | .again c'=>c'.quiet=true/\codeAny (model prog w) A c' R s') (λe s'=>R (.error e) s') s) :
  codeAny (model prog w) A (.call (.builtin "object.__setattr__") ⟨[.ref x,.str name tk,v],[]⟩) R s:=by
 have SF:=PySem.F.store_object
 obtain ⟨cd,hcd,ho⟩:=any_some c.cd
 simp only [AI] at ho
 obtain ⟨rf,ne,has⟩:=qj1 (.ref x) ho.1
 have L0:Looks (model prog w) s.heap (typeOf (.ref x)) (.ref C):=hc ▸ (Looks.ld hx).andThen .now
 have sub:Looks (model prog w) s.heap (isInstance (.ref x) (.type "object")) true:=L0.andThen (looks_mroIn X (by unfold mroIn; rw [hcd,BX,if_neg (by rw [ne]; decide),has]))
 have hm:Looks (model prog w) s.heap (mroOf (.ref C)) cd.mro:=(looks_clsIn X hcd).andThen .now
 have LN:=looks_findIn (M:=model prog w) X c.no
 refine DH SF.slot.plain SF.entry (@check_slot (model prog w) _ _ s "object.__setattr__" "object" "__setattr__" (.ref x) [.str name tk,v] [] _ SF.kind SF.split sub (SF.args (.ref x) (.str name tk) v) ?_)
 rw [osa_eq,refuse_eq]
 refine Ad (Ad (L0.here (Ad (hm.here ?_))))
 rw [rf]
 refine Ay (Ad (L0.here (Ad (LN.here (Ad (Ay ?_))))))
 exact h
noncomputable abbrev qc8 (C:Addr) (od:Option Addr) (vs:Array Value) (sl:Array (Option Value)):Obj:={ cls:=.ref C,dict:=od,data:=.fields vs,slots:=sl }
theorem qtx {Q:Unit->Ah->Prop} {od:Option Addr} {vs:Array Value} {sl:Array (Option Value)} (X:K.In s.heap) (hx:s.heap.get? x=some (qc8 C od vs sl)) (c:XSet K C name)
  (h:wpAny (model prog w) A.in1 (AO.ObjectAttr.storeInOwnDict (.ref x) (.ref C) (.str name s.toks) name v false) (λfin s'=>fin=.done (.ret .none)/\Q () s') (λ_ _=>False) { s with toks:=s.toks + 1 }) :
  wpAny (model prog w) A (setAttr (.ref x) name v) Q E s:=by
 have L0:Looks (model prog w) s.heap (typeOf (.ref x)) (.ref C):=(Looks.ld hx).andThen .now
 have LS:=looks_findIn (M:=model prog w) X c.sa
 refine Ad (wpAny_mkText (Ad (Ad (Ad (L0 _ _ _ _ (λ_ _ e=>e) (LS _ _ _ _ (λ_ _ e=>e) (Ca ?_)))))))
 rw [PySem.F.store_object.slot.bind]
 refine Ad (Ay (Ad (CG (qv8 (s:={ s with toks:=s.toks + 1 }) X hx rfl c (BL h (λfin s' z => ?_) λ_ _ z=>z.elim)))))
 obtain ⟨rfl,z⟩:=z
 exact Ay (Ay z)
theorem qty {Q:Unit->Ah->Prop} {vs:Array Value} {sl:Array (Option Value)} (X:K.In s.heap) (hx:s.heap.get? x=some (qc8 C none vs sl)) (c:XSet K C name)
  (h:∀ h' tk',h'.get? x=some (qc8 C (some s.heap.objs.size) vs sl)->h'.Ns1 s.heap.objs.size (λy=>if y=name then some v else none)->(∀ b ob,b ≠ x->s.heap.get? b=some ob->h'.get? b=some ob)->Q () { s with heap:=h',toks:=tk' }) :
  wpAny (model prog w) A (setAttr (.ref x) name v) Q E s:=by
 obtain ⟨cd,hcd,ho⟩:=any_some c.cd
 simp only [AI] at ho
 refine qtx X hx c ?_
 obtain ⟨hp,g,d,t,os⟩:=s
 unfold AO.ObjectAttr.storeInOwnDict AO.ObjectAttr.ownDictForStores instanceDict
 refine Ad (Ay (Ad (Ad (Ea hx (Ad ((looks_clsIn X hcd).at ?_))))))
 rw [ho.2]
 have hxs:x ≠ hp.objs.size:=AJ (A0 hx)
 have hx1:(hp.push emptyDict).get? x=some (qc8 C none vs sl):=Am _ hx
 show wpAny _ _ (alloc emptyDict >>= _) _ _ _
 refine Ad (wpAny_alloc' (Ad (wpAny_update' hx1 ?_)))
 refine Ay ?_
 have hgd:((hp.push emptyDict).update x λo=>{ cls:=o.cls,dict:=some hp.objs.size,data:=o.data,slots:=o.slots }).get? hp.objs.size=some emptyDict:=(Heap.get?_update_ne _ _ _ _ hxs.symm).trans (Heap.get?_push_at rfl rfl)
 have hnd:((hp.push emptyDict).update x λo=>{ cls:=o.cls,dict:=some hp.objs.size,data:=o.data,slots:=o.slots }).Ns hp.objs.size (λ_=>none):=⟨_,#[],_,hgd,rfl,λe he=>absurd he (by simp),λ_=>rfl⟩
 show wpAny _ _ (AO.ObjectAttr.storeInDict hp.objs.size (.str name t) name v) _ _ _
 unfold AO.ObjectAttr.storeInDict AO.ObjectAttr.newKeyGuard
 refine Ad (Ay (Ad (wpAny_nsSet1 (Heap.Ns1.of_empty hnd) λh' hn' hs => ?_)))
 obtain ⟨oD,esD,epD,hoD,hdD,hcD⟩:=hn'.count (Within.cons name v Within.nil)
 refine Ad (wpAny_lookBehind hoD (by rw [hdD]; exact pastItsLine_dict (A1 hcD (by rw [An,Cg,Bi]; lia))) ?_)
 refine Ay ⟨rfl,h h' _ ?_ hn' λb ob hb e => ?_⟩
 .exact (hs.2 x hxs).trans (B1 _ hx1 rfl)
 .exact (hs.2 b (AJ (A0 e))).trans ((Heap.get?_update_ne _ _ _ _ hb).trans (Am _ e))
theorem qtz {Q:Unit->Ah->Prop} {dx:Addr} {vs:Array Value} {sl:Array (Option Value)} {mA:Str->Option Value} {ns:List Str} (X:K.In s.heap) (hx:s.heap.get? x=some (qc8 C (some dx) vs sl)) (hn:s.heap.Ns1 dx mA) (hne:dx ≠ x) (hw:Within mA ns) (hsz:ns.length <= 1000) (c:XSet K C name)
  (h:∀ h' tk',h'.Ns1 dx (λy=>if y=name then some v else mA y)->Cl dx s.heap h'->Q () { s with heap:=h',toks:=tk' }) :
  wpAny (model prog w) A (setAttr (.ref x) name v) Q E s:=by
 obtain ⟨cd,hcd,ho⟩:=any_some c.cd
 simp only [AI] at ho
 refine qtx X hx c ?_
 obtain ⟨hp,g,d,t,os⟩:=s
 unfold AO.ObjectAttr.storeInOwnDict AO.ObjectAttr.ownDictForStores instanceDict
 refine Ad (Ay (Ad (Ad (Ea hx (Ad ((looks_clsIn X hcd).at ?_))))))
 rw [ho.2]
 refine Ay (a:=some dx) ?_
 show wpAny _ _ (AO.ObjectAttr.storeInDict dx (.str name t) name v) _ _ _
 unfold AO.ObjectAttr.storeInDict AO.ObjectAttr.newKeyGuard
 refine Ad (Ay (Ad (wpAny_nsSet1 hn λh' hn' hs => ?_)))
 obtain ⟨oD,esD,epD,hoD,hdD,hcD⟩:=hn'.count (Within.cons name v hw)
 refine Ad (wpAny_lookBehind hoD (by rw [hdD]; exact pastItsLine_dict (A1 hcD (by rw [An,Bi]; lia))) ?_)
 exact Ay ⟨rfl,h h' _ hn' hs⟩
end
end Add
namespace Add
open PySem PySem.Spec PyProof.Rows L2
noncomputable def qn0 (K:Af) (C:Addr) (ini:Option Value):Bool:=match K.lookup C with
 | some ⟨.type "type",_,.cls cd,sl⟩=>(match cd.mro,sl.toList with
  | .ref C' :: bm,[_,_,_,_,some (.builtin n),_]=>C' == C && n == "ValueError.__new__" && !cd.hasDel && PySem.W.tailIn K VE bm && PySem.W.nsOkIn K cd.ns && AC K cd.ns "__init__" == some ini
  | _,_=>false)
 | _=>false
theorem ns_in {K:Af} {h:Heap} {N:Addr} {mg:Str->Option Value} {n:Str} {v:Value} (X:K.In h) (G:h.Ns N mg) (e:AC K N n=some (some v)):mg n=some v:=by
 obtain ⟨o,es,ep,ho,hd,_,hf⟩:=G
 unfold AC at e
 split at e
 .rename_i c d es' n' sl q
  have:=X _ _ q
  rw [ho] at this
  cases this
  cases hd
  split at e
  .rename_i en he
   cases e
   rw [<- hf]
   unfold nsFind findBy
   rw [<- Array.find?_toList,he]
   rfl
  .split at e <;> cases e
 .cases e
theorem qxt {K:Af} {h:Heap} {C:Addr} {ini:Option Value} (X:K.In h) (q:qn0 K C ini=true):∃ (bm:List Value) (N:Addr) (nm qn:Str) (bs:List Value) (hd:Bool) (sn:List Str) (sub:List Value) (ab:Bool) (col:Option Bool) (dd:Option Addr) (k0 k1 k2 k3 k5:Option Value) (mN:Str->Option Value),
  h.get? C=some (excClassObj nm qn C N bs bm hd sn sub ab col dd k0 k1 k2 k3 k5 "ValueError.__new__")/\h.Ns N mN/\mN "__init__" = ini/\OwnTail h VE bm:=by
 unfold qn0 at q
 split at q
 .rename_i dd cd sl ho
  split at q
  .rename_i C' bm k0 k1 k2 k3 n k5 hm hs
   simp only [AI,beq_iff_eq,Bool.not_eq_true'] at q
   obtain ⟨⟨⟨⟨⟨rfl,rfl⟩,hdel⟩,ht⟩,hok⟩,hni⟩:=q
   obtain ⟨nm,bs,mro,ns,qn,hd,sn,sub,ab,col,del⟩:=cd
   dsimp only at hm hdel hok hni
   subst hm hdel
   have hsl:sl=#[k0,k1,k2,k3,some (.builtin "ValueError.__new__"),k5]:=by
    obtain ⟨l⟩:=sl
    simp only at hs
    rw [hs]
   subst hsl
   have G:h.Ns ns (h.nsMap ns):=.of_isNs (PySem.W.isNs_of_in X hok)
   refine ⟨bm,ns,nm,qn,bs,hd,sn,sub,ab,col,dd,k0,k1,k2,k3,k5,_,X _ _ ho,G,?_,PySem.W.tail_of_in X ht⟩
   cases ini with
   | none=>exact PySem.W.ns_none_of X G hni
   | some v=>exact ns_in X G hni
  .cases q
 .cases q
section
variable {prog:AM} {w:World} {A:AU} {E:Value->Ah->Prop} {K:Af} {C fI:Addr} {s:Ah} {qa9:List Value}
theorem qt0 {R:Result->Ah->Prop} {nm q:Str} {N:Addr} {bs bm:List Value} {hdct:Bool} {sn:List Str} {sub:List Value} {ab:Bool} {col:Option Bool} {dd:Option Addr} {k0 k1 k2 k3 k5:Option Value} {newId:String}
  (hC:s.heap.get? C=some (excClassObj nm q C N bs bm hdct sn sub ab col dd k0 k1 k2 k3 k5 newId))
  (h:wpAny (model prog w) (A.under (.builtin "type.__call__" ⟨.ref C :: qa9,[]⟩)) (AO.«type.__call__» ⟨.ref C :: qa9,[]⟩)
   (λfin s'=>match fin with | .done f=>R (.ok f) s' | .again c'=>c'.quiet=true/\codeAny (model prog w) A c' R s') (λe s'=>R (.error e) s') s) :
  codeAny (model prog w) A (.call (.ref C) ⟨qa9,[]⟩) R s:=by
 obtain ⟨hp,g,d,t,os⟩:=s
 have f1:=tc_lookup
 have f2:=tc_bind (.ref C)
 have hT:(⟨hp,g,d,t,os⟩:Ah).TypeIs (.ref C) "type" := ⟨_,hC,rfl⟩
 refine codeAny_of_tree ?_
 show wpAny _ _ (callAny (.ref C) _) _ _ _
 repeat (any_goals (first | assumption | with_reducible refine Eh hC ?_ | wp_step))
 refine ⟨rfl,?_⟩
 exact codeAny_call_builtin_at (Code.quiet_builtin _ (by decide +kernel)) entry_typeCall (wpAny_check_type_call_sub hC h)
theorem qt1 {R:Result->Ah->Prop} (X:K.In s.heap) (c:qn0 K C (some (.ref fI))=true) (hf:Cc K (.ref fI)=some (.type "function")) (hrest:qa9.length <= Ax)
  (h:codeAny (model prog w) (A.under (.builtin "type.__call__" ⟨.ref C :: qa9,[]⟩)) (.call (.ref fI) ⟨.ref (s.heap.objs.size + 1) :: qa9,[]⟩) (PySem.W.InitBack (s.heap.objs.size + 1) R)
   { s with heap:=(s.heap.push (qf4 qa9)).push (qek C s.heap.objs.size) }) :
  codeAny (model prog w) A (.call (.ref C) ⟨qa9,[]⟩) R s:=by
 obtain ⟨bm,N,nm,qn,bs,hd,sn,sub,ab,col,dd,k0,k1,k2,k3,k5,mN,hC,hn,hi,T⟩:=qxt X c
 obtain ⟨hp,g,d,t,os⟩:=s
 exact qt0 hC (qk9 CW (by decide) CW T hC hn hi (λself=>PySem.W.bind_fn X self hf) h hrest)
end
end Add
namespace Add
open PySem PySem.Spec PyProof.Rows L2
noncomputable abbrev Sz6 (vs:Array Value):Prop:=vs.size=6/\vs[2]?=some .none
noncomputable def exO (x C:Addr) (od:Option Addr) (fr:Bool):HO:=.ext λh=>∃ (vs:Array Value) (sl:Array (Option Value)),h.get? x=some (qc8 C od vs sl)/\Sz6 vs/\(fr=true->sl=#[]/\∃ t:Addr,vs=#[.ref t,.none,.none,.none,.bool false,.none])
noncomputable def exD (dx:Addr) (fs:List (Str × V)):HO:=.ext λh=>∃ mA,h.Ns1 dx mA/\(∀ f,RelO (fs.lookup f) (mA f))/\Db mA (fs.map (·.1))
section
variable {P:AM} {w:World} {H:Hp} {h:Heap} {x C dx:Addr} {od:Option Addr} {fr:Bool} {fs:List (Str × V)}
theorem qmy {vs:Array Value} {sl:Array (Option Value)} (e:h.get? x=some (qc8 C od vs sl)) (z:Sz6 vs) (f:fr=true->sl=#[]/\∃ t:Addr,vs=#[.ref t,.none,.none,.none,.bool false,.none]):ObjOk P w H h x (exO x C od fr) :=
 ⟨⟨vs,sl,e,z,f⟩,⟨_,e⟩,λ_ h2 ⟨vs,sl,e,z,f⟩ k=>⟨vs,sl,k _ e,z,f⟩⟩
theorem qt2 {mA:Str->Option Value} (n:h.Ns1 dx mA) (r:∀ f,RelO (fs.lookup f) (mA f)) (wi:Db mA (fs.map (·.1))):ObjOk P w H h dx (exD dx fs) :=
 ⟨⟨mA,n,r,wi⟩,let ⟨o,_,_,e,_⟩:=n; ⟨o,e⟩,λ_ h2 ⟨mA,n,r,wi⟩ k=>⟨mA,n.at λo q=>k o q,r,wi⟩⟩
theorem qel (ok:HOk P w H h) (e:H x=some (exO x C od fr)):∃ vs sl,h.get? x=some (qc8 C od vs sl)/\Sz6 vs/\(fr=true->sl=#[]/\∃ t:Addr,vs=#[.ref t,.none,.none,.none,.bool false,.none]):=(ok x _ e).1
theorem qmz (ok:HOk P w H h) (e:H dx=some (exD dx fs)):∃ mA,h.Ns1 dx mA/\(∀ f,RelO (fs.lookup f) (mA f))/\Db mA (fs.map (·.1)):=(ok dx _ e).1
theorem qxu (ok:HOk P w H h) (e:H x=some (exO x C od fr)) (e':H dx=some (exD dx fs)):dx ≠ x:=λz=>by
 obtain ⟨vs,sl,q,_⟩:=qel ok e
 obtain ⟨mA,⟨o,es,ep,q',d,_⟩,_⟩:=qmz ok e'
 rw [z,q] at q'
 cases q'
 cases d
end
theorem qn1 {H:Hp} {a:Addr} {o:HO} (h:H a=some o):upd H a o=H:=by
 funext b
 unfold upd
 by_cases e:b=a
 .rw [if_pos e,e,h]
 .rw [if_neg e]
section
variable {X:Cx} {pins:List (Addr × Obj)} {σ:L2.St} {H:Hp} {s:Ah} {A:AU} {E:Value->Ah->Prop}
theorem qv9 {C:Addr} {t:Addr} {h':Heap} {tk:Nat} (I:Inv X pins σ H s) (k:∀ b o,s.heap.get? b=some o->h'.get? b=some o) (e:h'.get? (s.heap.objs.size + 1)=some (qek C t)) :
  Inv X pins σ (upd H (s.heap.objs.size + 1) (exO (s.heap.objs.size + 1) C none true)) { s with heap:=h',toks:=tk } :=
 I.laid (a:=s.heap.objs.size + 1) k (Cs _) (qmy (vs:=#[.ref t,.none,.none,.none,.bool false,.none]) (sl:=#[]) e ⟨rfl,rfl⟩ λ_=>⟨rfl,t,rfl⟩)
noncomputable def tExcI (C:Addr) (sp:Sp) (dvs:List V) (E:XK) (t:TA):TE:=λσ H Q=>t σ H λvs H1=>vs.length <= Ax/\∀ x,H1 x=none->sp (.ref x :: (vs ++ dvs)) (upd H1 x (exO x C none true)) (λv H2=>v=.non/\Q (.ref x) H2) E
variable {CX:CXT} {k:Nat} {f:Addr} {fd:AB} {ps:List Str} {sp:Sp} {ds:List Value} {dvs:List V} {EX:XK}
theorem qd7 {C:Addr} {x:Str} {p pos:Pos} {e:Expr} {es:List Expr} {t:TA} (c:qn0 X.K C (some (.ref f))=true) (hf:Cc X.K (.ref f)=some (.type "function")) (F:FnOk X.prog X.w X.K X.mg X.base CX k f fd ps sp) (hr:Room (k + 1) X.A) (hg:Gl X x) (hm:X.mg x=some (.ref C))
  (hk:Bg X.K (.ref C)=true) (hb:Binds X.K fd ps ds) (hd:Vals dvs ds) (hx:qfu CX X EX) (ha:PA X (e :: es) t)
  (hdb:(x == ("__debug__" : Str))=false:=by decide) (he:starEach (e :: es) X.env=(false,eval e X.env) :: starEach es X.env:=by rfl) (hpl:(backTo pos (starEach es X.env)).any (·.1)=false:=by rfl) :
  PE X (.Call (.Name x p) (e :: es) [] pos) (tExcI C sp dvs EX t):=by
 intro pins s0 σ H0 Q I0 h
 refine BG (qev I0 hg hm ?_ hdb)
 refine CI (h₀:=X.base) I0.ok.mod.kin hk (thn (ha pos pins s0 σ H0 _ I0 h) λus s ⟨vs,H,I,r,hz,q⟩=>⟨I.kIn,?_⟩) he hpl
 have hl0:=r.length
 have hq:=q (s.heap.objs.size + 1) (I.hok.fresh (Cs _))
 have hget:((s.heap.push (qf4 us)).push (qek C s.heap.objs.size)).get? (s.heap.objs.size + 1)=some (qek C s.heap.objs.size):=by heap_get
 have I2:=qv9 (C:=C) (t:=s.heap.objs.size) (h':=(s.heap.push (qf4 us)).push (qek C s.heap.objs.size)) (tk:=s.toks) I (λb o e=>Am _ (Am _ e)) hget
 have r2:Vals (V.ref (s.heap.objs.size + 1) :: (vs ++ dvs)) (Al (s.heap.objs.size + 1) :: (us ++ ds)):=.cons rfl (r.append hd)
 have hl:(Al (s.heap.objs.size + 1) :: us ++ ds).length=ps.length:=by
  have e:=r2.length
  rw [F.len _ _ _ _ hq] at e
  exact e.symm
 refine CG (qt1 I.kIn c hf (by show us.length <= _; lia) (CH (F.run _ X.stack _ _ ⟨Al (s.heap.objs.size + 1) :: us,[]⟩ (Al (s.heap.objs.size + 1) :: (us ++ ds)) _ _ EX (hr.make C us [])
  (I2.env0.make C us []) (hb _ (Al (s.heap.objs.size + 1) :: us) I2.kIn hl) r2 hq) λr s' hq' => ?_))
 cases r with
 | error e=>exact hx pins σ _ _ e s' I2 hq'
 | ok fl =>
  cases fl with
  | ret u =>
   obtain ⟨v,H',I3,rv,ev,q3⟩:=I2.after hq'
   subst ev
   exact ⟨rv,⟨V.ref (s.heap.objs.size + 1),H',I3,rfl,q3⟩⟩
  | next=>exact By hq'
  | brk=>exact By hq'
  | cont=>exact By hq'
theorem qqv {h:Heap} {x C:Addr} {od:Option Addr} {vs:Array Value} {sl:Array (Option Value)} (e:h.get? x=some (qc8 C od vs sl)) (d:∀ dx,od=some dx->∃ o,h.get? dx=some o):∃ ox od,PySem.W.InstAt h x ox C od:=by
 cases od with
 | none=>exact ⟨_,none,e,rfl,rfl,trivial⟩
 | some dx =>
  obtain ⟨o,ho⟩:=d dx rfl
  exact ⟨_,some o,e,rfl,rfl,ho⟩
noncomputable def exHas (H:Hp):Option Addr->Prop
 | none=>True
 | some dx=>∃ fs,H dx=some (exD dx fs)
theorem exHas.at {P:AM} {w:World} {H:Hp} {h:Heap} {od:Option Addr} (ok:HOk P w H h) (e:exHas H od):∀ dx,od=some dx->∃ o,h.get? dx=some o:=λdx z=>by
 subst z
 obtain ⟨fs,q⟩:=e
 obtain ⟨mA,⟨o,_,_,e,_⟩,_⟩:=qmz ok q
 exact ⟨o,e⟩
theorem qcv:qej X (.builtin "isinstance") (λxs H Q=>∃ (x C:Addr) (od:Option Addr) (fr:Bool) (c:V) (cv:Value) (b:Bool),xs=[.ref x,c]/\H x=some (exO x C od fr)/\exHas H od/\XIs X.K C/\((∃ n,c=.ty n/\cv=.type n) \/ ∃ D,c=.ref D/\cv=.ref D) /\
  B6 X.K (.ref C) cv=some b/\Q (.bl b) H):=by
 intro pins s σ H xs us Q I r h
 obtain ⟨x,C,od,fr,c,cv,b,rfl,e,hs,ci,hc,kk,q⟩:=h
 obtain ⟨u,u',rfl,r1,r2⟩:=Vals.two r
 cases r1
 have hu:u'=cv:=by
  rcases hc with ⟨n,rfl,rfl⟩ | ⟨D,rfl,rfl⟩
  .exact r2
  .exact r2
 subst hu
 obtain ⟨vs,sl,e1,_⟩:=qel I.hok e
 exact BH (qny ci) I.kIn (qqv e1 (exHas.at I.hok hs)) kk (λz=>nomatch z) λtk=>⟨.bl b,H,I.tok tk,rfl,q⟩
end
end Add
namespace Add
open PySem PySem.Spec PyProof.Rows L2
section
variable {X:Cx} {pins:List (Addr × Obj)} {σ:L2.St} {H:Hp} {s:Ah} {E:Value->Ah->Prop}
structure XBase (K:Af) (B:Addr):Prop where
 ga:Dt K (.ref B) "__getattribute__" = some (some (.builtin "type.__getattribute__"))
 rd:PySem.W.readsIn K B (.type "type")=true
 at_:PySem.W.findCls K (.ref B) (.type "type") "__init__" = some (.val (.builtin "ValueError.__init__"))
noncomputable def qyi (K:Af) (t:TA):TE:=λσ H Q=>t σ H λvs H1=>∃ (x C:Addr) (od:Option Addr) (qa9:List V) (ini:Option Value),vs=.ref x :: qa9/\H1 x=some (exO x C od true)/\qn0 K C ini=true/\qa9.length <= Ax/\Q .non H1
theorem qr2 {A:AU} {x C:Addr} {od:Option Addr} {qa9:List Value} {ini:Option Value} {Q:Value->Ah->Prop} {K:Af} {prog:AM} {w:World} {t:Addr} (KX:K.In s.heap) (c:qn0 K C ini=true)
  (hx:s.heap.get? x=some (qc8 C od #[.ref t,.none,.none,.none,.bool false,.none] #[])) (hrest:qa9.length <= Ax)
  (h:∀ h' t',h'.get? x=some (qc8 C od #[.ref t',.none,.none,.none,.bool false,.none] #[])->(∀ b o,b ≠ x->s.heap.get? b=some o->h'.get? b=some o)->Q .none { s with heap:=h' }) :
  wpAny (model prog w) A (call (.builtin "ValueError.__init__") (.ref x :: qa9)) Q E s:=by
 obtain ⟨bm,N,nm,qn,bs,hd,sn,sub,ab,col,dd,k0,k1,k2,k3,k5,mN,hC,hn,hni,T⟩:=qxt KX c
 obtain ⟨hp,g,d,tk,os⟩:=s
 have F:=CW
 refine CG (DH F.init.plain F.initEntry (wpAny_check_init_subU F T hC hx rfl ?_))
 wp_walk
 refine h _ hp.objs.size ?_ λb o hb e => ?_
 .rw [B1 _ (Am _ hx) rfl]
  rfl
 .rw [Bw _ _ (AX hb)]
  exact Am _ e
theorem qf5 {B:Addr} {x:Str} {p apos pos:Pos} {e:Expr} {es:List Expr} {t:TA} {pl:Sem Bool} (c:XBase X.K B) (hg:Gl X x) (hm:X.mg x=some (.ref B)) (ha:PA X (e :: es) t) (hdb:(x == ("__debug__" : Str))=false:=by decide)
  (hst:starEach (e :: es) X.env=(false,eval e X.env) :: starEach es X.env:=by rfl) (hpl:(backTo pos (starEach es X.env)).any (·.1)=false:=by rfl)
  (ht:eval (.Call (.Attribute (.Name x p) "__init__" apos) (e :: es) [] pos) X.env=(do
   let ov <- eval (.Name x p) X.env
   standAt apos.atName
   let (f,first) <- holding [ov] (getMethod ov "__init__" pl)
   callWith pos f first (backTo pos (starEach (e :: es) X.env)) (backToKw pos (keywordEach [] X.env))):=by rfl) :
  PE X (.Call (.Attribute (.Name x p) "__init__" apos) (e :: es) [] pos) (qyi X.K t):=by
 intro pins s σ H Q I h
 refine PySem.W.methodCall_KW (pl:=pl) (qev I hg hm ?_ hdb) ht
 refine PySem.W.method_cls I.kIn c.ga (PySem.W.cls_value I.kIn c.rd c.at_ rfl ?_)
 have I1:=I.tok (s.toks + 1)
 refine D6 (thn (ha pos pins _ σ H _ I1 h) λus s1 ⟨vs,H1,I2,r1,q1⟩ => ?_) hst hpl
 obtain ⟨x',C,od,qa9,ini,rfl,e1,ci,hz,q⟩:=q1
 cases r1 with
 | cons ra rr =>
  cases ra
  obtain ⟨ws,sl,ex,z6,ff⟩:=qel I2.hok e1
  obtain ⟨rfl,t',rfl⟩:=ff rfl
  have hl:=rr.length
  refine qr2 I2.kIn ci ex (by lia) λh' t2 ex' kk => ?_
  refine ⟨.non,H1,?_,rfl,q⟩
  have J:=I2.write (x:=x') (e:=x') (o:=exO x' C od true) (t':=s1.toks) (h':=h') (by rw [e1]; exact trivial) (.inl rfl) (λb u hb hu=>kk b u hb hu) ⟨_,ex'⟩ (qmy ex' ⟨rfl,rfl⟩ λ_=>⟨rfl,t2,rfl⟩)
  rw [qn1 e1] at J
  exact J
noncomputable def tXFld (K:Af) (ta:TE) (f:Str):TE:=λσ H Q=>ta σ H λv H1=>∃ (x C dx:Addr) (fr:Bool) (fs:List (Str × V)) (y:V),v=.ref x/\H1 x=some (exO x C (some dx) fr)/\H1 dx=some (exD dx fs)/\XIs K C/\AK K (.ref C) f=some none/\fs.lookup f=some y/\Q y H1
theorem qt3 {K:Af} {C:Addr} {o:Obj} {f:Str} {u:Value} (c:C1 K C=true) (n:AK K (.ref C) f=some none) (l:Dr f o=some (some u)):PySem.W.findObj K C (some o) f=some (.value u):=by
 obtain ⟨cd,hc,hd⟩:=PySem.W.any_some c
 unfold PySem.W.findObj
 rw [hc,BX,n,BX]
 dsimp only
 simp only [BX]
 unfold PySem.W.ownOf
 rw [hd,if_pos rfl]
 dsimp only
 rw [l,BX]
theorem qhn {e:Expr} {f:Str} {pos:Pos} {ta:TE} (he:PE X e ta) (hb:attributeBase e f X.env (eval e X.env)=eval e X.env):PE X (.Attribute e f pos) (tXFld X.K ta f):=by
 intro pins s σ H Q I h
 refine qqp hb (thn (he pins s σ H _ I h) λu s1 ⟨v,H1,I1,rv,x,C,dx,fr,fs,y,ev,ex,ed,c,n,l,q⟩ => ?_)
 subst ev
 obtain rfl:u=Al x:=rv
 obtain ⟨vs,sl,e1,_⟩:=qel I1.hok ex
 obtain ⟨mA,hn,r,_⟩:=qmz I1.hok ed
 obtain ⟨od,hod,hl⟩:=qln hn
 obtain ⟨uv,hu,ru⟩:=RelO.some_of (v:=y) (o:=mA f) (by rw [<- l]; exact r f)
 exact qr0 I1.kIn (ox:=qc8 C (some dx) vs sl) (od:=some od) ⟨e1,rfl,rfl,hod⟩ c.toXGet (qt3 c.dct n (by rw [hl,hu])) (qlo ru) ⟨y,H1,I1.tok _,ru,q⟩
theorem qt4 {x dx:Addr} {o o':HO} {h':Heap} {tk:Nat} (I:Inv X pins σ H s) (mu:Mut (H x)) (hd:s.heap.objs.size <= dx) (hne:dx ≠ x) (k:∀ b u,b ≠ x->s.heap.get? b=some u->h'.get? b=some u) (hx:∃ u,h'.get? x=some u)
  (n1:ObjOk X.prog X.w (upd (upd H dx o') x o) h' x o) (n2:ObjOk X.prog X.w (upd (upd H dx o') x o) h' dx o'):Inv X pins σ (upd (upd H dx o') x o) { s with heap:=h',toks:=tk }:=by
 have hdn:H dx=none:=I.hok.fresh hd
 have hxn:∀ b,H b=none->b ≠ x:=λb n z=>by subst z; rw [n] at mu; exact mu
 have nm:∀ b u,H b=some u->¬ Mut (some u)->b ≠ x:=λb u q nm z=>by subst z; rw [q] at mu; exact nm mu
 have nd:∀ b u,H b=some u->b ≠ dx:=λb u q=>qae q hdn
 have old:∀ b u,s.heap.get? b=some u->b ≠ dx:=λb u q=>AJ (A8 (A0 q) hd)
 have stay:∀ b u,H b=some u->b ≠ x->upd (upd H dx o') x o b=some u:=λb u q hb=>by rw [zf hb,zf (nd b u q)]; exact q
 refine I.un ⟨λb u q n _ _=>k b u (hxn b n) q,λb u q n _ _=>⟨u.slots,k b u (hxn b n) q⟩,λb u q n _=>by rw [zf (hxn b n),zf (old b u q)]; exact n,λb u q _ => ?_,λb xs q=>stay b _ q (nm b _ q λz=>z),λb u xs q=>stay b _ q (nm b _ q λz=>z),λb ps q=>⟨#[],by rw [stay b _ q (nm b _ q λz=>z)]; simp⟩⟩ ?_
 .by_cases hb:b=x
  .subst hb; exact hx
  .exact ⟨u,k b u hb q⟩
 .intro b u q
  by_cases hb:b=x
  .subst hb
   rw [zb] at q
   cases q
   exact n1
  .rw [zf hb] at q
   by_cases hb':b=dx
   .subst hb'
    rw [zb] at q
    cases q
    exact n2
   .rw [zf hb'] at q
    refine (I.hok b u q).stay (λc v hc r=>k c v ?_ r) (λc r=>stay c _ r (nm c _ r λz=>z)) λc xs r=>stay c _ r (nm c _ r λz=>z)
    rcases hc with rfl | hc
    .exact hb
    .exact nm c _ hc λz=>z
noncomputable def sXFld (K:Af) (ta tv:TE) (f:Str):TS:=λD σ H=>tv σ H λy H1=>ta σ H1 λv H2=>∃ (x C:Addr) (fr:Bool),v=.ref x/\XSet K C f /\
 ((H2 x=some (exO x C none fr)/\∀ dx,H2 dx=none->D.nx σ (upd (upd H2 dx (exD dx [(f,y)])) x (exO x C (some dx) fr))) \/
  (∃ dx fs,H2 x=some (exO x C (some dx) fr)/\H2 dx=some (exD dx fs)/\fs.length < 900/\D.nx σ (upd H2 dx (exD dx (qcs f y fs)))))
theorem qho {o value:Expr} {f:Str} {pos pos':Pos} {ta tv:TE} (ha:PE X o ta) (hv:PE X value tv) (hs:swapsWith value (some (.Attribute o f pos')) pos.line X.env=pure false):PS X (.Assign [.Attribute o f pos'] value pos) (sXFld X.K ta tv f):=by
 intro pins s0 σ H0 D I0 h
 refine D3 (thn (hv pins s0 σ H0 _ I0 h) λu s1 ⟨y,H1,I1,ry,q⟩=>thn (ha pins s1 σ H1 _ I1 q) λov s ⟨v,H,I,rv,x,C,fr,ev,c,q2⟩ => ?_) hs
 subst ev
 obtain rfl:ov=Al x:=rv
 rcases q2 with ⟨ex,nx⟩ | ⟨dx,fs,ex,ed,hl,nx⟩
 .obtain ⟨vs,sl,e1,z6,ff⟩:=qel I.hok ex
  refine qty I.kIn e1 c λh' tk' e2 hn kk => ?_
  have hne:s.heap.objs.size ≠ x:=Cr (A0 e1)
  refine ⟨σ,_,qt4 (x:=x) (dx:=s.heap.objs.size) (o:=exO x C (some s.heap.objs.size) fr) (o':=exD s.heap.objs.size [(f,y)]) I (by rw [ex]; exact trivial) (Az _) hne (λb ob hb e=>kk b ob hb e) ⟨_,e2⟩ (qmy e2 z6 ff) (qt2 hn (λg => ?_) λg hg => ?_),nx _ (I.hok.fresh (Az _))⟩
  .show RelO (C2 g [(f,y)]) (if g=f then some u else none)
   by_cases q:g=f
   .subst q
    rw [if_pos rfl,B7,beq_self_eq_true]
    exact ry
   .have q':(g == f)=false:=by simpa using q
    rw [if_neg q,B7,q']
    exact trivial
  .by_cases q:g=f
   .subst q; simp
   .exact absurd (if_neg q) hg
 .obtain ⟨vs,sl,e1,z6,ff⟩:=qel I.hok ex
  obtain ⟨mA,hn,r,wi⟩:=qmz I.hok ed
  refine qtz I.kIn e1 hn (qxu I.hok ex ed) wi (by rw [Ab]; lia) c λh' tk' hn' sb => ?_
  have hd:∃ o,h'.get? dx=some o:=let ⟨o,_,_,e',_⟩:=hn'; ⟨o,e'⟩
  refine ⟨σ,_,I.write (x:=dx) (e:=dx) (o:=exD dx (qcs f y fs)) (t':=tk') (by rw [ed]; exact trivial) (.inl rfl) (λb ob hb z=>(sb.2 b hb).trans z) hd (qt2 hn' (λg => ?_) λg hg => ?_),nx⟩
  .show RelO ((qcs f y fs).lookup g) (if g=f then some u else mA g)
   rw [qft]
   by_cases q:g=f
   .rw [if_pos q,if_pos q]; exact ry
   .rw [if_neg q,if_neg q]; exact r g
  .by_cases q:g=f
   .rw [q]; exact (qe5 f y fs).1
   .refine (qe5 f y fs).2 g (wi g λz=>hg ?_)
    show (if g=f then some u else mA g)=none
    rw [if_neg q]; exact z
end
end Add
namespace Add
open PySem PySem.Spec PyProof.Rows L2
section
variable {X:Cx}
noncomputable def rEqL (K:Af) (f:Bool->Bool):R2:=λx y H Q=>∃ a b xs ys,x=.ref a/\y=.ref b/\SqL K H a xs/\SqL K H b ys/\xs.all qcr=true/\ys.all qcr=true/\Q (.bl (f (qjb xs ys))) H
theorem qn2:∀ {xs ys:List V},xs.length ≠ ys.length->qjb xs ys=false
 | [],[],h=>absurd rfl h
 | [],_ :: _,_=>rfl
 | _ :: _,[],_=>rfl
 | x :: xs,y :: ys,h=>by
  show (eqV x y && qjb xs ys)=false
  rw [qn2 (λz=>h (by rw [An,An,z])),CV]
theorem qn3 {xs ys:List V} (h:xs.length=ys.length):(Ba xs.length).all (eAt xs ys)=qjb xs ys:=by
 rw [<- qtq xs ys,<- h,Nat.min_self]
 simp
theorem qpe (hu:X.A.units < cLine):OpR X (compareOp .NotEq) (rEqL X.K λz => !z):=by
 intro pins s σ H x y v u Q I rx ry h
 obtain ⟨a,b,xs,ys,rfl,rfl,ha,hb,fx,fy,q⟩:=h
 cases rx
 cases ry
 obtain ⟨its,r1,p1,_⟩:=I.list ha
 obtain ⟨its2,r2,p2,_⟩:=I.list hb
 have l1:=r1.length
 have l2:=r2.length
 by_cases hz:xs.length=ys.length
 .refine SeqAt.RcNeAt.lists p1.isList p2.isList (by rw [Av,Av]; lia) hu (qtr r1 r2 fx fy) _ _ _ _ ?_
  rw [Av,<- l1,qn3 hz]
  exact ⟨.bl (!qjb xs ys),H,I,rfl,q⟩
 .refine SeqAt.RcNeAt.lists_lengths p1.isList p2.isList (bne_iff_ne.mpr (by rw [Av,Av]; lia)) hu _ _ _ _ ?_
  rw [qn2 hz] at q
  exact ⟨.bl true,H,I,rfl,q⟩
theorem qt5:∀ {x:V},qcr x=true->eqV x x=true
 | .non,_=>rfl
 | .bl b,_=>by cases b <;> rfl
 | .int i,_=>by simp [eqV]
 | .str y,_=>by simp [eqV]
 | .byt _,h=>by simp [qcr] at h
 | .flt _,h=>by simp [qcr] at h
 | .ref _,h=>by simp [qcr] at h
 | .ty _,h=>by simp [qcr] at h
theorem ql0:∀ {xs:List V},xs.all qcr=true->qjb xs xs=true
 | [],_=>rfl
 | x :: xs,h=>by
  rw [CS,AI] at h
  show (eqV x x && qjb xs xs)=true
  rw [qt5 h.1,ql0 h.2]; rfl
end
end Add
namespace Add
open PySem PySem.Spec PyProof.Rows L2
noncomputable def qpf (K:Af) (C:Addr) (ini:Option Value):Bool:=qn0 K C ini && Bg K (.ref C) && (AK K (.ref C) "__getattribute__" == some (some (.builtin "BaseException.__getattribute__"))) && (AK K (.ref C) "__getattr__" == some none) &&
 (DE K C (.type "BaseException") == some true) && C1 K C && (AK K (.ref C) "__class__" == some (some (.builtin "object.__class__"))) &&
 (Dt K (.builtin "object.__class__") "__get__" == some (some (.builtin "getset_descriptor.__get__"))) && (PySem.W.takesIn K (.builtin "object.__class__") == some true) && (DE K C (.type "object") == some true) &&
 (AK K (.ref C) "__setattr__" == some (some (.builtin "object.__setattr__"))) && ((PySem.W.clsIn K C).any λcd=>qnz cd.mro && cd.hasDict)
structure XA (K:Af) (C:Addr) (ini:Option Value):Prop where
 xc:qn0 K C ini=true
 kp:Bg K (.ref C)=true
 is:XIs K C
 sa:AK K (.ref C) "__setattr__" = some (some (.builtin "object.__setattr__"))
 cd:((PySem.W.clsIn K C).any λcd=>qnz cd.mro && cd.hasDict)=true
theorem qn4 {K:Af} {C:Addr} {ini:Option Value} (h:qpf K C ini=true):XA K C ini:=by
 unfold qpf at h
 rw [AI] at h
 obtain ⟨h,hcd⟩:=h
 simp only [AI,beq_iff_eq] at h
 obtain ⟨⟨⟨⟨⟨⟨⟨⟨⟨⟨h1,h2⟩,h3⟩,h4⟩,h5⟩,h6⟩,h7⟩,h8⟩,h9⟩,h10⟩,h11⟩:=h
 exact ⟨h1,h2,{ ga:=h3,hk:=h4,sub:=h5,dct:=h6,cls:=h7,get:=h8,tak:=h9,obj:=h10 },h11,hcd⟩
theorem XA.set {K:Af} {C:Addr} {ini:Option Value} {name:Str} (a:XA K C ini) (no:AK K (.ref C) name=some none):XSet K C name:=⟨a.sa,no,a.cd⟩
noncomputable def xNo (K:Af) (C:Addr) (ns:List Str):Bool:=ns.all λn=>AK K (.ref C) n == some none
theorem ze {K:Af} {C:Addr} {ns:List Str} {n:Str} (h:xNo K C ns=true) (m:n ∈ ns):AK K (.ref C) n=some none:=beq_iff_eq.mp (AZ.mp h n m)
noncomputable def qf6 (K:Af) (C:Addr) (cs:List Value) (bs:List Bool):Bool:=(cs.map λc=>B6 K (.ref C) c) == bs.map some
theorem qa6 {K:Af} {C:Addr} {cs:List Value} {bs:List Bool} (h:qf6 K C cs bs=true) {i:Nat} {c:Value} {b:Bool} (hc:cs[i]?=some c) (hb:bs[i]?=some b):B6 K (.ref C) c=some b:=by
 have e:=congrArg (λl=>l[i]?) (beq_iff_eq.mp h)
 simp only [Ak,hc,hb,CO] at e
 exact AG e
noncomputable def qt6 (K:Af) (B:Addr):Bool:=(Dt K (.ref B) "__getattribute__" == some (some (.builtin "type.__getattribute__"))) && PySem.W.readsIn K B (.type "type") &&
 (match PySem.W.findCls K (.ref B) (.type "type") "__init__" with | some (.val (.builtin n))=>n == "ValueError.__init__" | _=>false)
theorem xb_of {K:Af} {B:Addr} (h:qt6 K B=true):XBase K B:=by
 unfold qt6 at h
 simp only [AI,beq_iff_eq] at h
 obtain ⟨⟨h1,h2⟩,h3⟩:=h
 refine ⟨h1,h2,?_⟩
 split at h3
 .rename_i n e
  rw [e,beq_iff_eq.mp h3]
 .cases h3
structure MethAt (K:Af) (x qual:Str) (st:Stmt) (ps:List Str) (f:Addr) (fd:AB):Prop where
 fn:Fun K x qual st f fd
 bd:Binds K fd ps []
 ty:Cc K (.ref f)=some (.type "function")
section
variable {X:Cx} {K:Af}
theorem qpg (hK:X.K=K):OpR X (compareOp .In) (rIn K false):=hK ▸ qed
end
end Add
namespace Add
open PySem PySem.Spec PyProof.Rows L2
structure Notes (fs:List Addr) (x C:Addr) (od:Option Addr) (sl:Array (Option Value)) (told:List Addr) (T:Addr) (fl:Value) (h h':Heap):Prop where
 rc:∃ vs:Array Value,Sz6 vs/\h'.get? x=some (qc8 C od vs sl)/\vs[1]?=some (.ref T)
 tb:∃ oT ts,h'.get? T=some oT/\oT.data=.fields ts/\ts[3]?=some fl
 new:h.objs.size <= T
 ne:T ≠ x
 keep:∀ b o,b ≠ x->b ∉ told->b ∉ fs->h.get? b=some o->h'.get? b=some o
 slot:∀ b o,b ≠ x->b ∉ told->h.get? b=some o->∃ s,h'.get? b=some { o with slots:=s }
 old:∀ b ∈ told,∃ o,h'.get? b=some o
section
variable {M:Model} {A:AU} {E:Value->Ah->Prop} {s:Ah} {base:Heap} {env:Env} {outer:List Env} {L x C:Addr} {od:Option Addr} {vs:Array Value} {sl:Array (Option Value)}
theorem qqw {head:Value} {hadNext:Bool} {Q:Unit->Ah->Prop} (hfr:A.frames=some (env :: outer)) (hl:s.heap.FunFrames base (env :: outer)) (hf:env.frame=some L) (he:s.heap.get? x=some (qc8 C od vs sl)) (hz:Sz6 vs)
  (h:∀ h' T,Notes (frs (env :: outer)) x C od sl [] T (rawInt L) s.heap h'->Q () { s with heap:=h' }) :
  wpAny M A (do let a <- frameOf env; let pl <- entryPlaceOf L hadNext; let b <- EntryCells.newEntry head a .none (rawInt L) .none pl; setField (.ref x) 1 b) Q E s:=by
 have hene:x ∉ (env :: outer).filterMap (·.frame):=λhm=>by
  obtain ⟨_,o,ho,hnf⟩:=hl.mem hm
  rw [he] at ho; cases ho; exact hnf vs rfl
 refine Ad (wpAny_frameOf_fun hfr hl hf λh₁ hs₁ => ?_)
 refine Ad (wpAny_entryPlaceOf λpl hpl => ?_)
 unfold EntryCells.newEntry newFields
 refine Ad (Dv ?_ (hpl.sizeOk5 _ _ _ _ _))
 generalize hO:({ cls:=.type "traceback",dict:=none,data:=.fields ([head,.ref L,.none,rawInt L,.none] ++ (if pl.isEmpty then List.replicate 6 BF else pl)).toArray }:Obj)=oT
 have he₁:h₁.get? x=some (qc8 C od vs sl):=(hs₁.2.1 x hene).trans he
 have he₂:=Am (h:=h₁) oT he₁
 have hd₂:(qc8 C od vs sl).data=.fields vs:=rfl
 refine CY he₂ hd₂ (by lia) (h _ h₁.objs.size ?_)
 have hTx:h₁.objs.size ≠ x:=Cr (A0 he₁)
 have hd₃:=BV hd₂ (·.setIfInBounds 1 (Al h₁.objs.size))
 have he₃:=B1 (C6 (·.setIfInBounds 1 (Al h₁.objs.size))) he₂ (Cy hd₃)
 have hT₃:((h₁.push oT).update x (C6 (·.setIfInBounds 1 (Al h₁.objs.size)))).get? h₁.objs.size=some oT :=
  (Bw _ _ (AX hTx)).trans (A6 h₁ (by rw [<- hO]; rfl))
 have kp:∀ b o,b ≠ x->h₁.get? b=some o->((h₁.push oT).update x (C6 (·.setIfInBounds 1 (Al h₁.objs.size)))).get? b=some o:=λb o hb e=>by
  rw [Bw _ _ (AX hb)]
  exact Am _ e
 refine ⟨⟨vs.setIfInBounds 1 (.ref h₁.objs.size),⟨by rw [Array.size_setIfInBounds]; exact hz.1,by rw [Array.getElem?_setIfInBounds_ne (by decide)]; exact hz.2⟩,he₃,by simp [hz.1]⟩,⟨oT,_,hT₃,by rw [<- hO],?_⟩,?_,hTx,λb o hb _ hbf e=>kp b o hb ((hs₁.2.1 b hbf).trans e),λb o hb _ e => ?_,λb hb=>absurd hb (by simp)⟩
 .first | (simp; done) | (rcases hpl with rfl | ⟨_,_,_,_,_,_,_,rfl⟩ <;> simp)
 .exact BS hs₁.1.symm
 .obtain ⟨sl',e'⟩:=hs₁.2.2 b o e
  exact ⟨sl',kp b _ hb e'⟩
theorem qt7 {Q:Unit->Ah->Prop} (hfr:A.frames=some (env :: outer)) (hl:s.heap.FunFrames base (env :: outer)) (hf:env.frame=some L) (he:s.heap.get? x=some (qc8 C od vs sl)) (hz:Sz6 vs) (h1:vs[1]?=some .none)
  (h:∀ h' T,Notes (frs (env :: outer)) x C od sl [] T (rawInt L) s.heap h'->Q () { s with heap:=h' }):wpAny M A (noteFrame (.ref x) env) Q E s:=by
 unfold noteFrame
 simp only [hf]
 refine Ad (BC he rfl h1 ?_)
 rw [if_neg (by decide)]
 exact qqw hfr hl hf he hz h
theorem qr3 {Q:Unit->Ah->Prop} {T:Addr} {oT:Obj} {ts:Array Value} (hfr:A.frames=some (env :: outer)) (hl:s.heap.FunFrames base (env :: outer)) (hf:env.frame=some L) (he:s.heap.get? x=some (qc8 C od vs sl)) (hz:Sz6 vs) (h1:vs[1]?=some (.ref T))
  (hTx:T ≠ x) (hT:s.heap.get? T=some oT) (hd:oT.data=.fields ts) (h3:ts[3]?=some .none)
  (h:∀ h' T',Notes (frs (env :: outer)) x C od sl [T] T' (rawInt L) s.heap h'->Q () { s with heap:=h' }):wpAny M A (noteFrame (.ref x) env) Q E s:=by
 unfold noteFrame
 simp only [hf]
 refine Ad (BC he rfl h1 ?_)
 rw [if_pos (show (Al T != BF)=true from by simp)]
 refine Ad (BC hT hd h3 ?_)
 rw [if_neg (show ¬ ((BF == rawInt L)=true) from by simp [rawInt])]
 refine Ad (CY hT hd (Cu.mp h3).1 ?_)
 have other:∀ b,b ≠ T->(s.heap.update T (C6 (·.setIfInBounds 3 BF))).get? b=s.heap.get? b:=λb hb=>Bw _ _ (AX hb)
 have hTT:∃ o,(s.heap.update T (C6 (·.setIfInBounds 3 BF))).get? T=some o:=⟨_,B1 _ hT (Cy (BV hd _))⟩
 have nr:∀ b o,s.heap.get? b=some o->(∀ vs,o.data ≠ .fields vs)->b ≠ T:=λb o hb hnf q=>by
  rw [q,hT] at hb; cases hb; exact hnf ts hd
 have nf:T ∉ frs (env :: outer):=λhm=>by
  obtain ⟨_,o,ho,hnf⟩:=hl.mem hm
  rw [hT] at ho; cases ho; exact hnf ts hd
 refine qqw hfr (hl.of_keeps λb o hb hnf=>⟨o,(other b (nr b o hb hnf)).trans hb,rfl⟩) hf ((other x (AX hTx)).trans he) hz λh' T' N=>h h' T' ?_
 obtain ⟨o,ho⟩:=hTT
 refine ⟨N.rc,N.tb,A1 (BS (Heap.size_update ..).symm) N.new,N.ne,λb o hb hb' hbf e=>N.keep b o hb (by simp) hbf ((other b (by simpa using hb')).trans e),λb o hb hb' e=>N.slot b o hb (by simp) ((other b (by simpa using hb')).trans e),λb hb => ?_⟩
 have e:b=T:=by simpa using hb
 subst e
 exact ⟨o,N.keep b o hTx (by simp) nf ho⟩
theorem qyj {Q:Unit->Ah->Prop} {fs told:List Addr} {T:Addr} {fl:Value} {h0:Heap} (N:Notes fs x C od sl told T fl h0 s.heap) (nt:T ∉ told) (h:∀ h',Notes fs x C od sl told T .none h0 h'->Q () { s with heap:=h' }):wpAny M A (setFlight (.ref x) none) Q E s:=by
 obtain ⟨vs,hz,he,h1⟩:=N.rc
 obtain ⟨oT,ts,hT,hd,h3⟩:=N.tb
 have hs3:=(Cu.mp h3).1
 unfold setFlight
 refine Ad (BC he rfl h1 ?_)
 rw [if_pos (show (Al T != BF)=true from by simp)]
 refine CY hT hd hs3 (h _ ?_)
 have other:∀ b,b ≠ T->(s.heap.update T (C6 (·.setIfInBounds 3 ((none:Option Addr).elim BF λf=>rawInt f)))).get? b=s.heap.get? b:=λb hb=>Bw _ _ (AX hb)
 have lt:∀ b o,h0.get? b=some o->b ≠ T:=λb o e=>AJ (A8 (A0 e) N.new)
 refine ⟨⟨vs,hz,(other x (AX N.ne)).trans he,h1⟩,⟨_,_,B1 _ hT (Cy (BV hd _)),BV hd _,by simp [hs3]⟩,N.new,N.ne,λb o hb hb' hbf e=>(other b (lt b o e)).trans (N.keep b o hb hb' hbf e),λb o hb hb' e => ?_,λb hb => ?_⟩
 .obtain ⟨s',e'⟩:=N.slot b o hb hb' e
  exact ⟨s',(other b (lt b o e)).trans e'⟩
 .obtain ⟨o,e⟩:=N.old b hb
  exact ⟨o,(other b λz=>nt (z ▸ hb)).trans e⟩
end
end Add
namespace Add
open PySem PySem.Spec PyProof.Rows L2
noncomputable def qph (X:Cx) (pins:List (Addr × Obj)) (H:Hp) (h:Heap) (x C:Addr) (od:Option Addr):Prop:=H x=some (exO x C od false)/\∃ (vs:Array Value) (sl:Array (Option Value)) (T:Addr) (oT:Obj) (ts:Array Value),
 h.get? x=some (qc8 C od vs sl)/\vs[1]?=some (.ref T)/\h.get? T=some oT/\oT.data=.fields ts/\ts[3]?=some .none/\qei X pins H T
noncomputable def Fly (X:Cx) (pins:List (Addr × Obj)) (H:Hp) (h:Heap) (x C:Addr) (od:Option Addr):Prop:=H x=some (exO x C od true) \/ qph X pins H h x C od
theorem qqx {P:AM} {w:World} {H:Hp} {h:Heap} {x C:Addr} {od:Option Addr} {fr fr':Bool} (ok:HOk P w H h) (e:H x=some (exO x C od fr)) (a:exHas H od):exHas (upd H x (exO x C od fr')) od:=by
 cases od with
 | none=>exact trivial
 | some dx =>
  obtain ⟨fs,q⟩:=a
  exact ⟨fs,by rw [zf (qxu ok e q)]; exact q⟩
section
variable {X:Cx} {pins:List (Addr × Obj)} {σ:L2.St} {H:Hp} {s:Ah} {E:Value->Ah->Prop} {x C:Addr} {od:Option Addr}
theorem qr4 {fr:Bool} {sl:Array (Option Value)} {told:List Addr} {T:Addr} {fl:Value} {h':Heap} (I:Inv X pins σ H s) (e:H x=some (exO x C od fr)) (N:Notes (frs X.stack) x C od sl told T fl s.heap h') (ht:∀ b ∈ told,qei X pins H b) :
  Inv X pins σ (upd H x (exO x C od false)) { s with heap:=h' }/\qei X pins (upd H x (exO x C od false)) T:=by
 have nx:∀ b,H b=none->b ≠ x:=λb n z=>by rw [z,e] at n; cases n
 have nt:∀ b u,H b=some u->b ∉ told:=λb u q z=>by rw [(ht b z).1] at q; cases q
 have nf:∀ b u,H b=some u->b ∉ frs X.stack:=λb u q z=>by rw [I.stkFree b z] at q; cases q
 have hx':∀ b u,H b=some u->u ≠ exO x C od fr->b ≠ x:=λb u q n z=>n (by rw [z,e] at q; exact (AG q).symm)
 have sub:∀ b,b ≠ X.env.locals->b ∉ X.fs->b ∉ frs X.stack:=λb h1 h2 z=>by
  rcases Ao.mp (I.stkSub b z) with q | q
  .exact h1 q
  .exact h2 q
 refine ⟨I.step (g':=s.gens) (d':=s.drawn) (t':=s.toks) (ch:=told) (λb hb=>⟨(ht b hb).2.2.2.1,(ht b hb).2.1,(ht b hb).2.2.2.2.1,(ht b hb).2.2.2.2.2⟩) (λb o h1 h2 hc q n=>N.keep b o (nx b n) hc (sub b h1 h2) q) (λb o _ _ hc q n=>N.slot b o (nx b n) hc q)
  (λb o _ _ n=>by rw [zf (nx b n)]; exact n) (λb o hc q => ?_) (λb xs q => ?_) (λb o u q => ?_) (λb ps q => ?_) (λm hm => ?_) (λb u q => ?_) I.bare,?_⟩
 .by_cases hb:b=x
  .subst hb
   obtain ⟨vs,_,r,_⟩:=N.rc
   exact ⟨_,r⟩
  .obtain ⟨s',q'⟩:=N.slot b o hb hc q
   exact ⟨_,q'⟩
 .rw [zf (hx' b _ q (by unfold exO; intro z; cases z))]; exact q
 .rw [zf (hx' b _ q (by unfold exO; intro z; cases z))]; exact q
 .exact ⟨#[],by rw [zf (hx' b _ q (by unfold exO; intro z; cases z)),q]; simp⟩
 .obtain ⟨o,es,ep,ho,r⟩:=hm
  obtain ⟨s',q'⟩:=N.slot _ o (nx _ I.free) (λz=>(ht _ z).2.1 rfl) ho
  exact ⟨_,es,ep,q',r⟩
 .by_cases hb:b=x
  .subst hb
   rw [zb] at q
   cases q
   obtain ⟨vs,hz,r,_⟩:=N.rc
   exact qmy r hz λz=>nomatch z
  .rw [zf hb] at q
   refine (I.hok b u q).stay (λc v hc r => ?_) (λc r => ?_) λc xs r => ?_
   .rcases hc with rfl | hc
    .exact N.keep c v hb (nt c u q) (nf c u q) r
    .exact N.keep c v (hx' c _ hc (by unfold exO; intro z; cases z)) (nt c _ hc) (nf c _ hc) r
   .rw [zf (hx' c _ r (by unfold exO; intro z; cases z))]; exact r
   .rw [zf (hx' c _ r (by unfold exO; intro z; cases z))]; exact r
 .exact I.fpOk N.new (by rw [zf N.ne]; exact I.hok.fresh N.new)
theorem ql1 {Q:Ah->Prop} (hst:X.stack=X.env :: X.outer/\X.env.frame=some X.env.locals) (I:Inv X pins σ H s) (f:Fly X pins H s.heap x C od)
  (h:∀ s',Inv X pins σ (upd H x (exO x C od false)) s'->qph X pins (upd H x (exO x C od false)) s'.heap x C od->Q s') :
  wpAny (model X.prog X.w) X.A (noteFrame (.ref x) X.env) (λ_ s2=>wpAny (model X.prog X.w) X.A (setFlight (.ref x) none) (λ_ s3=>Q s3) E s2) E s:=by
 have hfr:X.A.frames=some (X.env :: X.outer):=by rw [I.ok.frames,hst.1]
 have hl:s.heap.FunFrames X.base (X.env :: X.outer):=by rw [<- hst.1]; exact I.stack
 have fin:∀ {fr:Bool} {sl:Array (Option Value)} {told:List Addr} {T:Addr} {fl:Value} {h':Heap},H x=some (exO x C od fr)->(∀ b ∈ told,qei X pins H b)->(∀ b ∈ told,∃ o,s.heap.get? b=some o)->Notes (frs (X.env :: X.outer)) x C od sl told T fl s.heap h' ->
   wpAny (model X.prog X.w) X.A (setFlight (.ref x) none) (λ_ s3=>Q s3) E { s with heap:=h' }:=by
  intro fr sl told T fl h' e ht hex N
  refine qyj (s:={ s with heap:=h' }) N (λz => ?_) λh2 N2 => ?_
  .obtain ⟨o,q⟩:=hex T z
   exact absurd (A0 q) (Nat.not_lt.mpr N.new)
  .rw [<- hst.1] at N2
   obtain ⟨J,fp⟩:=qr4 I e N2 ht
   obtain ⟨vs,hz,r,h1⟩:=N2.rc
   obtain ⟨oT,ts,hT,hd,h3⟩:=N2.tb
   exact h _ J ⟨zb,vs,sl,T,oT,ts,r,h1,hT,hd,h3,fp⟩
 rcases f with e | ⟨e,vs,sl,T,oT,ts,he,h1,hT,hd,h3,fp⟩
 .obtain ⟨vs,sl,he,hz,ff⟩:=qel I.hok e
  obtain ⟨rfl,t,rfl⟩:=ff rfl
  exact qt7 hfr hl hst.2 he ⟨rfl,rfl⟩ rfl λh' T N=>fin e (λb hb=>absurd hb (by simp)) (λb hb=>absurd hb (by simp)) N
 .have hz:Sz6 vs:=by
   obtain ⟨vs',sl',he',hz,_⟩:=qel I.hok e
   rw [he] at he'
   cases he'
   exact hz
  have hTx:T ≠ x:=λz=>by
   have:=fp.1
   rw [z,e] at this
   cases this
  have one:∀ b ∈ [T],b=T:=λb hb=>by simpa using hb
  exact qr3 hfr hl hst.2 he hz h1 hTx hT hd h3 λh' T' N=>fin e (λb hb=>by rw [one b hb]; exact fp) (λb hb=>by rw [one b hb]; exact ⟨_,hT⟩) N
end
noncomputable def CX1 (P:AM) (w:World):CXT:=λouter H s E e s'=>∃ (x C:Addr) (od:Option Addr) (H':Hp) (vs:Array Value) (sl:Array (Option Value)) (T:Addr) (oT:Obj) (ts:Array Value),e=.ref x/\H' x=some (exO x C od false)/\exHas H' od/\s'.heap.get? x=some (qc8 C od vs sl)/\vs[1]?=some (.ref T) /\
 s'.heap.get? T=some oT/\oT.data=.fields ts/\ts[3]?=some .none/\H' T=none/\s.heap.objs.size <= T/\s'.os=s.os/\DV s'.gens/\Un (frs outer) [] H H' s.heap s'.heap/\HOk P w H' s'.heap/\E (.ref x) od H'
noncomputable def Takes (X:Cx) (E:XK):Prop:=∀ (pins:List (Addr × Obj)) (σ:L2.St) (H:Hp) (s:Ah) (x C:Addr) (od:Option Addr),Inv X pins σ H s->Fly X pins H s.heap x C od->exHas H od->E (.ref x) od (upd H x (exO x C od false))->X.xe (.ref x) s
theorem qbl {P:AM} {w:World} {K:Af} {mg:Str->Option Value} {base:Heap} {N:List Str} {qual:Str} {scope:Scope} {f:Addr} {cd:Value} {A:AU} {outer:List Env} {s:Ah} {H:Hp} {E:XK} :
  Takes (qms (CX1 P w) P w K mg base N qual scope f cd A outer s H E) E:=by
 intro pins σ H1 s1 x C od I fl has q
 show wpAny _ _ (leaving _ _) _ _ _
 unfold leaving
 refine Ad (ql1 ⟨rfl,rfl⟩ I fl λs2 J ft => ?_)
 obtain ⟨e,vs,sl,T,oT,ts,hx,h1,hT,hd,h3,fp⟩:=ft
 have hTs:s.heap.objs.size <= T:=by
  rcases fp.2.2.2.1 with z | z
  .exact absurd (show T ∈ ([]:List Addr) from z) (by simp)
  .exact z
 have e1:∃ fr,H1 x=some (exO x C od fr):=by
  rcases fl with z | z
  .exact ⟨_,z⟩
  .exact ⟨_,z.1⟩
 obtain ⟨fr,e1⟩:=e1
 exact ⟨x,C,od,_,vs,sl,T,oT,ts,rfl,e,qqx I.hok e1 has,hx,h1,hT,hd,h3,fp.1,hTs,J.os,J.bare,J.base,J.hok,q⟩
end Add
namespace Add
open PySem PySem.Spec PyProof.Rows L2
section
variable {P:AM} {w:World} {K:Af} {mg:Str->Option Value} {base:Heap}
theorem okX {x qual:Str} {st:Stmt} {f:Addr} {fd:AB} {N ps:List Str} {k:Nat} {sp:Sp} (F:Fun K x qual st f fd) (S:FnScope N ps (qab st)) (len:∀ vs H Q E,sp vs H Q E->vs.length=ps.length)
  (hbody:∀ (cdv:Value) (A:AU) (outer:List Env) (s:Ah) (H:Hp) (vs:List V) (Q:VK) (E:XK),Room k (A.deeper (envOfC qual (qab st) s.heap.objs.size f cdv))->sp vs H Q E ->
   ∃ t,PSs (qms (CX1 P w) P w K mg base N qual (qab st) f cdv A outer s H E) (qbm st) t/\t { nx:=λ_ H'=>Q .non H',rt:=Q } (qfq N vs) H):FnOk P w K mg base (CX1 P w) (k + 1) f fd ps sp:=by
 obtain ⟨oc,od,kV,doc,pm,an,cdv,ct,osl,rfl,lk,hcd⟩:=F.ex
 exact qtj lk hcd S len λA outer s H vs Q E hr hsp=>hbody cdv A outer s H vs Q E hr hsp
end
theorem passF {X:Cx} {P:AM} {w:World}:qfu (CX1 P w) X E0:=λ_ _ _ _ _ _ _ h=>by
 obtain ⟨_,_,_,_,_,_,_,_,_,_,_,_,_,_,_,_,_,_,_,_,_,_,_,q⟩:=h
 exact q.elim
noncomputable def TakesAt (X:Cx) (EX:L2.St->XK):Prop:=∀ (pins:List (Addr × Obj)) (σ:L2.St) (H:Hp) (s:Ah) (x C:Addr) (od:Option Addr),Inv X pins σ H s->Fly X pins H s.heap x C od->exHas H od->EX σ (.ref x) od (upd H x (exO x C od false))->X.xe (.ref x) s
theorem Takes.at {X:Cx} {E:XK} (t:Takes X E):TakesAt X λ_=>E:=t
theorem TakesAt.pass {X:Cx} {EX:L2.St->XK} {pins:List (Addr × Obj)} {σ:L2.St} {H:Hp} {s s':Ah} {e:Value} (t:TakesAt X EX) (I:Inv X pins σ H s) (c:CX1 X.prog X.w X.stack H s (EX σ) e s'):X.xe e s':=by
 obtain ⟨x,C,od,H',vs,sl,T,oT,ts,rfl,ex,has,hx,h1,hT,hd,h3,hn,hz,ho,hb,un,ok,q⟩:=c
 have J:=I.call' (ch:=[]) ho un ok hb λb hb=>absurd hb (by simp)
 refine t pins σ H' s' x C od J (.inr ⟨ex,vs,sl,T,oT,ts,hx,h1,hT,hd,h3,I.fpOk hz hn⟩) has ?_
 rw [qn1 ex]
 exact q
noncomputable def qyk (sp:Sp) (dvs:List V) (EX:L2.St->XK) (t:TA):TE:=λσ H Q=>t σ H λvs H1=>sp (vs ++ dvs) H1 Q (EX σ)
noncomputable def qyl (C:Addr) (sp:Sp) (dvs:List V) (EX:L2.St->XK) (t:TA):TE:=λσ H Q=>t σ H λvs H1=>∀ x dx,H1 x=none->H1 dx=none->dx ≠ x ->
 sp (.ref x :: (vs ++ dvs)) (upd (upd H1 dx (.own x)) x (.ins C dx [])) (λv H2=>v=.non/\Q (.ref x) H2) (EX σ)
section
variable {X:Cx} {k:Nat} {f C:Addr} {fd:AB} {ps:List Str} {sp:Sp} {dvs:List V} {ds:List Value} {EX:L2.St->XK} {x m:Str} {p pos apos:Pos} {e o:Expr} {es:List Expr} {ta:TE} {t:TA}
theorem qwa {pins:List (Addr × Obj)} {σ:L2.St} {H:Hp} {s:Ah} {Q:VK} {us:List Value} {vs:List V} (F:FnOk X.prog X.w X.K X.mg X.base (CX1 X.prog X.w) k f fd ps sp) (hr:Room k X.A) (hb:Binds X.K fd ps ds) (hd:Vals dvs ds) (hx:TakesAt X EX)
  (I:Inv X pins σ H s) (r:Vals vs us) (h:sp (vs ++ dvs) H Q (EX σ)):wpAny (model X.prog X.w) X.A (call (.ref f) us) (EP X pins σ Q) X.xe s:=by
 have r2:Vals (vs ++ dvs) (us ++ ds):=r.append hd
 have hl:(us ++ ds).length=ps.length:=by rw [<- r2.length]; exact F.len _ _ _ _ h
 refine CG (CH (F.run X.A X.stack s H ⟨us,[]⟩ (us ++ ds) (vs ++ dvs) Q (EX σ) hr I.env0 (hb s us I.kIn hl) r2 h) λr s' hq => ?_)
 cases r with
 | error e=>exact hx.pass I hq
 | ok fl =>
  cases fl with
  | ret u=>exact I.after hq
  | next=>exact By hq
  | brk=>exact By hq
  | cont=>exact By hq
theorem qdz (F:FnOk X.prog X.w X.K X.mg X.base (CX1 X.prog X.w) k f fd ps sp) (hr:Room k X.A) (hg:Gl X x) (hm:X.mg x=some (.ref f)) (hk:Bg X.K (.ref f)=true) (hb:Binds X.K fd ps ds) (hd:Vals dvs ds) (hx:TakesAt X EX)
  (ha:PA X (e :: es) t) (hdb:(x == ("__debug__" : Str))=false:=by decide) (he:starEach (e :: es) X.env=(false,eval e X.env) :: starEach es X.env:=by rfl) (hpl:(backTo pos (starEach es X.env)).any (·.1)=false:=by rfl) :
  PE X (.Call (.Name x p) (e :: es) [] pos) (qyk sp dvs EX t):=by
 intro pins s σ H Q I h
 refine BG (qev I hg hm ?_ hdb)
 refine CI (h₀:=X.base) I.ok.mod.kin hk (thn (ha pos pins s σ H _ I h) λus s1 ⟨vs,H1,I1,r,q⟩=>⟨I1.kIn,?_⟩) he hpl
 exact qwa F hr hb hd hx I1 r q
theorem qr5 {pins:List (Addr × Obj)} {σ:L2.St} {H:Hp} {s:Ah} {Q:VK} {us:List Value} {vs:List V} (M:Mk X.K C f) (F:FnOk X.prog X.w X.K X.mg X.base (CX1 X.prog X.w) k f fd ps sp) (hr:Room (k + 1) X.A) (hb:Binds X.K fd ps ds) (hd:Vals dvs ds)
  (hx:TakesAt X EX) (I:Inv X pins σ H s) (r:Vals vs us)
  (h:∀ x dx,H x=none->H dx=none->dx ≠ x->sp (.ref x :: (vs ++ dvs)) (upd (upd H dx (.own x)) x (.ins C dx [])) (λv H2=>v=.non/\Q (.ref x) H2) (EX σ)) :
  wpAny (model X.prog X.w) X.A (call (.ref C) us) (EP X pins σ Q) X.xe s:=by
 have hq:=h (s.heap.objs.size + 1) s.heap.objs.size (I.hok.fresh (Cs _)) (I.hok.fresh (Az _)) (AJ (CA _))
 have I2:=Inv.made (C:=C) I
 have r2:Vals (V.ref (s.heap.objs.size + 1) :: (vs ++ dvs)) (Al (s.heap.objs.size + 1) :: (us ++ ds)):=.cons rfl (r.append hd)
 have hl:(Al (s.heap.objs.size + 1) :: us ++ ds).length=ps.length:=by
  have e:=r2.length
  rw [F.len _ _ _ _ hq] at e
  exact e.symm
 refine CG (qnl (f:=f) I.kIn M.makes M.init (beq_iff_eq.mp M.fn) (CH (F.run _ X.stack _ _ ⟨Al (s.heap.objs.size + 1) :: us,[]⟩ (Al (s.heap.objs.size + 1) :: (us ++ ds)) _ _ (EX σ) (hr.make C us [])
  (I2.env0.make C us []) (hb _ (Al (s.heap.objs.size + 1) :: us) I2.kIn hl) r2 hq) λr s' hq' => ?_))
 cases r with
 | error e=>exact hx.pass I2 hq'
 | ok fl =>
  cases fl with
  | ret u =>
   obtain ⟨v,H',I3,rv,ev,q3⟩:=I2.after hq'
   subst ev
   exact ⟨rv,⟨V.ref (s.heap.objs.size + 1),H',I3,rfl,q3⟩⟩
  | next=>exact By hq'
  | brk=>exact By hq'
  | cont=>exact By hq'
theorem qt8 (M:Mk X.K C f) (F:FnOk X.prog X.w X.K X.mg X.base (CX1 X.prog X.w) k f fd ps sp) (hr:Room (k + 1) X.A) (hg:Gl X x) (hm:X.mg x=some (.ref C)) (hb:Binds X.K fd ps ds) (hd:Vals dvs ds) (hx:TakesAt X EX)
  (ha:PA X (e :: es) t) (hdb:(x == ("__debug__" : Str))=false:=by decide) (he:starEach (e :: es) X.env=(false,eval e X.env) :: starEach es X.env:=by rfl) (hpl:(backTo pos (starEach es X.env)).any (·.1)=false:=by rfl) :
  PE X (.Call (.Name x p) (e :: es) [] pos) (qyl C sp dvs EX t):=by
 intro pins s σ H Q I h
 refine BG (qev I hg hm ?_ hdb)
 refine CI (h₀:=X.base) I.ok.mod.kin M.kp (thn (ha pos pins s σ H _ I h) λus s1 ⟨vs,H1,I1,r,q⟩=>⟨I1.kIn,?_⟩) he hpl
 exact qr5 M F hr hb hd hx I1 r q
end
end Add
namespace Add
open PySem PySem.Spec PyProof.Rows L2
noncomputable abbrev _root_.L2.Cx.tr (X:Cx) (pins:List (Addr × Obj)) (W:Value->Ah->Prop):Cx:={ X with pn:=X.pn ++ pins,xe:=W }
noncomputable abbrev _root_.L2.Cx.sup (X:Cx) (e:Value) (W:Value->Ah->Prop):Cx:={ X with A:=X.A.mark (some e),calm:=false,xe:=W }
section
variable {X:Cx} {pins pins':List (Addr × Obj)} {σ:L2.St} {H:Hp} {s:Ah} {W:Value->Ah->Prop} {e:Value}
theorem ok_tr (ok:X.Ok):(X.tr pins W).Ok:=⟨ok.mod,ok.kind,ok.glob,ok.blt,ok.above,ok.inj,ok.has,ok.cab,ok.hd,ok.frames,ok.stk,ok.exf,ok.bs,ok.bsz,ok.noex,ok.exfs,ok.funs,ok.frf⟩
theorem qwb (ok:(X.tr pins W).Ok):X.Ok:=⟨ok.mod,ok.kind,ok.glob,ok.blt,ok.above,ok.inj,ok.has,ok.cab,ok.hd,ok.frames,ok.stk,ok.exf,ok.bs,ok.bsz,ok.noex,ok.exfs,ok.funs,ok.frf⟩
theorem qym (I:Inv X pins σ H s):Inv (X.tr pins W) [] σ H s:=⟨ok_tr I.ok,I.os,I.bare,I.base,I.loc,I.cell,I.free,I.freeC,λp hp=>I.pin p (by rw [Be] at hp; exact hp),I.hok,I.len⟩
theorem qf7 (I:Inv (X.tr pins W) pins' σ H s):Inv X pins σ H s:=⟨qwb I.ok,I.os,I.bare,I.base,I.loc,I.cell,I.free,I.freeC,λp hp=>I.pin p (Bq _ hp),I.hok,I.len⟩
theorem qwc {b:Addr} (f:qei (X.tr pins W) pins' H b):qei X pins H b:=⟨f.1,f.2.1,f.2.2.1,f.2.2.2.1,f.2.2.2.2.1,λp hp=>f.2.2.2.2.2 p (Bq _ hp)⟩
theorem qt9 {h:Heap} {x C:Addr} {od:Option Addr} (f:Fly (X.tr pins W) pins' H h x C od):Fly X pins H h x C od:=by
 rcases f with z | ⟨e,vs,sl,T,oT,ts,h1,h2,h3,h4,h5,h6⟩
 .exact .inl z
 .exact .inr ⟨e,vs,sl,T,oT,ts,h1,h2,h3,h4,h5,qwc h6⟩
theorem qwd {D:Ends} {f:Flow} {s':Ah} (h:SP (X.tr pins W) [] D f s'):SP X pins D f s':=by
 cases f with
 | next=>obtain ⟨σ',H',I,q⟩:=h; exact ⟨σ',H',qf7 I,q⟩
 | brk=>obtain ⟨σ',H',I,q⟩:=h; exact ⟨σ',H',qf7 I,q⟩
 | cont=>obtain ⟨σ',H',I,q⟩:=h; exact ⟨σ',H',qf7 I,q⟩
 | ret u=>obtain ⟨v,σ',H',I,r,q⟩:=h; exact ⟨v,σ',H',qf7 I,r,q⟩
theorem qyn (ok:X.Ok):(X.sup e W).Ok:=⟨ok.mod,ok.kind,ok.glob,ok.blt,ok.above,ok.inj,ok.has,ok.cab,(λz=>nomatch z),ok.frames,ok.stk,ok.exf,ok.bs,ok.bsz,ok.noex,ok.exfs,ok.funs,ok.frf⟩
theorem qqy (I:Inv X pins σ H s):Inv (X.sup e W) pins σ H s:=⟨qyn I.ok,I.os,I.bare,I.base,I.loc,I.cell,I.free,I.freeC,I.pin,I.hok,I.len⟩
theorem qgr (ok:X.Ok) (I:Inv (X.sup e W) pins σ H s):Inv X pins σ H s:=⟨ok,I.os,I.bare,I.base,I.loc,I.cell,I.free,I.freeC,I.pin,I.hok,I.len⟩
theorem qua {D:Ends} {f:Flow} {s':Ah} (ok:X.Ok) (h:SP (X.sup e W) pins D f s'):SP X pins D f s':=by
 cases f with
 | next=>obtain ⟨σ',H',I,q⟩:=h; exact ⟨σ',H',qgr ok I,q⟩
 | brk=>obtain ⟨σ',H',I,q⟩:=h; exact ⟨σ',H',qgr ok I,q⟩
 | cont=>obtain ⟨σ',H',I,q⟩:=h; exact ⟨σ',H',qgr ok I,q⟩
 | ret u=>obtain ⟨v,σ',H',I,r,q⟩:=h; exact ⟨v,σ',H',qgr ok I,r,q⟩
end
noncomputable abbrev TH:=Ends->L2.St->Addr->Addr->Option Addr->Hp->Prop
noncomputable def PH (X:Cx) (hs:List ExceptHandler) (th:TH):Prop:=∀ (pins:List (Addr × Obj)) (s:Ah) (σ:L2.St) (H:Hp) (D:Ends) (x C:Addr) (od:Option Addr),Inv X pins σ H s->qph X pins H s.heap x C od->exHas H od->th D σ x C od H ->
 wpAny (model X.prog X.w) X.A (handleBy (.ref x) X.env hs) (SP X pins D) X.xe s
noncomputable def EXof (th:TH) (D:Ends):L2.St->XK:=λσ v od H=>∃ x C,v=.ref x/\H x=some (exO x C od false)/\th D σ x C od H
noncomputable def tTry (tb:(L2.St->XK)->TS) (th:TH):TS:=λD σ H=>tb (EXof th D) D σ H
theorem qyo {X:Cx} {body:List Stmt} {h₀:ExceptHandler} {hs:List ExceptHandler} {pos:Pos} {tb:(L2.St->XK)->TS} {th:TH} (hst:X.stack=X.env :: X.outer/\X.env.frame=some X.env.locals)
  (hb:∀ pins W EX,TakesAt (X.tr pins W) EX->BE (model X.prog X.w) X.A X.env W->PSs (X.tr pins W) body (tb EX)) (hh:PH X (h₀ :: hs) th):PS X (.Try body (h₀ :: hs) [] [] pos) (tTry tb th):=by
 intro pins s σ H D I h
 refine wpAny_Try_except ?_
 have ok:=I.ok
 let W:Value->Ah->Prop:=λe s₁=>wpAny (model X.prog X.w) X.A (noteFrame e X.env) (λ_ s₂=>wpAny (model X.prog X.w) X.A (setFlight e none) (λ_ s₃=>wpAny (model X.prog X.w) X.A (handleBy e X.env (h₀ :: hs)) (SP X pins D) X.xe s₃) X.xe s₂) X.xe s₁
 have T:TakesAt (X.tr pins W) (EXof th D):=by
  intro pins' σ' H' s' x C od I' fl has q
  obtain ⟨x',C',ex',eq',q⟩:=q
  cases ex'
  have J:=qf7 I'
  have fl':=qt9 fl
  have e1:∃ fr,H' x=some (exO x C od fr):=by
   rcases fl' with z | z
   .exact ⟨_,z⟩
   .exact ⟨_,z.1⟩
  obtain ⟨fr,e1⟩:=e1
  refine ql1 hst J fl' λs2 J2 ft => ?_
  obtain ⟨_,_,z,_⟩:=qel J2.hok eq'
  have ft':=ft
  obtain ⟨_,_,_,_,_,_,z',_⟩:=ft'
  rw [z'] at z
  cases z
  exact hh pins s2 σ' _ D x C od J2 ft (qqx J.hok e1 has) q
 refine BL (hb pins W _ T BE.looking [] s σ H D (qym I) h) (λf s₁ q => ?_) λe s₁ q=>q
 have q:=qwd q
 cases f with
 | next=>exact Dl q
 | _=>exact q
theorem qyp {X:Cx}:PH X [] λ_ _ _ _ _ _=>False:=λ_ _ _ _ _ _ _ _ _ _ _ h=>h.elim
section
variable {X:Cx} {pins:List (Addr × Obj)} {σ:L2.St} {H:Hp} {s:Ah} {E:Value->Ah->Prop}
theorem qpi {M:Model} {A:AU} {x C:Addr} {od:Option Addr} {Q:Unit->Ah->Prop} (I:Inv X pins σ H s) (f:qph X pins H s.heap x C od) (h:∀ s',Inv X pins σ H s'->qph X pins H s'.heap x C od->Q () s'):wpAny M A (setFlight (.ref x) none) Q E s:=by
 obtain ⟨e,vs,sl,T,oT,ts,hx,h1,hT,hd,h3,fp⟩:=f
 have hs3:=(Cu.mp h3).1
 unfold setFlight
 refine Ad (BC hx rfl h1 ?_)
 rw [if_pos (show (Al T != BF)=true from by simp)]
 refine CY hT hd hs3 ?_
 have other:∀ b,b ≠ T->(s.heap.update T (C6 (·.setIfInBounds 3 ((none:Option Addr).elim BF λf=>rawInt f)))).get? b=s.heap.get? b:=λb hb=>Bw _ _ (AX hb)
 have hTT:=B1 (C6 (·.setIfInBounds 3 ((none:Option Addr).elim BF λf=>rawInt f))) hT (Cy (BV hd _))
 have nT:∀ b u,H b=some u->b ≠ T:=λb u q z=>by rw [z,fp.1] at q; cases q
 have one:∀ b,b ∉ [T]->b ≠ T:=λb hb z=>hb (by rw [z]; simp)
 refine h _ (I.step (g':=s.gens) (d':=s.drawn) (t':=s.toks) (ch:=[T]) (λb hb => ?_) (λb o _ _ hc q _=>(other b (one b hc)).trans q) (λb o _ _ hc q _=>⟨o.slots,(other b (one b hc)).trans q⟩) (λb o _ _ n=>n) (λb o hc q=>⟨o,(other b (one b hc)).trans q⟩)
  (λb xs q=>q) (λb o u q=>q) (λb ps q=>⟨#[],by rw [q]; simp⟩) (λm hm => ?_) (λb u q => ?_) I.bare) ⟨e,vs,sl,T,_,_,(other x (nT x _ e)).trans hx,h1,hTT,BV hd _,by simp [hs3],fp⟩
 .have z:b=T:=by simpa using hb
  subst z
  exact ⟨fp.2.2.2.1,fp.2.1,fp.2.2.2.2.1,fp.2.2.2.2.2⟩
 .obtain ⟨o,es,ep,ho,r⟩:=hm
  exact ⟨o,es,ep,(other _ (AX fp.2.1)).trans ho,r⟩
 .exact (I.hok b u q).stay (λc v hc r=>(other c (by
   rcases hc with rfl | hc
   .exact nT c u q
   .exact nT c _ hc)).trans r) (λ_ r=>r) λ_ _ r=>r
theorem qjj {M:Model} {A:AU} {i:Nat} {n:Str} {pos:Pos} {Q:Unit->Ah->Prop} (I:Inv X pins σ H s) (hN:X.N.Nodup) (hi:X.N[i]?=some n) (hk:X.env.scope.names.lookup n=some .local)
  (h:∀ s',Inv X pins (σ.set i none) H s'->Q () s'):wpAny M A (do bindName X.env n .none; unbindBehindTheSuite X.env n pos) Q E s:=by
 obtain ⟨m,hn,hl⟩:=id I.loc
 have hcls:(X.env.scope.kind == .class || (X.env.scope.kind == .module && X.env.locals != X.env.globals))=false:=by rw [I.ok.kind]; rfl
 have cne:=I.cne
 refine wpAny_nameGoes_keeps hk hn hcls λh' v hn' hs => ?_
 obtain ⟨oL,_,_,hoL,_⟩:=id hn
 have tracked:HOk X.prog X.w H h':=λb ob e=>by
  refine (I.hok b ob e).stay (λc w' hc q=>(hs.2 c ?_).trans q) (λ_ q=>q) λ_ _ q=>q
  rintro rfl
  rcases hc with rfl | hc
  .rw [I.free] at e; cases e
  .rw [I.free] at hc; cases hc
 refine h _ ⟨I.ok,I.os,I.bare,⟨λb o e n hb hx => ?_,λb o e n hb hx => ?_,I.base.free,λb o e hx => ?_,I.base.tups,I.base.frzs,I.base.tbls⟩,⟨_,hn',λj y v' e1 e2 e3 => ?_⟩,λy c e => ?_,I.free,I.freeC,λp hp => ?_,tracked,by simpa using I.len⟩
 .exact (hs.2 b (AJ (A8 (A0 e) I.ok.above))).trans (I.base.keep b o e n hb hx)
 .obtain ⟨sl,e1⟩:=I.base.slot b o e n hb hx
  exact ⟨sl,(hs.2 b (AJ (A8 (A0 e) I.ok.above))).trans e1⟩
 .obtain ⟨o',e1⟩:=I.base.there b o e hx
  exact ⟨o',(hs.2 b (AJ (A8 (A0 e) I.ok.above))).trans e1⟩
 .have hj:j ≠ i:=λz=>by
   subst z
   rw [Bp (by rw [I.len]; exact (Ae.mp hi).1)] at e2
   cases e2
  rw [DG (AX hj)] at e2
  obtain ⟨u',r',q⟩:=hl j y v' e1 e2 e3
  refine ⟨u',r',?_⟩
  rcases q with ⟨k,e⟩ | ⟨k,c,e,z⟩
  .refine .inl ⟨k,?_⟩
   have:y ≠ n:=λe=>hj (qjo hN e1 (e ▸ hi))
   simp [this,e]
  .exact .inr ⟨k,c,e,z.sameBut hs (cne y c e)⟩
 .obtain ⟨w',z⟩:=I.cell y c e
  exact ⟨w',z.sameBut hs (cne y c e)⟩
 .obtain ⟨e,n,ne,nf,d⟩:=I.pin p hp
  exact ⟨(hs.2 p.1 ne).trans e,n,ne,nf,d⟩
end
noncomputable def PC (X:Cx) (t:Expr) (c:Value):Prop:=∀ (e:Value) (E:Value->Ah->Prop) (pins:List (Addr × Obj)) (s:Ah) (σ:L2.St) (H:Hp) (Q:Value->Ah->Prop),Inv X pins σ H s->Q c s->wpAny (model X.prog X.w) (X.A.mark (some e)) (eval t X.env) Q E s
theorem qc3 {X:Cx} {x:Str} {u:Value} {pos:Pos} (hg:Gl X x) (hm:X.mg x=some u) (hd:(x == ("__debug__" : Str))=false:=by decide):PC X (.Name x pos) u:=λe E pins s σ H Q I h =>
 qev (X:=X.sup e E) (qqy I) hg hm h hd
noncomputable def hCl (K:Af) (c:Value) (suite qa9:TH):TH:=λD σ x C od H=>match Ac K (.ref C) c with
 | some true=>suite D σ x C od H
 | some false=>qa9 D σ x C od H
 | none=>False
noncomputable def hAs (i:Nat) (ts:Addr->TS):TH:=λD σ x _ _ H=>ts x { nx:=λσ' H'=>D.nx (σ'.set i none) H',rt:=D.rt,bk:=λσ' H'=>D.bk (σ'.set i none) H',ct:=λσ' H'=>D.ct (σ'.set i none) H' } (σ.set i (some (.ref x))) H
section
variable {X:Cx} {t:Expr} {b₀:Stmt} {body:List Stmt} {pos:Pos} {qa9:List ExceptHandler} {c:Value} {ts:Addr->TS} {tr:TH}
theorem qpj {pins:List (Addr × Obj)} {H:Hp} {h:Heap} {x C:Addr} {od:Option Addr} (fl:qph X pins H h x C od):BA (model X.prog X.w) h (typeOf (.ref x)) (.ref C):=by
 obtain ⟨e,vs,sl,T,oT,tsl,hx,_⟩:=fl
 exact (BA.ld hx).andThen .now
theorem qn5 {i:Nat} {n:Str} (hN:X.N.Nodup) (hi:X.N[i]?=some n) (hk:X.env.scope.names.lookup n=some .local) (hc:PC X t c) (hb:∀ x,PSs (X.sup (.ref x) λ_ _=>False) (b₀ :: body) (ts x)) (hr:PH X qa9 tr) :
  PH X (.ExceptHandler (some t) (some n) (b₀ :: body) pos :: qa9) (hCl X.K c (hAs i ts) tr):=by
 intro pins s σ H D x C od I fl has h
 refine wpAny_handleBy_cons (codeAny_handlers_test (hc (.ref x) _ pins s σ H _ I ?_)) (by intro q; cases q)
 unfold hCl at h
 split at h
 .rename_i he
  refine (PySem.W.exm_one I.kIn (qpj fl) he).here ?_
  refine codeAny_handlers_suite_as (qpi I fl λs2 I2 f2 => ?_)
  refine qhh I2 hN hi (.inl hk) (v:=.ref x) rfl (λs3 I3 => ?_) (.inr hk)
  refine BL (hb x pins s3 _ H _ (qqy I3) h) (λf s4 q => ?_) λ_ _ z=>z.elim
  have q:=qua I.ok q
  cases f with
  | next=>obtain ⟨σ',H',J,q⟩:=q; exact qjj J hN hi hk λs5 J5=>⟨_,H',J5,q⟩
  | brk=>obtain ⟨σ',H',J,q⟩:=q; exact qjj J hN hi hk λs5 J5=>⟨_,H',J5,q⟩
  | cont=>obtain ⟨σ',H',J,q⟩:=q; exact qjj J hN hi hk λs5 J5=>⟨_,H',J5,q⟩
  | ret u=>obtain ⟨v,σ',H',J,r,q⟩:=q; exact qjj J hN hi hk λs5 J5=>⟨v,_,H',J5,r,q⟩
 .rename_i he
  refine (PySem.W.exm_one I.kIn (qpj fl) he).here ?_
  exact hr pins s σ H D x C od I fl has h
 .exact h.elim
end
end Add
namespace Add
open PySem PySem.Spec PyProof.Rows L2
structure XRaise (K:Af) (C:Addr):Prop where
 sub:DE K C (.type "BaseException")=some true
 ty:Cc K (.ref C)=some (.type "type")
noncomputable def qg8 (K:Af) (C:Addr):Bool:=(DE K C (.type "BaseException") == some true) && (Cc K (.ref C) == some (.type "type"))
theorem qn6 {K:Af} {C:Addr} (h:qg8 K C=true):XRaise K C:=by
 unfold qg8 at h
 simp only [AI,beq_iff_eq] at h
 exact ⟨h.1,h.2⟩
theorem qwe {prog:AM} {w:World} {A:AU} {E:Value->Ah->Prop} {s:Ah} {env:Env} {K:Af} {m:Sem Value} {Q:Flow->Ah->Prop} (hh:A.handled=none)
  (h:wpAny (model prog w) A m (λv s₁=>∃ x C od vs sl,v=.ref x/\K.In s₁.heap/\XRaise K C/\s₁.heap.get? x=some (qc8 C od vs sl)/\vs[1]?=some .none/\E (.ref x) s₁) E s) :
  wpAny (model prog w) A (raiseStmt env (some m) none) Q E s:=by
 unfold raiseStmt
 refine Ad (BL h (λv s₁ h₁ => ?_) λ_ _ x=>x)
 obtain ⟨x,C,od,vs,sl,rfl,KX,c,hx,h1,hE⟩:=h₁
 have LT:BA (model prog w) s₁.heap (typeOf (.ref x)) (.ref C):=(BA.ld hx).andThen .now
 have LB:BA (model prog w) s₁.heap (isInstance (.ref x) (.type "BaseException")) true:=LT.andThen (PySem.W.looks_mroIn KX c.sub)
 have LN:BA (model prog w) s₁.heap (isType (.ref x)) false:=(BA.ld hx).andThen .now
 have LC:BA (model prog w) s₁.heap (typeOf (.ref C)) (.type "type"):=PySem.W.looks_typeIn KX c.ty
 refine Ad (Ay ?_)
 refine Ad (Ca ?_)
 unfold excFromValue isExcClass
 refine Ad (Ad (LN.here ?_))
 rw [if_neg (by decide)]
 refine Ay ?_
 rw [if_neg (by decide)]
 refine Ad (LB.here ?_)
 rw [if_pos rfl]
 refine Ay ?_
 refine Ad (LN.here ?_)
 rw [if_neg (by decide)]
 refine Ad ?_
 unfold raisedInstance
 refine Ad (LT.here (Ad (LC.here ?_)))
 rw [if_pos (beq_self_eq_true _)]
 refine Ay ?_
 refine Ad ?_
 unfold setFlight
 refine Ad (BC hx rfl h1 ?_)
 rw [if_neg (by decide)]
 exact Ay (wpAny_raiseNew_none hh hE)
noncomputable def qyq (K:Af) (te:TE) (EX:L2.St->XK):TS:=λ_ σ H=>te σ H λv H1=>∃ x C od,v=.ref x/\H1 x=some (exO x C od true)/\exHas H1 od/\XRaise K C/\EX σ (.ref x) od (upd H1 x (exO x C od false))
theorem qdg {X:Cx} {e:Expr} {te:TE} {pos:Pos} {EX:L2.St->XK} (hc:X.calm=true) (hx:TakesAt X EX) (he:PE X e te):PS X (.Raise (some e) none pos) (qyq X.K te EX):=by
 intro pins s σ H D I h
 rw [arm_exec_Raise]
 refine Ad (DD ?_)
 show wpAny _ _ (raiseStmt X.env (some (do let v <- eval e X.env; standAt pos; pure v)) none) _ _ _
 refine qwe (K:=X.K) (I.ok.hd hc) (Ad (thn (he pins s σ H _ I h) λv s1 ⟨u,H1,I1,r,x,C,od,eu,ex,has,c,q⟩=>Ad (DD (Ay ?_))))
 subst eu
 obtain rfl:v=Al x:=r
 obtain ⟨vs,sl,e1,z6,ff⟩:=qel I1.hok ex
 obtain ⟨rfl,t,rfl⟩:=ff rfl
 exact ⟨x,C,od,_,_,rfl,I1.kIn,c,e1,rfl,hx pins σ H1 s1 x C od I1 (.inl ex) has q⟩
end Add
namespace Add
open PySem PySem.Spec PyProof.Rows L2
theorem ql2:∀ {Ds:List Addr} {its:List Value},Vals (Ds.map V.ref) its->its=Ds.map Al
 | [],_,.nil=>rfl
 | D :: Ds,_,.cons a r=>by
  have:=ql2 r
  rw [A4,<- this]
  exact congrArg (· :: _) a
section
variable {X:Cx}
theorem qih:qej X (.builtin "isinstance") (λxs H Q=>∃ (x C tp:Addr) (od:Option Addr) (fr:Bool) (Ds:List Addr) (b:Bool),xs=[.ref x,.ref tp]/\H x=some (exO x C od fr)/\exHas H od/\XIs X.K C/\H tp=some (.tup (Ds.map V.ref)) /\
  PySem.W.kitAny X.K (.ref C) (Ds.map Al)=some b/\Q (.bl b) H):=by
 intro pins s σ H xs us Q I r h
 obtain ⟨x,C,tp,od,fr,Ds,b,rfl,e,hs,ci,et,kk,q⟩:=h
 obtain ⟨u,u',rfl,r1,r2⟩:=Vals.two r
 cases r1
 cases r2
 obtain ⟨vs,sl,e1,_⟩:=qel I.hok e
 obtain ⟨_,its,ri,p⟩:=(show ObjOk X.prog X.w H s.heap tp (.tup (Ds.map V.ref)) from I.hok tp _ et)
 cases ql2 ri
 obtain ⟨⟨oc,od',dt,sl'⟩,ho,hc,n,hd⟩:=p
 cases hc
 cases hd
 exact PySem.W.kia_tup (qny ci) I.kIn (qqv e1 (exHas.at I.hok hs)) ho kk (λz=>nomatch z) λtk=>⟨.bl b,H,I.tok tk,rfl,q⟩
theorem qd8 {K:Af} {t:Value}:∀ {cs:List Value},(cs.map λc=>B6 K t c)=cs.map (λ_=>some false)->PySem.W.kitAny K t cs=some false
 | [],_=>rfl
 | c :: cs,h=>by
  rw [A4,A4] at h
  obtain ⟨h1,h2⟩:=CT h
  unfold PySem.W.kitAny
  rw [h1]
  exact qd8 h2
end
end Add
namespace Add
open PySem PySem.Spec PyProof.Rows L2
noncomputable abbrev TJ:=Str->TE
section
variable {X:Cx} {e:Expr} {es:List Expr} {te:TE} {tj:TJ} {pos:Pos}
end
end Add
namespace Add
open PySem PySem.Spec PyProof.Rows L2
open Builtin Builtin.Str
section
variable {X:Cx}
theorem ql3:∀ (l:List (Str × Tok)),Vals (l.map λp=>V.str p.1) (strValues l)
 | []=>.nil
 | p :: l=>.cons ⟨p.2,rfl⟩ (ql3 l)
theorem qg9 {pins:List (Addr × Obj)} {s:Ah} {σ:L2.St} {H:Hp} {Q:VK} {ys:List Str} (I:Inv X pins σ H s) (k:Nat) (l:List (Str × Tok)) (e:l.map (·.1)=ys) (z:ys.length <= Ax) (q:∀ p,H p=none->Q (.ref p) (upd H p (.lst (ys.map V.str)))) :
  EP X pins σ Q (.ref s.heap.objs.size) { s with heap:=s.heap.push { cls:=.type "list",data:=.seq (strValues l).toArray },toks:=k }:=by
 have hf:H s.heap.objs.size=none:=I.hok.fresh (Az _)
 refine ⟨.ref s.heap.objs.size,upd H s.heap.objs.size (.lst (ys.map V.str)),I.laid (t':=k) (λb u e=>Am _ e) (Az _) ?_,rfl,q _ hf⟩
 refine ⟨by rw [Ab]; exact z,strValues l,0,?_,A6 _ rfl⟩
 rw [<- e,Bf]
 exact ql3 l
theorem qj2:MtR X "str.split" (λx vs H Q=>∃ a y:Str,x=.str a/\vs=[.str y]/\(y.length == 0)=false/\a.length <= Ax/\(BY a y).length <= Ax/\(partsBetween a (occurrences a y 0 a.length (a.length + 1)) y.length).length <= Ax /\
  ∀ p,H p=none->Q (.ref p) (upd H p (.lst ((BY a y).map V.str)))):=by
 intro pins s σ H x vs v us Q I rx rv h
 obtain ⟨a,y,rfl,rfl,hy,hx,hz,hn,q⟩:=h
 obtain ⟨t,rfl⟩:=rx
 obtain ⟨u',rfl,u,rfl⟩:=rv.one
 cases h1:(decide (a.length < y.length) || decide (strKind a < strKind y))
 .cases hf:(occurrences a y 0 a.length (a.length + 1)).isEmpty
  .refine D7 F.slot_str_split (Eb _ _ _) Ej (Ec _ _) (meets_str_split_sep a y t u h1 hy hf hx hn) ?_
   show wants _ _ _ { s with toks:=_,heap:=s.heap.push { cls:=.type "list",data:=.seq (strsFrom s.toks (partsBetween a (occurrences a y 0 a.length (a.length + 1)) y.length)).toArray } }
   rw [strsFrom_eq]
   exact qg9 I _ _ ((numbered_texts _ _).trans ((if_neg (ne_true_of_eq_false h1)).trans (if_neg (ne_true_of_eq_false hf))).symm) hz q
  .exact D7 F.slot_str_split (Eb _ _ _) Ej (Ec _ _) (meets_str_split_not_found a y t u h1 hy hf) (qg9 I s.toks [(a,t)] ((if_neg (ne_true_of_eq_false h1)).trans (if_pos hf)).symm hz q)
 .exact D7 F.slot_str_split (Eb _ _ _) Ej (Ec _ _) (meets_str_split_cannot_occur a y t u h1) (qg9 I s.toks [(a,t)] (if_pos h1).symm hz q)
end
end Add
namespace Add
open PySem PySem.Spec PyProof.Rows L2
theorem qr6 {X:Cx}:qej X (.type "int") (λxs H Q=>∃ (x:Str) (n:Int),xs=[.str x]/\PySem.intText? x=some n/\x.length <= 640/\Q (.int n) H):=by
 intro pins s σ H xs us Q I r h
 obtain ⟨x,n,rfl,hn,hl,q⟩:=h
 obtain ⟨u,rfl,t,rfl⟩:=qfp r
 exact PySem.W.KIN.call_text hn hl ⟨.int n,H,I.tok _,⟨_,rfl⟩,q⟩
end Add
namespace Add
open PySem PySem.Spec PyProof.Rows L2
section
variable {K:Af} {C f:Addr} {m:Str}
noncomputable def qwf (K:Af) (C:Addr):Bool:=Dc K C Str.empty && C1 K C && Ef K C && (AK K (.ref C) "__setattr__" == some (some (.builtin "object.__setattr__")))
theorem qub (h:qwf K C=true):Cls K C:=by
 unfold qwf at h
 simp only [AI,beq_iff_eq] at h
 obtain ⟨⟨⟨h1,h2⟩,h3⟩,h4⟩:=h
 exact ⟨h1,h2,h3,h4⟩
noncomputable def mkB (K:Af) (C f:Addr):Bool:=PySem.W.makesIn K C && (AK K (.ref C) "__init__" == some (some (.ref f))) && DX K (.ref f) && Bg K (.ref C)
theorem qxv (h:mkB K C f=true):Mk K C f:=by
 unfold mkB at h
 simp only [AI,beq_iff_eq] at h
 obtain ⟨⟨⟨h1,h2⟩,h3⟩,h4⟩:=h
 exact ⟨h1,h2,h3,h4⟩
noncomputable def qqz (K:Af) (C:Addr) (m:Str) (f:Addr):Bool:=(AK K (.ref C) m == some (some (.ref f))) && DX K (.ref f) && Bg K (.ref f)
theorem qq0 (h:qqz K C m f=true):Meth K C m f:=by
 unfold qqz at h
 simp only [AI,beq_iff_eq] at h
 obtain ⟨⟨h1,h2⟩,h3⟩:=h
 exact ⟨h1,h2,h3⟩
end
end Add
namespace Add
open PySem PySem.Spec PyProof.Rows L2
open Builtin Builtin.Str
section
variable {X:Cx}
theorem qla:MtR X "str.startswith" (λx vs H Q=>∃ a y:Str,x=.str a/\vs=[.str y]/\Q (.bl (Txt.startswith a y)) H):=by
 intro pins s σ H x vs v us Q I rx rv h
 obtain ⟨a,y,rfl,rfl,q⟩:=h
 obtain ⟨t,rfl⟩:=rx
 obtain ⟨u',rfl,u,rfl⟩:=rv.one
 exact SC.startswith ⟨.bl _,H,I,rfl,q⟩
theorem ql4:∀ {ys:List Str} {us:List Value},Vals (ys.map V.str) us->∃ l:List (Str × Tok),strValues l=us/\l.map (·.1)=ys
 | [],us,r=>by cases r; exact ⟨[],rfl,rfl⟩
 | y :: ys,us,r=>by
  cases r with
  | cons h r =>
   obtain ⟨t,rfl⟩:=h
   obtain ⟨l,h1,h2⟩:=ql4 r
   exact ⟨(y,t) :: l,by rw [<- h1]; rfl,by rw [<- h2]; rfl⟩
theorem qq1:MtR X "str.join" (λx vs H Q=>∃ (a:Str) (p:Addr) (ys:List Str),x=.str a/\vs=[.ref p]/\SqL X.K H p (ys.map V.str)/\JoinOk a ys=true/\Q (.str (Txt.join a ys)) H):=by
 intro pins s σ H x vs v us Q I rx rv h
 obtain ⟨a,p,ys,rfl,rfl,hq,hj,q⟩:=h
 obtain ⟨t,rfl⟩:=rx
 obtain ⟨u',rfl,hu⟩:=rv.one
 cases hu
 obtain ⟨its,r,pl,hz⟩:=I.list hq
 obtain ⟨l,rfl,h2⟩:=ql4 r
 exact SC.join pl.isList h2 hj λt' k=>⟨.str _,H,I.tok _,⟨_,rfl⟩,q⟩
end
end Add
namespace Add
open PySem PySem.Spec PyProof.Rows L2
open Builtin Builtin.Str
end Add
namespace Add
open PySem PySem.Spec PyProof.Rows L2
theorem qaj {H H':Hp} {p:Addr} {o:HO} (s:Same H H') (n:H p=none):Same H (upd H' p o):=λb u e=>by rw [zf (qae e n)]; exact s _ _ e
theorem qr7 {K:Af} {H H':Hp} {a:Addr} {xs:List V} (e:Same H H') (h:SqT K H a xs):SqT K H' a xs:=by
 rcases h with (h | h) | h
 .exact .inl (.inl (e _ _ h))
 .obtain ⟨o,h⟩:=h; exact .inl (.inr ⟨o,e _ _ h⟩)
 .exact .inr h
theorem qii {js:List (Option Nat)} {g:TG} {tc:TT} {te:TE} {J:It} {σ:L2.St} {H:Hp} {Q:VK} {xs:List V} (b:V->Bool) (f:V->V) (Sv:L2.St->Prop) (F:qlx J H xs) (hz:xs.length <= Ax) (h0:Sv (qff js σ))
  (step:∀ (x:V) (σ':L2.St) (H':Hp) (N:L2.St->Hp->Prop) (R:L2.St->VK),x ∈ xs->Same H H'->Sv σ'->(∀ σ3,Sv σ3->b x=false->N σ3 H')->(∀ σ3,Sv σ3->b x=true->R σ3 (f x) H') ->
   g x σ' H' λσ3 H3=>tc σ3 H3 λk H4=>if k=true then te σ3 H4 (R σ3) else N σ3 H4)
  (gk:∀ (x:V) (σ':L2.St) (H':Hp) (R R':L2.St->Hp->Prop),(∀ σ3 H3,R σ3 H3->R' σ3 H3)->g x σ' H' R->g x σ' H' R')
  (fin:∀ p,H p=none->Q (.ref p) (upd H p (.lst ((xs.filter b).map f)))) :
  qig js g tc te σ Q J H:=by
 intro p hp
 have sm:∀ o,Same H (upd H p o):=λo=>qaj (Same.refl H) hp
 have fl:∀ i,((xs.take i).filter b).length <= i:=λi=>A1 (List.length_filter_le b (xs.take i)) (by rw [A2]; lia)
 refine ⟨λi m σ' H'=>m=xs.length - i/\i <= xs.length/\Sv σ'/\H'=upd H p (.lst (((xs.take i).filter b).map f)),⟨xs.length,by simp,B0 _,h0,by simp⟩,?_⟩
 rintro i m σ' H' ⟨rfl,hi,hv,rfl⟩
 obtain ⟨F1,F2⟩:=F _ (sm (.lst (((xs.take i).filter b).map f)))
 by_cases hlt:i < xs.length
 .have ex:xs[i]?=some xs[i]:=by simp [hlt]
  obtain ⟨go,yl⟩:=F1 i _ ex
  have et:(xs.take (i + 1)).filter b=(xs.take i).filter b ++ (if b xs[i]=true then [xs[i]] else []):=by
   rw [Dw,ex,List.filter_append]
   congr 1
   show List.filter b [xs[i]]=_
   rw [List.filter_cons]
   rfl
  refine .inr ⟨go,λσ2 H2=>Sv σ2/\H2=upd H p (.lst (((xs.take (i + 1)).filter b).map f)),λσ2 H2 ⟨a,b⟩=>⟨xs.length - (i + 1),by lia,rfl,hlt,a,b⟩,λx H2 hy => ?_⟩
  obtain ⟨rfl,rfl⟩:=yl x H2 hy
  refine gk _ _ _ _ _ (λσ3 H3 z => ?_) (step xs[i] σ' _ (λσ2 H2=>Sv σ2/\H2=upd H p (.lst (((xs.take (i + 1)).filter b).map f))) (λσ3 v H5=>∃ ys,H5 p=some (.lst ys)/\ys.length < Ax/\(Sv σ3/\upd H5 p (.lst (ys ++ [v]))=upd H p (.lst (((xs.take (i + 1)).filter b).map f)))) (Br hlt) (sm _) hv (λσ3 hs3 hb => ?_) λσ3 hs3 hb => ?_)
  .exact z
  .refine ⟨hs3,?_⟩
   rw [et,hb]
   simp
  .refine ⟨_,zb,?_,hs3,?_⟩
   .rw [Ab]; have:=fl i; lia
   .rw [qqj,et,hb,if_pos rfl,Ar]; rfl
 .have e:i=xs.length:=by lia
  subst e
  refine .inl ⟨F2,?_⟩
  rw [Bs]
  exact fin p hp
end Add
namespace Wri
open PySem PySem.Spec PyProof.Rows PySem.W PySem.W.KIN PySem.NumText
theorem cut_eq (c:Nat):∀ {a b r t:List Nat},c ∉ a->c ∉ b->a ++ c :: r=b ++ c :: t->a=b/\r=t
 | [],[],_,_,_,_,e=>⟨rfl,(CT e).2⟩
 | [],y :: b,_,_,_,hb,e=>absurd (CT e).1 λz=>hb (by rw [z]; exact Aq)
 | x :: a,[],_,_,ha,_,e=>absurd (CT e).1 λz=>ha (by rw [<- z]; exact Aq)
 | x :: a,y :: b,_,_,ha,hb,e=>by
  obtain ⟨h1,h2⟩:=CT e
  obtain ⟨h3,h4⟩:=cut_eq c (λz=>ha (Au _ z)) (λz=>hb (Au _ z)) h2
  exact ⟨by rw [h1,h3],h4⟩
noncomputable def jl (c:Nat):List (List Nat)->List Nat
 | []=>[]
 | [x]=>x
 | x :: y :: r=>x ++ c :: jl c (y :: r)
theorem quc (c:Nat):∀ {ps qs:List (List Nat)},ps ≠ []->qs ≠ []->(∀ p ∈ ps,c ∉ p)->(∀ q ∈ qs,c ∉ q)->jl c ps=jl c qs->ps=qs
 | [],_,h,_,_,_,_=>absurd rfl h
 | _,[],_,h,_,_,_=>absurd rfl h
 | [x],[y],_,_,_,_,e=>by rw [show x=y from e]
 | [x],y :: z :: r,_,_,hp,_,e=>absurd (show c ∈ x by rw [show x=y ++ c :: jl c (z :: r) from e]; simp) (hp x Aq)
 | x :: z :: r,[y],_,_,_,hq,e=>absurd (show c ∈ y by rw [show y=x ++ c :: jl c (z :: r) from e.symm]; simp) (hq y Aq)
 | x :: u :: r,y :: v :: t,_,_,hp,hq,e=>by
  obtain ⟨h1,h2⟩:=cut_eq c (hp x Aq) (hq y Aq) (show x ++ c :: jl c (u :: r)=y ++ c :: jl c (v :: t) from e)
  rw [h1,quc c (CC _ _) (CC _ _) (λp h=>hp p (Au _ h)) (λp h=>hq p (Au _ h)) h2]
theorem qce (c:Nat):∀ ps:List Str,(DI ⟨#[c]⟩ ps).cps.toList=jl c (ps.map λp=>p.cps.toList)
 | []=>rfl
 | [x]=>rfl
 | x :: y :: r=>by
  show (x ++ ⟨#[c]⟩ ++ DI ⟨#[c]⟩ (y :: r)).cps.toList=_
  rw [CZ,CZ,DR,DR,qce c (y :: r),AH]
  rfl
theorem str_ext {x y:Str} (h:x.cps.toList=y.cps.toList):x=y:=by
 cases x; cases y; congr; exact Array.toList_inj.mp h
theorem qj3 (x:Str) (c:Nat):BY x ⟨#[c]⟩ ≠ []:=by
 unfold BY
 split
 .exact CC _ _
 .split
  .exact CC _ _
  .intro h
   have:=length_partsBetween x (AO.Str.occurrences x ⟨#[c]⟩ 0 x.length (x.length + 1)) (⟨#[c]⟩:Str).length
   rw [h] at this
   cases this
theorem qj4 (c:Nat) {ps:List Str} (h0:ps ≠ []) (h:∀ p ∈ ps,c ∉ p.cps.toList):BY (DI ⟨#[c]⟩ ps) ⟨#[c]⟩=ps:=by
 have e:(BY (DI ⟨#[c]⟩ ps) ⟨#[c]⟩).map (λp=>p.cps.toList)=ps.map λp=>p.cps.toList:=by
  refine quc c (λz=>qj3 _ c (List.map_eq_nil_iff.mp z)) (λz=>h0 (List.map_eq_nil_iff.mp z)) (λp hp => ?_) (λp hp => ?_) ?_
  .obtain ⟨q,hq,rfl⟩:=AS.mp hp
   exact StrLaws.split_free _ c q hq
  .obtain ⟨q,hq,rfl⟩:=AS.mp hp
   exact h q hq
  .rw [<- qce,<- qce,StrLaws.join_split]
 exact List.map_inj_right (λ_ _ z=>str_ext z) |>.mp e
theorem qwg {l:List Nat} {n:Nat} (h:n ∈ l):n <= l.sum:=by
 induction l with
 | nil=>cases h
 | cons a l ih =>
  rw [List.sum_cons]
  rcases Ao.mp h with rfl | h
  .lia
  .have:=ih h; lia
theorem qn7 (c:Nat):∀ ps:List Str,ps ≠ []->(ps.map (·.length)).sum + ps.length <= (DI ⟨#[c]⟩ ps).length + 1
 | [],h=>absurd rfl h
 | [x],_=>by simp [DI]
 | x :: y :: r,_=>by
  have ih:=qn7 c (y :: r) (CC _ _)
  show _ <= (x ++ ⟨#[c]⟩ ++ DI ⟨#[c]⟩ (y :: r)).length + 1
  rw [Str.length_append,Str.length_append]
  have:(⟨#[c]⟩:Str).length=1:=rfl
  simp only [A4,List.sum_cons,An] at ih |-
  lia
theorem ql5 (x:Str) (c:Nat):(BY x ⟨#[c]⟩).length <= x.length + 1/\∀ p ∈ BY x ⟨#[c]⟩,p.length <= x.length:=by
 have h:=qn7 c (BY x ⟨#[c]⟩) (qj3 x c)
 rw [StrLaws.join_split] at h
 refine ⟨by lia,λp hp => ?_⟩
 have h2:=qwg (AS.mpr ⟨p,hp,rfl⟩:p.length ∈ (BY x ⟨#[c]⟩).map (·.length))
 have h3:1 <= (BY x ⟨#[c]⟩).length:=List.length_pos_iff.mpr (qj3 x c)
 lia
theorem qf8 (x:Str) (c:Nat):(AO.Str.partsBetween x (AO.Str.occurrences x ⟨#[c]⟩ 0 x.length (x.length + 1)) (⟨#[c]⟩:Str).length).length <= x.length + 2:=by
 rw [length_partsBetween]
 have:=StrLaws.occ_length_le x ⟨#[c]⟩ 0 x.length (x.length + 1)
 lia
noncomputable def fig (c:Nat):Bool:=decide (48 <= c) && decide (c <= 57)
noncomputable def nv (x:Str):Int:=((digitsVal x.cps.toList:Nat):Int)
noncomputable def plain (x:Str):Bool:=decide (x=Aa "0") || !decide (x.cps.toList.head?=some 48)
theorem qwh {x:Str} (h:x.cps.toList.all fig=true):AllDigits x.cps.toList:=λc hc=>by
 have:=AZ.mp h c hc
 unfold fig at this
 simp only [AI,decide_eq_true_eq] at this
 exact this
theorem qyr {x:Str} (h:x.cps.toList.all fig=true) (h1:1 <= x.cps.size) (h2:x.cps.size <= 4300):PySem.intText? x=some (nv x):=by
 refine intText_digits (qwh h) (λz => ?_) h2
 have:x.cps.toList.length=0:=by rw [z]; rfl
 rw [AN] at this
 lia
end Wri
namespace Add
open PySem PySem.Spec PyProof.Rows L2
inductive Tups (H:Hp):List V->List (List V)->Prop where
 | nil:Tups H [] []
 | cons {a:Addr} {r:List V} {vs:List V} {rs:List (List V)} (h:H a=some (.tup r)) (t:Tups H vs rs):Tups H (.ref a :: vs) (r :: rs)
theorem Tups.same {H H':Hp} {vs:List V} {rs:List (List V)} (t:Tups H vs rs) (s:Same H H'):Tups H' vs rs:=by
 induction t with
 | nil=>exact .nil
 | cons h _ ih=>exact .cons (s _ _ h) ih
theorem Tups.length {H:Hp} {vs:List V} {rs:List (List V)} (t:Tups H vs rs):vs.length=rs.length:=by
 induction t with
 | nil=>rfl
 | cons _ _ ih=>rw [An,An,ih]
theorem Tups.get {H:Hp} {vs:List V} {rs:List (List V)} (t:Tups H vs rs):∀ {i:Nat} {r:List V},rs[i]?=some r->∃ a,vs[i]?=some (.ref a)/\H a=some (.tup r):=by
 induction t with
 | nil=>intro i r h; cases i <;> cases h
 | cons h _ ih =>
  intro i r' h'
  cases i with
  | zero=>cases h'; exact ⟨_,rfl,h⟩
  | succ i=>exact ih (i:=i) h'
theorem Tups.get' {H:Hp} {vs:List V} {rs:List (List V)} (t:Tups H vs rs) {i:Nat} {v:V} (h:vs[i]?=some v):∃ a r,v=.ref a/\rs[i]?=some r/\H a=some (.tup r):=by
 have hi:i < rs.length:=by rw [<- t.length]; exact (Ae.mp h).1
 obtain ⟨a,e,q⟩:=t.get (i:=i) (r:=rs[i]) (by simp [hi])
 rw [h] at e
 cases e
 exact ⟨a,_,rfl,by simp [hi],q⟩
theorem Tups.app {H:Hp} {vs us:List V} {rs ts:List (List V)} (t:Tups H vs rs) (u:Tups H us ts):Tups H (vs ++ us) (rs ++ ts):=by
 induction t with
 | nil=>exact u
 | cons h _ ih=>exact .cons h ih
theorem Tups.snoc {H:Hp} {vs:List V} {rs:List (List V)} {a:Addr} {r:List V} (t:Tups H vs rs) (h:H a=some (.tup r)):Tups H (vs ++ [.ref a]) (rs ++ [r]):=t.app (.cons h .nil)
theorem Tups.upd {H:Hp} {vs:List V} {rs:List (List V)} {p:Addr} {xs:List V} {o:HO} (t:Tups H vs rs) (hp:H p=some (.lst xs)):Tups (L2.upd H p o) vs rs:=by
 induction t with
 | nil=>exact .nil
 | cons h _ ih=>exact .cons (by rw [zf (λz=>by rw [z,hp] at h; cases h)]; exact h) ih
section
variable {X:Cx}
theorem qm0 {a:Addr} {u:Value} (r:RelV (.ref a) u):u=.ref a:=by cases r; rfl
theorem qwi {K:Af} (h:X.K=K):IxR X (rIxT K):=by subst h; exact ja
theorem qdh {K:Af} (h:X.K=K):IxR X (rIxL K):=by subst h; exact jb
end
end Add
namespace Lay
section
variable {W:Type} [DecidableEq W]
noncomputable abbrev Row (W:Type):=Int × Int × W
noncomputable abbrev ends (rs:List (Row W)):List Int:=rs.map λr=>r.2.1
noncomputable def left (rs:List (Row W)) (f:Int):List (Row W):=rs.filterMap λr=>if r.1 < f then some (r.1,min r.2.1 (f - 1),r.2.2) else none
noncomputable def right (rs:List (Row W)) (l:Int):List (Row W):=rs.filterMap λr=>if l < r.2.1 then some (max r.1 (l + 1),r.2.1,r.2.2) else none
noncomputable def over (rs:List (Row W)) (f l:Int) (w:W):List (Row W):=left rs f ++ (f,l,w) :: right rs l
noncomputable def jn1 (told:List (Row W)) (r:Row W):List (Row W):=match told.getLast? with
 | some t=>if t.2.2=r.2.2/\t.2.1 + 1=r.1 then told.dropLast ++ [(t.1,r.2.1,r.2.2)] else told ++ [r]
 | none=>told ++ [r]
noncomputable def Nx (r s:Row W):Prop:=r.2.1 < s.1/\(s.1=r.2.1 + 1->r.2.2 ≠ s.2.2)
noncomputable def jn (rs:List (Row W)):List (Row W):=rs.foldl jn1 []
noncomputable def lay (rs:List (Row W)):List (Row W):=rs.foldl (λlaid r=>over laid r.1 r.2.1 r.2.2) []
noncomputable def ov (rs:List (Row W)):List (Row W):=jn (lay rs)
end
end Lay
namespace Srt
open PySem PySem.W PyProof.Rows
section
variable {n:Nat} {r:Nat->Nat->Bool}
noncomputable abbrev at' (p:Array Nat) (i:Nat):Nat:=p.getD i 0
end
end Srt
namespace Srt
open PySem PySem.W PySem.Calls PyProof.Rows
section
variable {prog:AM} {w:World} {A:AU} {E:Value->Ah->Prop} {s:Ah}
end
end Srt
namespace Add
open PySem PySem.Spec PyProof.Rows L2 Srt PySem.W
section
variable {X:Cx} {pins:List (Addr × Obj)} {σ:L2.St} {H:Hp} {s:Ah}
end
end Add
namespace Mrg
noncomputable abbrev S2:=Int × Int
noncomputable def inB (rs:List S2) (d:Int):Bool:=rs.any λr=>decide (r.1 <= d) && decide (d <= r.2)
noncomputable def mg1 (told:List S2) (r:S2):List S2:=match told.getLast? with
 | some t=>if r.1 <= t.2 + 1 then told.dropLast ++ [(t.1,if r.2 > t.2 then r.2 else t.2)] else told ++ [r]
 | none=>told ++ [r]
noncomputable def mg (rs:List S2):List S2:=rs.foldl mg1 []
end Mrg
namespace Add
open PySem PySem.Spec PyProof.Rows L2
theorem qq2 {X:Cx} {pins:List (Addr × Obj)} {σ:L2.St} {H:Hp} {s:Ah} {h':Heap} {t':Nat} {e it:Addr} (I:Inv X pins σ H s) (k:∀ b o,b ≠ e->b ≠ it->s.heap.get? b=some o->h'.get? b=some o) (f1:qei X pins H e) (f2:qei X pins H it) :
  Inv X pins σ H { s with heap:=h',toks:=t' }:=by
 have n1:∀ b u,H b=some u->b ≠ e:=λb u q z=>by rw [z,f1.1] at q; cases q
 have n2:∀ b u,H b=some u->b ≠ it:=λb u q z=>by rw [z,f2.1] at q; cases q
 have out:∀ b,b ∉ [e,it]->b ≠ e/\b ≠ it:=λb hb=>⟨λz=>hb (by simp [z]),λz=>hb (by simp [z])⟩
 refine I.step (g':=s.gens) (d':=s.drawn) (ch:=[e,it]) (λb hb => ?_) (λb o _ _ hc q _=>k b o (out b hc).1 (out b hc).2 q) (λb o _ _ hc q _=>⟨o.slots,k b o (out b hc).1 (out b hc).2 q⟩) (λ_ _ _ _ n=>n)
  (λb o hc q=>⟨o,k b o (out b hc).1 (out b hc).2 q⟩) (λ_ _ q=>q) (λ_ _ _ q=>q) (λb ps q=>⟨#[],by rw [q]; simp⟩) (λm hm => ?_) (λb u q => ?_) I.bare
 .rcases Ao.mp hb with rfl | hb
  .exact ⟨f1.2.2.2.1,f1.2.1,f1.2.2.2.2.1,f1.2.2.2.2.2⟩
  .cases Aj.mp hb
   exact ⟨f2.2.2.2.1,f2.2.1,f2.2.2.2.2.1,f2.2.2.2.2.2⟩
 .obtain ⟨o,es,ep,ho,r⟩:=hm
  exact ⟨o,es,ep,k _ o (AX f1.2.1) (AX f2.2.1) ho,r⟩
 .refine (I.hok b u q).stay (λc v hc z=>k c v ?_ ?_ z) (λ_ z=>z) λ_ _ z=>z
  .rcases hc with rfl | hc
   .exact n1 _ u q
   .exact n1 c _ hc
  .rcases hc with rfl | hc
   .exact n2 _ u q
   .exact n2 c _ hc
noncomputable def Ite (K:Af) (a:Addr):It :=
 ⟨λi H=>∃ xs x,SqL K H a xs/\xs[i]?=some x,λi H x H'=>∀ xs,SqL K H a xs->∃ y t,xs[i]?=some y/\H t=none/\x=.ref t/\H'=upd H t (.tup [.int i,y]),λi H=>∃ xs,SqL K H a xs/\xs.length <= i⟩
theorem qud {X:Cx} {pins:List (Addr × Obj)} {H:Hp} {b t:Addr} {o:HO} (f:qei X pins H b) (ne:b ≠ t):qei X pins (L2.upd H t o) b:=⟨by rw [zf ne]; exact f.1,f.2⟩
theorem qr8 {P:AM} {w:World} {K:Af} {es:List Expr} {kk pos} (a e it:Addr) (hne:e ≠ it):Turn P w K (.Tuple es kk pos) (Ite K a) [e,it] e (λi h=>∃ old,IsEnum h e it i old/\h.IsListIter it a i) where
 mem:=by simp
 obj:=λi h st b hb=>by
  obtain ⟨old,h1,o,h2,c,d⟩:=st
  rcases Ao.mp hb with rfl | hb
  .exact ⟨_,h1,λv z=>by cases z⟩
  .cases Aj.mp hb
   exact ⟨o,h2,λv z=>by rw [d] at z; cases z⟩
 keep:=λi h h' st k=>by
  obtain ⟨old,h1,h2⟩:=st
  exact ⟨old,k e (by simp) _ h1,h2.at λo q=>k it (by simp) o q⟩
 item:=by
  intro X hP hw hK hc i pins s σ H E I hf st hg
  subst hP hw hK
  obtain ⟨old,he,hit⟩:=st
  obtain ⟨xs,x,hq,hx⟩:=hg
  obtain ⟨its,rv,p,hz⟩:=I.list hq
  obtain ⟨u,hu,ru⟩:=rv.get hx
  have f1:=hf e (by simp)
  have f2:=hf it (by simp)
  refine wpAny_pyNext_enum_item he hit p.isList (x:=u) (by simpa using hu) hne λh1 ho hit1 ht hsz keep=>⟨_,rfl,?_⟩
  refine wpAny_letOwnedTupleGo_enum ho λh2 he2 sb => ?_
  replace sb:Cl e h1 h2:=sb
  have hel:e < s.heap.objs.size:=A0 he
  obtain ⟨oi,hoi,_⟩:=id hit
  have hil:it < s.heap.objs.size:=A0 hoi
  have ht2:h2.get? s.heap.objs.size=some { cls:=.type "tuple",data:=.seq #[.int i s.toks,u] }:=(sb.2 _ (Cr hel)).trans ht
  have hfr:H s.heap.objs.size=none:=I.hok.fresh (Az _)
  have I1:=I.laid (a:=s.heap.objs.size) (o:=.tup [.int i,x]) (h':=s.heap.push { cls:=.type "tuple",data:=.seq #[.int i s.toks,u] }) (t':=s.toks) (λb o q=>Am _ q) (Az _) ⟨show 2 <= Ax by rw [Bi]; decide,[.int i s.toks,u],.cons ⟨_,rfl⟩ (.cons ru .nil),⟨_,A6 _ rfl,rfl,_,rfl⟩⟩
  have I2:=qq2 (h':=h2) (t':=s.toks + 1) I1 (λb o n1 n2 q=>by
   by_cases z:b=s.heap.objs.size
   .subst z
    rw [A6 _ rfl] at q
    cases q
    exact ht2
   .rw [Heap.get?_push_ne _ _ _ z] at q
    exact (sb.2 b n1).trans (keep b o n1 n2 q)) (qud f1 (AJ hel)) (qud f2 (AJ hil))
  refine ⟨.ref s.heap.objs.size,_,I2,rfl,λys hy => ?_,⟨u,he2,hit1.at λo q=>(sb.2 it (AX hne)).trans q⟩,λb hb => ?_⟩
  .rw [I.list_inj hy hq]
   exact ⟨x,_,hx,hfr,rfl,rfl⟩
  .rcases Ao.mp hb with rfl | hb
   .rw [zf (AJ hel)]; exact f1.1
   .cases Aj.mp hb
    rw [zf (AJ hil)]; exact f2.1
 done:=by
  intro X hP hw hK hc i pins s σ H E I hf st hg
  subst hP hw hK
  obtain ⟨old,he,hit⟩:=st
  obtain ⟨xs,hq,hx⟩:=hg
  obtain ⟨its,rv,p,hz⟩:=I.list hq
  have hl:=rv.length
  have f1:=hf e (by simp)
  have f2:=hf it (by simp)
  exact wpAny_pyNext_enum_end (I.ok.hd hc) he hit p.isList (by simp; lia) λh' eb=>⟨rfl,qq2 (t':=s.toks) I (λb o n1 n2 q=>eb b o n2 q) f1 f2⟩
 self:=λA i s Q E st h=>by
  obtain ⟨old,he,hit⟩:=st
  exact wpAny_pyIter_enum he h
noncomputable def iEnum (K:Af) (ta:TA):TI:=λσ H R=>ta σ H λvs H1=>∃ a xs,vs=[.ref a]/\H1 a=some (.lst xs)/\R (Ite K a) H1
theorem qr9:bootBuiltins "enumerate" = some (.type "enumerate"):=by decide +kernel
theorem qq3 {X:Cx} {es:List Expr} {kk:_} {pos':Pos} {a:Expr} {ta:TA} {p pos:Pos} (hg:Gl X "enumerate") (hm:X.mg "enumerate" = none) (ha:PA X [a] ta) (hs:starEach [a] X.env=[(false,eval a X.env)]:=by rfl):PI X (.Tuple es kk pos') (.Call (.Name "enumerate" p) [a] [] pos) (iEnum X.K ta):=by
 intro pins s σ H R I h
 refine Call_ (qfc I hg hm qr9 (Bz (thn (ha pos pins s σ H _ I h) λus s1 ⟨vs,H1,I1,r1,q1⟩ => ?_) hs rfl))
 obtain ⟨l,xs,e,hl,q⟩:=q1
 subst e
 obtain ⟨u,rfl,hu⟩:=qfp r1
 cases qm0 hu
 obtain ⟨z,its,n,rv,hz,e⟩:=I1.lstM hl
 refine call_enumerate_1 e λh' he hit hsz keep=>wpAny_pyIter_enum he ?_
 have I2:Inv X pins σ H1 { s1 with heap:=h' }:=I1.kept (t':=s1.toks) keep
 refine ⟨s1.heap.objs.size + 1,[s1.heap.objs.size + 1,s1.heap.objs.size],_,_,H1,rfl,I2,qr8 l _ _ (Cr (CA _)),⟨.none,he,hit⟩,λb hb => ?_,q⟩
 rcases Ao.mp hb with rfl | hb
 .exact I1.fpOk (Cs _) (I1.hok.fresh (Cs _))
 .cases Aj.mp hb
  exact I1.fpOk (Az _) (I1.hok.fresh (Az _))
theorem qn8 {K:Af} {a:Addr} {xs:List V} {g:TG} {tb:TS} {D:Ends} {σ:L2.St} {H:Hp} (Pv:Nat->L2.St->Hp->Prop) (h0:Pv 0 σ H) (hl:∀ i σ H,i <= xs.length->Pv i σ H->SqL K H a xs)
  (hs:∀ i x t σ H,xs[i]?=some x->Pv i σ H->H t=none->g (.ref t) σ (upd H t (.tup [.int i,x])) λσ2 H2=>tb { D with nx:=Pv (i + 1),ct:=Pv (i + 1),bk:=D.nx } σ2 H2) (hd:∀ σ H,Pv xs.length σ H->D.nx σ H) :
  ∃ W:Nat->Nat->L2.St->Hp->Prop,(∃ m,W 0 m σ H)/\∀ i m σ H,W i m σ H ->
   ((Ite K a).stop i H/\D.nx σ H) \/ ((Ite K a).go i H/\∃ N:L2.St->Hp->Prop,(∀ σ' H',N σ' H'->∃ m',m' < m/\W (i + 1) m' σ' H')/\∀ x H',(Ite K a).yld i H x H'->g x σ H' λσ2 H2=>tb { D with nx:=N,ct:=N,bk:=D.nx } σ2 H2):=by
 refine ⟨λi m σ H=>m=xs.length - i/\i <= xs.length/\Pv i σ H,⟨xs.length,by simp,B0 _,h0⟩,?_⟩
 rintro i m σ H ⟨rfl,hi,p⟩
 have hq:=hl i σ H hi p
 by_cases hlt:i < xs.length
 .have ex:xs[i]?=some xs[i]:=by simp [hlt]
  refine .inr ⟨⟨xs,xs[i],hq,ex⟩,Pv (i + 1),λσ' H' n=>⟨xs.length - (i + 1),by lia,rfl,hlt,n⟩,λx H' hy => ?_⟩
  obtain ⟨y,t,e1,ht,rfl,rfl⟩:=hy xs hq
  exact hs i y t σ H e1 p ht
 .have e:i=xs.length:=by lia
  subst e
  exact .inl ⟨⟨xs,hq,Az _⟩,hd σ H p⟩
end Add
namespace Add
open PySem PySem.Spec PyProof.Rows L2
section
variable {X:Cx}
theorem que (bs:List Bool):((Ba bs.length).any λj=>(bs[j]?).getD true)=bs.any λb=>b:=by
 rw [Cp,D8,D8]
 constructor
 .rintro ⟨j,hj,e⟩
  have hj':j < bs.length:=by simpa using hj
  rw [Ag hj'] at e
  exact ⟨bs[j],Br hj',e⟩
 .rintro ⟨b,hb,e⟩
  obtain ⟨j,hj,rfl⟩:=List.getElem_of_mem hb
  exact ⟨j,by simpa using hj,by rw [Ag hj]; exact e⟩
theorem qsa (hc:X.calm=true):qej X (.builtin "any") (λxs H Q=>∃ (p:Addr) (bs:List Bool),xs=[V.ref p]/\SqL X.K H p (bs.map V.bl)/\Q (.bl (bs.any λb=>b)) H):=by
 intro pins s σ H xs us Q I r h
 obtain ⟨p,bs,rfl,hS,q⟩:=h
 obtain ⟨u,rfl,ru⟩:=Vals.one r
 cases ru
 obtain ⟨its,rv,pl,hz⟩:=I.list hS
 have hl:=rv.length
 rw [Ab] at hl
 have hne:p ≠ s.heap.objs.size:=by
  obtain ⟨o,ho,_⟩:=pl.isList
  exact AJ (A0 ho)
 refine call_any_walk (Dq pl.isList ⟨s.heap.objs.size,_,_,its.toArray.size,_,_,λj=>(bs[j]?).getD true,rfl,Walks.list (show X.A.in1.handled=none from I.ok.hd hc) _ p hne its.toArray,
  ⟨⟨_,A6 _ rfl,rfl,rfl⟩,pl.isList.at λo e=>Am _ e⟩,?_,λh' tk hk => ?_⟩)
 .intro i v s' Q' E' hv hq
  have hv':its[i]?=some v:=by simpa using hv
  cases e:bs[i]? with
  | none =>
   exfalso
   have h1:its.length <= i:=by rw [<- hl]; exact Ci.mp e
   rw [Ci.mpr h1] at hv'
   cases hv'
  | some b =>
   obtain ⟨u,hu,ru⟩:=rv.get (i:=i) (x:=.bl b) (by rw [Ak,e]; rfl)
   rw [hv'] at hu
   cases hu
   cases (show v=DZ b from ru)
   dsimp only at hq
   rw [e] at hq
   exact B9 hq
 .refine ⟨.bl _,H,I.kept (t':=tk) λb o e=>hk b o (λz => ?_) (Am _ e),rfl,?_⟩
  .have z':b=s.heap.objs.size:=by simpa using z
   exact absurd (A0 e) (by rw [z']; exact BZ _)
  .have e:its.toArray.size=bs.length:=by rw [Av,hl]
   rw [e,que]
   exact q
theorem qys {K:Af} {n:Nat} {t:TGs} (ht:∀ xs σ' H' R R',(∀ σ3 H3,R σ3 H3->R' σ3 H3)->t xs σ' H' R->t xs σ' H' R') (x:V) (σ':L2.St) (H':Hp) (R R':L2.St->Hp->Prop) (h:∀ σ3 H3,R σ3 H3->R' σ3 H3) (z:qvt K n t x σ' H' R):qvt K n t x σ' H' R':=by
 obtain ⟨a,xs,e,hq,hl,z⟩:=z
 exact ⟨a,xs,e,hq,hl,ht _ _ _ _ _ h z⟩
end
end Add
namespace Add
open PySem PySem.Spec PyProof.Rows L2
structure FunD (K:Af) (x qual:Str) (st:Stmt) (f:Addr) (fd:AB):Prop where
 ex:∃ (oc dV kV doc pm cdv ct:Value) (od an:Option Addr) (osl:Array (Option Value)),
  fd=Bt x qual (qbw st) (qbm st) (qab st) dV kV doc pm an cdv ct/\K.lookup f=some ⟨oc,od,.func fd,osl⟩/\BR K cdv qual=true
 kp:Bg K (.ref f)=true
section
variable {P:AM} {w:World} {K:Af} {mg:Str->Option Value} {base:Heap}
theorem FunD.ok {x qual:Str} {st:Stmt} {f:Addr} {fd:AB} {N ps:List Str} {k:Nat} {sp:Sp} (F:FunD K x qual st f fd) (S:FnScope N ps (qab st)) (len:∀ vs H Q E,sp vs H Q E->vs.length=ps.length)
  (hbody:∀ (cdv:Value) (A:AU) (outer:List Env) (s:Ah) (H:Hp) (vs:List V) (Q:VK) (E:XK),Room k (A.deeper (envOfC qual (qab st) s.heap.objs.size f cdv))->sp vs H Q E ->
   ∃ t,PSs (qms CX0 P w K mg base N qual (qab st) f cdv A outer s H E).nox (qbm st) t/\t { nx:=λ_ H'=>Q .non H',rt:=Q } (qfq N vs) H):FnOk P w K mg base CX0 (k + 1) f fd ps sp:=by
 obtain ⟨oc,dV,kV,doc,pm,cdv,ct,od,an,osl,rfl,lk,hcd⟩:=F.ex
 refine qtj lk hcd S len λA outer s H vs Q E hr hsp => ?_
 obtain ⟨t,h,q⟩:=hbody cdv A outer s H vs Q E hr hsp
 exact ⟨t,h.nox,q⟩
theorem qwj {x qual:Str} {st:Stmt} {f:Addr} {oc:Value} {od an:Option Addr} {osl:Array (Option Value)} {dV kV doc pm cdv ct:Value} (l:K.lookup f=some ⟨oc,od,.func (Bt x qual (qbw st) (qbm st) (qab st) dV kV doc pm an cdv ct),osl⟩)
  (c:BR K cdv qual=true) (k:Bg K (.ref f)=true):FunD K x qual st f (Bt x qual (qbw st) (qbm st) (qab st) dV kV doc pm an cdv ct):=⟨⟨oc,dV,kV,doc,pm,cdv,ct,od,an,osl,rfl,l,c⟩,k⟩
theorem quf {fd:AB} {ps:List Str} {ds:List Value} (h:∀ us:List Value,(us ++ ds).length=ps.length->∀ S,PySem.W.peek K S (bindArgs fd ⟨us,[]⟩)=some (ps.zip (us ++ ds))):Binds K fd ps ds:=λs us X hl=>PySem.W.kp_binds X (h us hl)
end
structure MethD (K:Af) (x qual:Str) (st:Stmt) (ps:List Str) (f:Addr) (fd:AB):Prop where
 fn:FunD K x qual st f fd
 bd:Binds K fd ps []
 ty:Cc K (.ref f)=some (.type "function")
end Add
namespace Add
open PySem PySem.Spec PyProof.Rows L2
section
variable {X:Cx} {a b c d:Expr} {ta tb tc td:TE} {pos:Pos}
end
theorem qwk {X:Cx} {K:Af} (hK:X.K=K) {es:List Expr} {kk:_} {pos:Pos} {t:TGs} {n:Nat} (hc:X.calm=true) (h:PGs X es t)
  (hn:(assignEach es X.env).length=n:=by rfl) (hst:(assignEach es X.env).findIdx? (·.1)=none:=by rfl):PG X (.Tuple es kk pos) (qvt K n t):=by
 subst hK; exact qie hc h hn hst
end Add
namespace Tab
open Mrg Lay
noncomputable def fy (wk:List Int) (yr:List S2) (i:Int):Bool:=wk.contains (i % 7 + 1) || inB yr i
noncomputable def opn (bs:List Bool) (k:Nat):Int:=(((bs.take k).filter λb => !b).length:Nat)
end Tab
namespace Add
open PySem PySem.Spec PyProof.Rows L2
section
variable {X:Cx} {tg:Expr}
end
end Add
namespace Rev
open PySem PyProof.Rows
set_option maxRecDepth 100000
theorem qyt:typeLookup (.type "list_reverseiterator") "__len__" = pure none:=by rw [typeLookup_type,builtinLookup_eq_fast]; kernel_rfl
theorem qug:typeLookup (.type "list_reverseiterator") "__length_hint__" = pure (some (.builtin "list_reverseiterator.__length_hint__")):=by rw [typeLookup_type,builtinLookup_eq_fast]; kernel_rfl
section
variable {prog:AM} {w:World} {A:AU} {s:Ah} {R:Result->Ah->Prop} {E:Value->Ah->Prop}
variable {I:Addr} {fp wr:List Addr} {G:Array GenState->Array GenState->Prop} {n:Nat} {P:Nat->Value->Prop} {St:Nat->Ah->Prop}
theorem qwl {x:Value} {Q:Bool->Ah->Prop} (hT:s.TypeIs x "list_reverseiterator") (h:Q false s):wpAny (model prog w) A (AO.List.listLengthHint x) Q E s:=by
 unfold AO.List.listLengthHint
 refine Ad (wpAny_specialOf hT qyt ?_)
 show wpAny _ A (specialOf x (Aa "__length_hint__") >>= _) _ _ _
 refine Ad (wpAny_specialOf hT qug ?_)
 generalize hid:("list_reverseiterator.__length_hint__" : String)=id0
 wp_delta
 rw [show splitId id0=some ("list_reverseiterator", "__length_hint__") from by subst hid; decide +kernel]
 subst hid
 refine Ad (wpAny_isInstance (b:=true) hT (by rw [isSubtype_type]; kernel_rfl) ?_)
 exact Ay h
theorem qsb (W:WalksS prog w A.in1 I fp wr G n P St) (hT:∀ i s,St i s->s.TypeIs (.ref I) "list_reverseiterator") (S:Addr) (res:Value) (c₀:Nat) (hst:St 0 s) (hSf:S ∉ fp) (hI:I ∈ fp)
  (hS:s.heap.get? S=some { cls:=.type "list",data:=.seq #[] c₀ })
  (hR:∀ s' acc' c',Moved (S :: wr) G s s'->s'.heap.get? S=some { cls:=.type "list",dict:=none,data:=.seq acc' c',slots:=#[] }->ItemsOf P acc' n->R (.ok (.ret res)) s') (hn:n <= Ax) :
  wpAny (model prog w) A.in1 (AO.List.listExtendWith (.ref S) (.ref I) res)
   (λfin s'=>match fin with | .done f=>R (.ok f) s' | .again c'=>c'.quiet=true/\codeAny (model prog w) A c' R s') (λe s'=>R (.error e) s') s:=by
 have hSI:S ≠ I:=λe=>hSf (e ▸ hI)
 unfold AO.List.listExtendWith
 refine Ad (wpAny_typeOf (hT 0 _ hst) ?_)
 have h1:AO.List.listSameRef (.ref S) (.ref I)=false:=by simp [AO.List.listSameRef,hSI]
 have h2:(BO "list_reverseiterator" == BO "list")=false:=by decide
 have h3:(BO "list_reverseiterator" == BO "tuple")=false:=by decide
 simp only [h1,h2,h3,Bool.or_false,Ct,if_false]
 refine Ad (W.self 0 _ _ _ hst ?_)
 refine Ad (Ca (qwl (hT 0 _ hst) ?_))
 rw [if_neg (by decide)]
 exact Ay ⟨plainId_quiet F.plain_extend_loop _,codeAny_extend_loopS W hn _ hSf _ n 0 _ _ _ rfl (B0 _) hst hS (ItemsOf.nil P) λs' acc' c' hm hS' hacc=>hR s' acc' c' hm hS' hacc⟩
theorem qwm (W:WalksS prog w A.in1 I fp wr G n P St) (hT:∀ i s,St i s->s.TypeIs (.ref I) "list_reverseiterator") (S:Addr) (hst:St 0 s) (hSf:S ∉ fp) (hI:I ∈ fp)
  (hS:s.heap.get? S=some { cls:=.type "list",data:=.seq #[] })
  (hR:∀ s' acc' c',Moved (S :: wr) G s s'->s'.heap.get? S=some { cls:=.type "list",dict:=none,data:=.seq acc' c',slots:=#[] }->ItemsOf P acc' n->R (.ok (.ret .none)) s') (hn:n <= Ax) :
  wpAny (model prog w) A.in1 (AO.«list.__init__» ⟨[.ref S,.ref I],[]⟩)
   (λfin s'=>match fin with | .done f=>R (.ok f) s' | .again c'=>c'.quiet=true/\codeAny (model prog w) A c' R s') (λe s'=>R (.error e) s') s:=by
 show wpAny _ A.in1 (AO.List.listItems (.ref S) >>= λold=>AO.List.listUpdate (.ref S) (λ_=>#[]) >>= λ_=>letGo old.toList.reverse >>= λ_=>AO.List.listExtendWith (.ref S) (.ref I) .none) _ _ s
 refine Ad ?_
 unfold AO.List.listItems
 refine Ad (Cd hS rfl (Ay ?_))
 refine Ad (wpAny_updateSeq hS rfl ?_)
 have hS2:=B1 (Do (λ_=>(#[]:Array Value))) hS rfl
 have oth:∀ b o,b ≠ S->s.heap.get? b=some o->(s.heap.update S (Do (λ_=>(#[]:Array Value)))).get? b=some o:=λb o hb e=>(Bw _ _ (AX hb)).trans e
 refine Ad (wpAny_letGo ?_)
 refine qsb W hT S .none _ (W.frame 0 s _ s.toks hst (Az _) λb hb o e=>oth b o (λh=>hSf (h ▸ hb)) e) hSf hI hS2 (λs' acc' c' hm hS' hacc => ?_) hn
 exact hR s' acc' c' (Moved.trans W.gtrans ((Moved.refl W.grefl).then_heap (Az _) λb o hb e=>oth b o (λh=>hb (h ▸ Aq)) e) hm) hS' hacc
theorem list_ok {Q:Value->Ah->Prop} (W:WalksS prog w A.in1.in1 I fp wr G n P St) (hT:∀ i s,St i s->s.TypeIs (.ref I) "list_reverseiterator") (hst:St 0 s) (hfp:∀ b ∈ fp,b < s.heap.objs.size) (hI:I ∈ fp)
  (hQ:∀ s' acc' c',Moved (s.heap.objs.size :: wr) G { s with heap:=s.heap.push { cls:=.type "list",data:=.seq #[] } } s' ->
   s'.heap.get? s.heap.objs.size=some { cls:=.type "list",dict:=none,data:=.seq acc' c',slots:=#[] }->ItemsOf P acc' n->Q (.ref s.heap.objs.size) s') (hn:n <= Ax) :
  wpAny (model prog w) A (call (.type "list") [.ref I]) Q E s:=by
 have hSf:s.heap.objs.size ∉ fp:=λhm=>BZ _ (hfp _ hm)
 refine callType_codes (Q₁:=λobj s₁=>obj=.ref s.heap.objs.size/\s₁={ s with heap:=s.heap.push { cls:=.type "list",data:=.seq #[] } }) F.called_list (F.typeCall_list_1 _) F.entry_list_init (code_list_new _ ⟨rfl,rfl⟩) λobj s₁ h₁ => ?_
 obtain ⟨rfl,rfl⟩:=h₁
 have hS:(s.heap.push { cls:=.type "list",data:=.seq #[] }).get? s.heap.objs.size=some { cls:=.type "list",data:=.seq #[] }:=A6 _ rfl
 exact ⟨⟨_,hS,rfl⟩,F.args_list_init_2 _ _,qwm W hT _ (W.frame 0 s _ s.toks hst (Az _) λb _ o e=>Am _ e) hSf hI hS (λs' acc' c' hm hS' hacc=>⟨rfl,hQ s' acc' c' hm hS' hacc⟩) hn⟩
end
end Rev
namespace Add
open PySem PySem.Spec PyProof.Rows L2
theorem qlb:bootBuiltins "reversed" = some (.type "reversed"):=by decide +kernel
theorem qsc {xs:List V} {us:List Value} {x:V} {u:Value} (h:Vals xs us) (r:RelV x u):Vals (xs ++ [x]) (us ++ [u]):=by
 induction h with
 | nil=>exact .cons r .nil
 | cons r' _ ih=>exact .cons r' ih
theorem quh {xs:List V} {us:List Value} (h:Vals xs us):Vals xs.reverse us.reverse:=by
 induction h with
 | nil=>exact .nil
 | cons r _ ih=>rw [List.reverse_cons,List.reverse_cons]; exact qsc ih r
theorem qsd {its:List Value} {acc:Array Value} (h:ItemsOf (λi v=>its.toArray[its.toArray.size - 1 - i]?=some v) acc its.toArray.size):acc=its.reverse.toArray:=by
 obtain ⟨h1,h2⟩:=h
 have e:acc.toList=its.reverse:=by
  refine BK λi => ?_
  have hs:acc.size=its.length:=by rw [h1]; simp
  by_cases c:i < its.length
  .have hi:i < acc.size:=by lia
   have hg:acc[i]?=some acc[i]:=Array.getElem?_eq_getElem hi
   have:=h2 i _ hg
   rw [D4,hg,<- this,D5 c]
   simp
  .rw [Bh (by rw [AN]; lia),Bh (by rw [Dg]; lia)]
 rw [<- e]
section
variable {X:Cx}
noncomputable def tLR (K:Af) (t:TA):TE:=λσ H Q=>t σ H λvs H1=>∃ l ys,vs=[.ref l]/\SqL K H1 l ys/\∀ q,H1 q=none->Q (.ref q) (upd H1 q (.lst ys.reverse))
theorem qj5 {e:Expr} {t:TA} {p p2 pos pos2:Pos} (hca:X.calm=true) (hgl:Gl X "list") (hml:X.mg "list" = none) (hgr:Gl X "reversed") (hmr:X.mg "reversed" = none) (hbl:bootBuiltins "list" = some (.type "list")) (ha:PA X [e] t)
  (he:starEach [e] X.env=(false,eval e X.env) :: starEach [] X.env:=by rfl):PE X (.Call (.Name "list" p) [.Call (.Name "reversed" p2) [e] [] pos2] [] pos) (tLR X.K t):=by
 intro pins s σ H Q I h
 refine BG (qfc I hgl hml hbl ?_)
 refine Bz ?_ rfl rfl
 show wpAny _ _ (spliced ((false,eval (.Call (.Name "reversed" p2) [e] [] pos2) X.env) :: [])) _ _ s
 refine Dn ?_
 refine BG (qfc I hgr hmr qlb ?_)
 refine Bz (thn (ha pos2 pins s σ H _ I h) λus s1 ⟨vs,H1,I1,r1,q1⟩ => ?_) he rfl
 obtain ⟨l,ys,rfl,hq,q⟩:=q1
 obtain ⟨u,rfl,rx⟩:=qfp r1
 cases rx
 obtain ⟨its,r',pl,hz⟩:=I1.list hq
 refine call_reversed_list pl.isList (Du ?_)
 have hl1:=pl.isList
 have hll:l < s1.heap.objs.size:=by obtain ⟨o,ho,_⟩:=hl1; exact A0 ho
 have hh:X.A.handled=none:=I.ok.hd hca
 have W:=(Walks.listRev (prog:=X.prog) (w:=X.w) (A:=X.A.in1.in1) hh s1.heap.objs.size l (AJ hll) its.toArray).toS
 refine Rev.list_ok W (λi s st=>st.2.1.typeIs) ⟨B0 _,?_,hl1.at λo e=>Am _ e⟩ (λb hb => ?_) (by simp) (λs' acc' c' hm hS' hacc => ?_) ?_
 .refine ⟨_,A6 _ rfl,rfl,?_⟩
  rw [show ((its.toArray.size:Nat):Int) - 1 - ((0:Nat):Int)=(its.toArray.size:Int) - 1 by lia]
  rfl
 .show b < (s1.heap.push _).objs.size
  rw [Cn]
  rcases Ao.mp hb with z | z
  .rw [z]; exact CA _
  .rw [Aj.mp z]; exact Nat.lt_succ_of_lt hll
 .have sz:(s1.heap.push (revObj l ((its.toArray.size:Int) - 1))).objs.size=s1.heap.objs.size + 1:=Cn _ _
  have kp:∀ b o,s1.heap.get? b=some o->s'.heap.get? b=some o:=λb o e=>by
   have hb:=A0 e
   refine hm.heap b o (λz => ?_) (Am _ (Am _ e))
   rcases Ao.mp z with z | z
   .rw [z] at hb
    exact absurd hb (by show ¬ ((s1.heap.push (revObj l ((its.toArray.size:Int) - 1))).objs.size < s1.heap.objs.size); rw [sz]; exact Nat.not_lt_of_le (Cs _))
   .rw [Aj.mp z] at hb
    exact BZ _ hb
  have es:s'={ s1 with heap:=s'.heap,toks:=s'.toks }:=by
   have g1:=hm.gens
   have g2:=hm.drawn
   have g3:=hm.os
   cases s'
   cases s1
   simp_all
  have le:s1.heap.objs.size <= (s1.heap.push (revObj l ((its.toArray.size:Int) - 1))).objs.size:=by rw [sz]; exact Cs _
  rw [qsd hacc] at hS'
  have new:ObjOk X.prog X.w (upd H1 (s1.heap.push (revObj l ((its.toArray.size:Int) - 1))).objs.size (.lst ys.reverse)) s'.heap (s1.heap.push (revObj l ((its.toArray.size:Int) - 1))).objs.size (.lst ys.reverse) :=
   ⟨by rw [Dg]; exact hz,its.reverse,c',quh r',hS'⟩
  have I3:=I1.laid (t':=s'.toks) kp le new
  rw [<- es] at I3
  exact ⟨.ref _,_,I3,rfl,q _ (I1.hok.fresh le)⟩
 .have:=r'.length
  simp only [Av]
  lia
end
end Add
namespace Lay
end Lay
namespace Add
open PySem PySem.Spec PyProof.Rows L2
end Add
namespace Add
open PySem PySem.Spec PyProof.Rows L2
section
variable {X:Cx} {CX:CXT} {k:Nat} {f C:Addr} {fd:AB} {ps ks:List Str} {sp:Sp} {E:XK} {x:Str} {p pos:Pos} {e:Expr} {es:List Expr} {kws:List Keyword} {t tk:TA} {g:List Value->List Value->List Value} {gV:List V->List V->List V}
end
noncomputable def g21 {α:Type} (n:α):List α->List α->List α
 | [a,b],[c]=>[a,b,n,c]
 | _,_=>[]
section
variable {X:Cx}
theorem qui (n:Nat):(Ba n).all (λ_=>true)=true:=by simp
end
end Add
namespace Add
open PySem PySem.Spec PyProof.Rows L2
section
variable {X:Cx}
noncomputable def ipL:TIp:=λx y H Q=>∃ l b xs zs,x=.ref l/\y=.ref b/\H l=some (.lst xs)/\H b=some (.lst zs)/\xs.length + zs.length <= Ax/\Q (.ref l) (upd H l (.lst (xs ++ zs)))
theorem qjc:fillsInplaceSlot (.type "list") "add" (Operator.Add == .Add)=pure false:=by
 unfold fillsInplaceSlot
 show (typeLookup (.type "list") (dunderI "add") >>= λfi=>pure (fi.isSome && !isSeqSlot fi))=pure false
 rw [F.slot_list_iadd.lookup]
 rfl
theorem qlc:seqSlot? (.type "list") (dunderI "add")=pure (some (.builtin "list.__iadd__")):=PySem.seqSlot_of F.slot_list_iadd.lookup (by decide +kernel)
theorem qyu:PIp X .Add ipL:=by
 intro pins s σ H x y v u Q I rx ry h
 obtain ⟨l,b,xs,zs,rfl,rfl,hH,hB,hz,q⟩:=h
 cases rx
 cases ry
 obtain ⟨z,its,n,r,hl,e⟩:=I.lstM hH
 obtain ⟨z2,its2,n2,r2,hl2,e2⟩:=I.lstM hB
 have hsz:its.toArray.size + its2.toArray.size <= Ax:=by rw [Av,Av]; lia
 have hlong:¬ (!its.toArray.isEmpty && AO.List.listTooLong (its.toArray.size + its2.toArray.size))=true:=by
  rw [qnq hsz,CV]
  exact AA
 unfold inplaceOp
 refine Ca ?_
 have ta:s.TypeIs (.ref l) "list" := ⟨_,e,rfl⟩
 have tb:s.TypeIs (.ref b) "list" := ⟨_,e2,rfl⟩
 refine Ad (wpAny_typeOf ta (Ad (wpAny_of_eq qjc ?_)))
 show wpAny _ _ (if false=true then _ else _) _ _ s
 rw [if_neg AA]
 refine Ad (wpAny_binaryOp1_none (nm := "add") ta tb noFill_list_add ?_)
 refine Ad (wpAny_of_eq qlc ?_)
 refine Ad (wpAny_rule ?_)
 refine D7 F.slot_list_iadd ta F.entry_list_iadd (F.args_list_iadd_2 _ _)
  (AutoSeq1.list___iadd___list_list_0 l its.toArray n b its2.toArray n2 hlong (by rw [Av]; lia) (by lia)) ⟨e,e2,?_⟩
 refine ⟨.ref l,_,I.lset (its':=its ++ its2) hH e (by simp) (r.append r2) ?_,rfl,q⟩
 rw [Ai]
 lia
theorem ql6 {α β:Type} {F:α->β->Prop}:∀ {l:List α} {m:List β},l.length=m.length->(∀ (j:Nat) (x:α) (u:β),l[j]?=some x->m[j]?=some u->F x u)->Dm F l m
 | [],[],_,_=>.nil
 | x :: l,u :: m,h,f=>.cons (f 0 x u rfl rfl) (ql6 (CK h) λj y v hy hv=>f (j + 1) y v hy hv)
theorem is_kV {P:AM} {w:World} {k:Key} {u:Value} (h:(qbv P w).is k u=true):RelV (kV k) u:=by
 cases k with
 | inl i=>exact Value.isInt_shape h
 | inr x=>exact Value.isStrOf_shape h
theorem qpk (hc:X.calm=true):qej X (.type "list") (λxs H Q=>∃ (d:Addr) (kvs:List (Key × V)),xs=[.ref d]/\H d=some (.dK kvs)/\∀ l,H l=none->Q (.ref l) (upd H l (.lst (kvs.map λkv=>kV kv.1)))):=by
 intro pins s σ H xs us Q I r h
 obtain ⟨d,kvs,rfl,hd,q⟩:=h
 obtain ⟨u,rfl,rx⟩:=qfp r
 cases rx
 obtain ⟨z,lo,vs,kv,hD⟩:=qqr I.hok hd
 obtain ⟨ep,hat⟩:=hD.dictAt
 refine PySem.W.kdl_call (PySem.W.kdl_dict (knd:=qbv X.prog X.w) (kvs:=vs) (ep:=ep) lo) (I.ok.hd hc) hat (by rw [<- kv.length]; exact z) λh' tk acc c kp e ia => ?_
 have rv:Vals (kvs.map λkv=>kV kv.1) acc.toList:=by
  have hl:(kvs.map λkv=>kV kv.1).length=acc.toList.length:=(Ab _).trans (kv.length.trans (ia.1.symm.trans AN.symm))
  refine ql6 hl λj x u hx hu => ?_
  obtain ⟨k,y,hk,hi⟩:=ia.2 j u (by rw [<- D4]; exact hu)
  rw [Ak] at hx
  have ek:=congrArg (·[j]?) kv.keys
  simp only [Ak,hk,CO] at ek
  cases ej:kvs[j]? with
  | none=>rw [ej] at hx; cases hx
  | some p =>
   rw [ej] at hx ek
   cases hx
   cases AG ek
   exact is_kV hi
 exact ⟨.ref s.heap.objs.size,_,I.laid (t':=tk) kp (Az _) (show ObjOk X.prog X.w _ h' _ (.lst (kvs.map λkv=>kV kv.1)) from ⟨by rw [Ab]; exact z,acc.toList,c,rv,by simpa using e⟩),rfl,q _ (I.hok.fresh (Az _))⟩
end
noncomputable def KeepN (H H':Hp):Prop:=∀ b o,(∀ l,o ≠ .lst l)->H b=some o->H' b=some o
theorem KeepN.of {H H':Hp} (s:Same H H'):KeepN H H':=λb o _ e=>s b o e
end Add
namespace Add
open PySem PySem.Spec PyProof.Rows L2
section
variable {X:Cx} {CX:CXT} {ι:Type} {k:ι->Nat} {f C:ι->Addr} {fd:ι->AB} {ps:ι->List Str} {sp:ι->Sp} {dvs:List V} {ds:List Value} {E:XK} {m:Str} {pos apos:Pos} {e o:Expr} {es:List Expr} {ta:TE} {t:TA}
end
section
variable {X:Cx}
end
section
variable {K:Af} {C:Addr}
end
section
variable {X:Cx} {tg:Expr}
end
end Add
namespace Add
open PySem PySem.Spec PyProof.Rows L2
section
variable {X:Cx}
theorem qn9:∀ {ss:List Str} {its:List Value},Vals (ss.map V.str) its->StrsAre its ss
 | [],_,.nil=>.nil
 | y :: ss,_,.cons a r=>by
  obtain ⟨t,rfl⟩:=a
  exact .cons y t (qn9 r)
theorem qwn:OpR X (compareOp .IsNot) (λx y H Q=>∃ b c:Bool,x=.bl b/\y=.bl c/\Q (.bl (b != c)) H):=by
 intro pins s σ H x y v u Q I rx ry h
 obtain ⟨b,c,rfl,rfl,q⟩:=h
 cases rx
 cases ry
 exact PyProof.Rows.isnot_bool ⟨.bl (b != c),H,I,rfl,q⟩
end
end Add
namespace Add
open PySem PySem.Spec PyProof.Rows L2
section
variable {X:Cx}
noncomputable def qwo:V->List V->Hp->VK->Prop:=λx vs H Q=>∃ (l:Addr) (ss:List Str) (k:Str) (j:Nat),x=.ref l/\vs=[.str k]/\H l=some (.lst (ss.map V.str))/\ss[j]?=some k/\(∀ m,m < j->ss[m]? ≠ some k)/\Q (.int (j:Int)) H
theorem qyv {its:List Value} {ss:List Str} (r:StrsAre its ss):∀ {m:Nat} {z:Str},ss[m]?=some z->∃ t,its[m]?=some (.str z t):=by
 induction r with
 | nil=>intro m z h; cases h
 | cons y t _ ih =>
  intro m z h
  cases m with
  | zero=>cases h; exact ⟨_,rfl⟩
  | succ m=>exact ih h
theorem qwp {its:List Value} {ss:List Str} (r:StrsAre its ss):its.length=ss.length:=by
 induction r with
 | nil=>rfl
 | cons _ _ _ ih=>rw [An,An,ih]
theorem qse:MtR X "list.index" qwo:=by
 intro pins s σ H x vs v us Q I rx rv h
 obtain ⟨l,ss,k,j,rfl,rfl,hH,hj,hno,q⟩:=h
 cases rx
 obtain ⟨u,rfl,ru⟩:=rv.one
 obtain ⟨t,rfl⟩:=ru
 obtain ⟨z,its,n,r,hl,e⟩:=I.lstM hH
 have sa:=qn9 r
 have la:=qwp sa
 obtain ⟨hjl,_⟩:=Ae.mp hj
 rw [Ab,Bi] at z
 have at':∀ {m:Nat} (hm:m < its.toArray.size) {y:Str},ss[m]?=some y->isStrOf k its.toArray[m]=(y == k):=λ{m} hm {y} h=>by
  obtain ⟨t',e'⟩:=qyv sa h
  have:its.toArray[m]=.str y t':=by
   have h2:its[m]?=some its[m]:=by simp
   rw [h2] at e'
   simpa using AG e'
  rw [this]; rfl
 refine D7 F.slot_list_index ⟨_,e,rfl⟩ F.entry_list_index (F.args_list_index_2 _ _)
  (SeqAt.list_indexAt l its.toArray n _ _ (.str k t) (isStrOf k) j (by rw [Av]; lia) (by lia) ?_ ?_) ⟨e,λy hy=>(eq_isStrOf k t sa y (by simpa using hy)).at _ _,?_⟩
 .rw [at' _ hj]; exact beq_self_eq_true k
 .intro m hm hlt
  obtain ⟨y,hy⟩:∃ y,ss[m]?=some y:=⟨_,Ag (by lia)⟩
  rw [at' hm hy]
  cases eb:y == k with
  | false=>rfl
  | true=>rw [eq_of_beq eb] at hy; exact absurd hy (hno m hlt)
 .exact ⟨.int (j:Int),H,I.tok _,⟨_,rfl⟩,q⟩
end
section
end
end Add
namespace Add
open PySem PySem.Spec PyProof.Rows L2
section
variable {prog:AM} {w:World} {A:AU} {E:Value->Ah->Prop} {s:Ah}
theorem qpl {it t:Addr} {i:Nat} {items:Array Value} {x:Value} {Q:Value->Ah->Prop} (hi:s.heap.IsTupleIter it t i) (ht:s.heap.IsTuple t items) (hx:items[i]?=some x)
  (hQ:∀ h',h'.IsTupleIter it t (i + 1)->Cl it s.heap h'->Q x { s with heap:=h' }):wpAny (model prog w) A (AO.SmallTypes.nextOf (.ref it)) Q E s:=by
 obtain ⟨o,ho,hc,hd⟩:=id hi
 obtain ⟨_,hol,_,_,hdl⟩:=ht
 unfold AO.SmallTypes.nextOf
 refine Ad (CD (name:=Aa "__next__") hi.typeIs Cv (DA Cv hi.typeIs F.entry_tuple_iterator_next ?_ (F.args_tuple_iterator_next_1 _)))
 show wpAny _ _ (field (.ref it) 0 >>= _) _ _ s
 refine Ad (BC ho hd (x:=.ref t) rfl ?_)
 show wpAny _ _ (if (Al t == BF)=true then _ else _) _ _ s
 rw [if_neg (show ¬ ((Al t == BF)=true) from AA)]
 show wpAny _ _ (field (.ref it) 1 >>= _) _ _ s
 refine Ad (BC ho hd (x:=.int i 0) rfl ?_)
 show wpAny _ _ (seqItems? (.ref t) >>= _) _ _ s
 refine Ad (Cd hol hdl ?_)
 simp only [Bx,hx]
 exact Ad (CY ho hd (by simp) (Ay ⟨x,rfl,Ay (hQ _ ⟨_,B1 _ ho (Cy (BV hd _)),(Obj.cls_mapFields ..).trans hc,by rw [BV hd]; simp [rawInt]⟩ (Cl.update ..))⟩))
theorem qld {it t:Addr} {i:Nat} {items:Array Value} {Q:Value->Ah->Prop} (hh:A.handled=none) (hi:s.heap.IsTupleIter it t i) (ht:s.heap.IsTuple t items) (hx:items[i]?=none)
  (hE:∀ h' e,Heap.ExtBut it s.heap h'->(∃ o,h'.get? e=some o/\o.cls=.type "StopIteration")->E (.ref e) { s with heap:=h' }):wpAny (model prog w) A (AO.SmallTypes.nextOf (.ref it)) Q E s:=by
 obtain ⟨o,ho,hc,hd⟩:=id hi
 obtain ⟨_,hol,_,_,hdl⟩:=ht
 unfold AO.SmallTypes.nextOf
 refine Ad (CD (name:=Aa "__next__") hi.typeIs Cv (DA Cv hi.typeIs F.entry_tuple_iterator_next ?_ (F.args_tuple_iterator_next_1 _)))
 show wpAny _ _ (field (.ref it) 0 >>= _) _ _ s
 refine Ad (BC ho hd (x:=.ref t) rfl ?_)
 show wpAny _ _ (if (Al t == BF)=true then _ else _) _ _ s
 rw [if_neg (show ¬ ((Al t == BF)=true) from AA)]
 show wpAny _ _ (field (.ref it) 1 >>= _) _ _ s
 refine Ad (BC ho hd (x:=.int i 0) rfl ?_)
 show wpAny _ _ (seqItems? (.ref t) >>= _) _ _ s
 refine Ad (Cd hol hdl ?_)
 simp only [Bx,hx]
 refine Ad (wpAny_rule (Ad (CY ho hd (by simp) ?_)))
 show wpAny _ _ (newExc (.type "StopIteration") [] >>= _) _ _ _
 refine Ad ?_
 simp only [newExc,newTuple]
 refine Ad (Dv (Ad (m:=firstArgMember _ _) (wpAny_of_eq (a:=BF) (by first | rfl | (simp only [firstArgMember]; rfl)) (Dv ?_ (by size_fits)))) (by size_fits))
 exact wpAny_raiseNew_none hh (hE _ _ (((Cl.update ..).extBut.push _).push _) ⟨_,A6 _ rfl,rfl⟩)
theorem qsf (hh:A.handled=none) (it t:Addr) (ne:t ≠ it) (items:Array Value):Draws prog w A it [it,t] items.size (λi v=>items[i]?=some v) (λi h=>h.IsTupleIter it t i/\h.IsTuple t items) where
 live:=λ_ _ st=>let ⟨o,ho,_⟩:=st.1; ⟨o,ho⟩
 frame:=λ_ _ _ ⟨⟨o,ho,r⟩,⟨q,hq,r2⟩⟩ hk=>⟨⟨o,hk it (by simp) o ho,r⟩,⟨q,hk t (by simp) q hq,r2⟩⟩
 item:=λi s Q E hi st hQ=>qpl st.1 st.2 (x:=items[i]) (by simp [hi]) λh' h1 h2=>hQ _ h' s.toks (by simp [hi]) ⟨h1,st.2.extBut h2.extBut ne⟩ h2
 done:=λs Q E st hE=>qld hh st.1 st.2 (by simp) hE
end
structure Zap (z TI TO i1 i2:Addr) (f1 f2:List Addr):Prop where
 tz:TI ≠ z
 oz:TO ≠ z
 to:TI ≠ TO
 m1:i1 ∈ f1
 m2:i2 ∈ f2
 z1:z ∉ f1
 z2:z ∉ f2
 o1:TO ∉ f1
 o2:TO ∉ f2
 t1:TI ∉ f1
 t2:TI ∉ f2
 x1:i1 ∉ f2
 x2:i2 ∉ f1
noncomputable def ql7 (z TI TO i1 i2:Addr) (S1 S2:Nat->Heap->Prop) (f0:Value) (k:Nat) (h:Heap):Prop:=IsZip h z TI TO f0/\DB h TI (.ref i1) (.ref i2)/\(∃ a b,DB h TO a b)/\S1 k h/\S2 k h
section
variable {prog:AM} {w:World} {A:AU} {E:Value->Ah->Prop} {s:Ah} {z TI TO i1 i2:Addr} {f1 f2:List Addr} {n n2 k:Nat} {P1 P2:Nat->Value->Prop} {S1 S2:Nat->Heap->Prop}
theorem quj {Q:Value->Ah->Prop} (D1:Draws prog w A i1 f1 n P1 S1) (D2:Draws prog w A i2 f2 n2 P2 S2) (ap:Zap z TI TO i1 i2 f1 f2) (st:ql7 z TI TO i1 i2 S1 S2 .none k s.heap) (hk:k < n) (hk2:k < n2)
  (hQ:∀ h' tk x y,P1 k x->P2 k y->ql7 z TI TO i1 i2 S1 S2 (rawInt s.heap.objs.size) (k + 1) h'->DB h' s.heap.objs.size x y->(∀ c o,c ≠ z->c ≠ TO->c ≠ i1->c ≠ i2->s.heap.get? c=some o->h'.get? c=some o)->Q (.ref s.heap.objs.size) { s with heap:=h',toks:=tk }) :
  wpAny (model prog w) A (AO.«zip.__next__» ⟨[.ref z],[]⟩) (λfin s'=>∃ v,fin=.done (.ret v)/\Q v s') E s:=by
 obtain ⟨hz,hTI,⟨a,b,hTO⟩,h1,h2⟩:=st
 have n1:∀ b ∈ f1,b ≠ z/\b ≠ TO/\b ≠ i2:=λb hb=>⟨λe=>ap.z1 (e ▸ hb),λe=>ap.o1 (e ▸ hb),λe=>ap.x2 (e ▸ hb)⟩
 have m2:∀ b ∈ f2,b ≠ z/\b ≠ TO/\b ≠ i1:=λb hb=>⟨λe=>ap.z2 (e ▸ hb),λe=>ap.o2 (e ▸ hb),λe=>ap.x1 (e ▸ hb)⟩
 have zi1:z ≠ i1:=λe=>(n1 i1 ap.m1).1 e.symm
 have zi2:z ≠ i2:=λe=>(m2 i2 ap.m2).1 e.symm
 have oi1:TO ≠ i1:=λe=>(n1 i1 ap.m1).2.1 e.symm
 have oi2:TO ≠ i2:=λe=>(m2 i2 ap.m2).2.1 e.symm
 have ti1:TI ≠ i1:=λe=>ap.t1 (e ▸ ap.m1)
 have ti2:TI ≠ i2:=λe=>ap.t2 (e ▸ ap.m2)
 show wpAny _ _ (field (.ref z) 2 >>= _) _ _ _
 refine Ad (BC hz rfl (x:=.bool false) rfl ?_)
 show wpAny _ _ (field (.ref z) 3 >>= _) _ _ _
 refine Ad (BC hz rfl (x:=.ref TI) rfl (Ad (Cd hTI rfl ?_)))
 show wpAny _ _ (AO.SmallTypes.ownedTupleIsFree (.ref z) >>= _) _ _ _
 refine Ad ?_
 unfold AO.SmallTypes.ownedTupleIsFree
 refine Ad (BC hz rfl (x:=.none) rfl (Ay ?_))
 simp only [if_true]
 refine Ad (wpAny_rule (Ad (BC hz rfl (x:=.ref TO) rfl (Ad (CL hz (by simp) λh3 hz3 b3=>Ad ?_)))))
 have z3:IsZip h3 z TI TO .ellipsis:=hz3
 simp only [List.zipIdx_cons,List.zipIdx_nil,DM,List.forIn_nil]
 refine Ad (Ad (wpAny_onRaise (Ad (D1.item k _ _ _ hk (D1.frame _ _ _ h1 λb hb o e=>b3.extBut b o (n1 b hb).1 e) λx h4 tk px s4 b4=>Ay ?_))))
 have o4:DB h4 TO a b:=b4.extBut _ _ oi1 (b3.extBut _ _ ap.oz hTO)
 refine Ad (Cd o4 rfl (Ad (wpAny_updateSeq_pair o4 λh5 ho5 b5=>Ad (wpAny_letGo (Ay ?_)))))
 have o5:DB h5 TO x b:=ho5
 refine Ad (Ad (wpAny_onRaise (Ad (D2.item k _ _ _ hk2 (D2.frame _ _ _ h2 λb hb o e=>b5.extBut b o (m2 b hb).2.1 (b4.extBut b o (m2 b hb).2.2 (b3.extBut b o (m2 b hb).1 e))) λy h6 tk2 py s6 b6=>Ay ?_))))
 have o6:DB h6 TO x b:=b6.extBut _ _ oi2 o5
 refine Ad (Cd o6 rfl (Ad (wpAny_updateSeq_pair o6 λh7 ho7 b7=>Ad (wpAny_letGo (Ay (Ay ?_))))))
 have o7:DB h7 TO x y:=ho7
 have sz:h7.objs.size=s.heap.objs.size:=by rw [b7.1,b6.1,b5.1,b4.1,b3.1]
 have kp:∀ c o,c ≠ z->c ≠ TO->c ≠ i1->c ≠ i2->s.heap.get? c=some o->h7.get? c=some o:=λc o c1 c2 c3 c4 e=>b7.extBut _ _ c2 (b6.extBut _ _ c4 (b5.extBut _ _ c2 (b4.extBut _ _ c3 (b3.extBut _ _ c1 e))))
 have z7:IsZip h7 z TI TO .ellipsis:=b7.extBut _ _ ap.oz.symm (b6.extBut _ _ zi2 (b5.extBut _ _ ap.oz.symm (b4.extBut _ _ zi1 z3)))
 refine Ad (Cd o7 rfl (Ad (wpAny_newTuple (Ad ?_))))
 unfold AO.SmallTypes.ownedTupleHandOut
 refine Ad (CL (Am _ z7) (by simp) λh8 hz8 b8 => ?_)
 have z8:IsZip h8 z TI TO (rawInt h7.objs.size):=hz8
 refine CL z8 (by simp) λh9 hz9 b9=>Ay ⟨_,rfl,?_⟩
 have z9:IsZip h9 z TI TO (rawInt h7.objs.size):=hz9
 have up:∀ c o,c ≠ z->h7.get? c=some o->h9.get? c=some o:=λc o c1 e=>b9.extBut _ _ c1 (b8.extBut _ _ c1 (Am _ e))
 have zl:z < h7.objs.size:=A0 z7
 have p9:DB h9 h7.objs.size x y:=b9.extBut _ _ (Cr zl) (b8.extBut _ _ (Cr zl) (A6 _ rfl))
 show Q (.ref h7.objs.size) _
 rw [sz] at z9 p9 |-
 refine hQ h9 _ x y px py ⟨z9,up _ _ ap.tz (kp _ _ ap.tz ap.to ti1 ti2 hTI),⟨x,y,up _ _ ap.oz o7⟩,?_,?_⟩ p9 λc o c1 c2 c3 c4 e=>up c o c1 (kp c o c1 c2 c3 c4 e)
 .exact D1.frame _ _ _ s4 λb hb o e=>up b o (n1 b hb).1 (b7.extBut _ _ (n1 b hb).2.1 (b6.extBut _ _ (n1 b hb).2.2 (b5.extBut _ _ (n1 b hb).2.1 e)))
 .exact D2.frame _ _ _ s6 λb hb o e=>up b o (m2 b hb).1 (b7.extBut _ _ (m2 b hb).2.1 e)
theorem qwq {Q:Fin->Ah->Prop} (D1:Draws prog w A i1 f1 n P1 S1) (m1:i1 ∈ f1) (z1:z ∉ f1) (st:ql7 z TI TO i1 i2 S1 S2 .none n s.heap)
  (hE:∀ h' e,(∀ c o,c ≠ z->c ≠ TO->c ≠ i1->c ≠ i2->s.heap.get? c=some o->h'.get? c=some o)->(∃ o,h'.get? e=some o/\o.cls=.type "StopIteration")->E (.ref e) { s with heap:=h' }) :
  wpAny (model prog w) A (AO.«zip.__next__» ⟨[.ref z],[]⟩) Q E s:=by
 obtain ⟨hz,hTI,⟨a,b,hTO⟩,h1,h2⟩:=st
 have n1:∀ b ∈ f1,b ≠ z:=λb hb e=>z1 (e ▸ hb)
 show wpAny _ _ (field (.ref z) 2 >>= _) _ _ _
 refine Ad (BC hz rfl (x:=.bool false) rfl ?_)
 show wpAny _ _ (field (.ref z) 3 >>= _) _ _ _
 refine Ad (BC hz rfl (x:=.ref TI) rfl (Ad (Cd hTI rfl ?_)))
 show wpAny _ _ (AO.SmallTypes.ownedTupleIsFree (.ref z) >>= _) _ _ _
 refine Ad ?_
 unfold AO.SmallTypes.ownedTupleIsFree
 refine Ad (BC hz rfl (x:=.none) rfl (Ay ?_))
 simp only [if_true]
 refine Ad (wpAny_rule (Ad (BC hz rfl (x:=.ref TO) rfl (Ad (CL hz (by simp) λh3 hz3 b3=>Ad ?_)))))
 have z3:IsZip h3 z TI TO .ellipsis:=hz3
 simp only [List.zipIdx_cons,List.zipIdx_nil,DM,List.forIn_nil]
 refine Ad (Ad (wpAny_onRaise (Ad (D1.done _ _ _ (D1.frame _ _ _ h1 λb hb o e=>b3.extBut b o (n1 b hb) e) λh4 e b4 he => ?_))))
 obtain ⟨oe,hoe,hce⟩:=he
 have z4:IsZip h4 z TI TO .ellipsis:=b4 _ _ (λe=>n1 i1 m1 e.symm) z3
 have ez:e ≠ z:=λq=>by subst q; rw [z4] at hoe; cases hoe; simp at hce
 exact CL z4 (by simp) λh5 _ b5=>hE h5 e (λc o c1 _ c3 _ q=>b5.extBut _ _ c1 (b4 _ _ c3 (b3.extBut _ _ c1 q))) ⟨oe,b5.extBut _ _ ez hoe,hce⟩
theorem quk {Q:Option Value->Ah->Prop} (D1:Draws prog w A.in1 i1 f1 n P1 S1) (D2:Draws prog w A.in1 i2 f2 n2 P2 S2) (ap:Zap z TI TO i1 i2 f1 f2) (st:ql7 z TI TO i1 i2 S1 S2 .none k s.heap) (hk:k < n) (hk2:k < n2)
  (hQ:∀ h' tk x y,P1 k x->P2 k y->ql7 z TI TO i1 i2 S1 S2 (rawInt s.heap.objs.size) (k + 1) h'->DB h' s.heap.objs.size x y->(∀ c o,c ≠ z->c ≠ TO->c ≠ i1->c ≠ i2->s.heap.get? c=some o->h'.get? c=some o)->Q (some (.ref s.heap.objs.size)) { s with heap:=h',toks:=tk }) :
  wpAny (model prog w) A (pyNext (.ref z)) Q E s:=by
 have hT:s.TypeIs (.ref z) "zip" := ⟨_,st.1,rfl⟩
 unfold pyNext
 exact Ad (wpAny_attempt (CD (name:=Aa "__next__") hT DO (DA DO hT F.entry_zip_next (quj D1 D2 ap st hk hk2 λh' tk x y a1 a2 a3 a4 a5=>Ay (hQ h' tk x y a1 a2 a3 a4 a5)) (F.args_zip_next_1 _))))
theorem qoa {Q:Option Value->Ah->Prop} (D1:Draws prog w A.in1 i1 f1 n P1 S1) (m1:i1 ∈ f1) (z1:z ∉ f1) (st:ql7 z TI TO i1 i2 S1 S2 .none n s.heap)
  (hQ:∀ h',(∀ c o,c ≠ z->c ≠ TO->c ≠ i1->c ≠ i2->s.heap.get? c=some o->h'.get? c=some o)->Q none { s with heap:=h' }):wpAny (model prog w) A (pyNext (.ref z)) Q E s:=by
 have hT:s.TypeIs (.ref z) "zip" := ⟨_,st.1,rfl⟩
 unfold pyNext
 refine Ad (wpAny_attempt (CD (name:=Aa "__next__") hT DO (DA DO hT F.entry_zip_next (qwq D1 m1 z1 st λh' e kp he => ?_) (F.args_zip_next_1 _))))
 obtain ⟨o,ho,hc⟩:=he
 exact Ad (wpAny_isInstance (T := "StopIteration") (b:=true) ⟨o,ho,hc⟩ isSubtype_stop (Ay (hQ _ kp)))
end
theorem qq4 {X:Cx} {pins:List (Addr × Obj)} {σ:L2.St} {H:Hp} {s:Ah} {h':Heap} {t':Nat} {ch:List Addr} (I:Inv X pins σ H s) (k:∀ b o,b ∉ ch->s.heap.get? b=some o->h'.get? b=some o) (f:∀ b ∈ ch,qei X pins H b):Inv X pins σ H { s with heap:=h',toks:=t' }:=by
 refine I.step (g':=s.gens) (d':=s.drawn) (ch:=ch) (λb hb=>⟨(f b hb).2.2.2.1,(f b hb).2.1,(f b hb).2.2.2.2.1,(f b hb).2.2.2.2.2⟩) (λb o _ _ hc q _=>k b o hc q) (λb o _ _ hc q _=>⟨o.slots,k b o hc q⟩) (λ_ _ _ _ n=>n)
  (λb o hc q=>⟨o,k b o hc q⟩) (λ_ _ q=>q) (λ_ _ _ q=>q) (λb ps q=>⟨#[],by rw [q]; simp⟩) (λm hm => ?_) (λb u q => ?_) I.bare
 .obtain ⟨o,es,ep,ho,r⟩:=hm
  exact ⟨o,es,ep,k _ o (λz=>(f _ z).2.1 rfl) ho,r⟩
 .refine (I.hok b u q).stay (λc v hc z=>k c v (λm => ?_) z) (λ_ z=>z) λ_ _ z=>z
  rcases hc with rfl | hc
  .rw [(f _ m).1] at q; cases q
  .rw [(f c m).1] at hc; cases hc
theorem qyw {X:Cx} {pins:List (Addr × Obj)} {σ:L2.St} {H:Hp} {s:Ah} {a b:Addr} {xs:List V} (I:Inv X pins σ H s) (f:qei X pins H b) (h:SqT X.K H a xs):a ≠ b:=λe=>by
 subst e
 rcases h with h | ⟨o,its,n,hk,_⟩
 .have:=f.1
  rcases h with h | ⟨u,h⟩ <;> (rw [this] at h; cases h)
 .have hb:=I.ok.mod.kin a o hk
  rcases f.2.2.2.1 with z | z
  .exact I.ok.noex a o hb z
  .exact absurd (A8 (A0 hb) (A1 I.ok.bsz z)) (BZ _)
noncomputable def Itz (K:Af) (a b:Addr):It :=
 ⟨λi H=>∃ xs ys,SqL K H a xs/\SqT K H b ys/\xs.length=ys.length/\i < xs.length,
  λi H x H'=>∀ xs ys,SqL K H a xs->SqT K H b ys->∃ y1 y2 t,xs[i]?=some y1/\ys[i]?=some y2/\H t=none/\x=.ref t/\H'=upd H t (.tup [y1,y2]),
  λi H=>∃ xs,SqL K H a xs/\xs.length=i⟩
theorem fp_upd' {X:Cx} {pins:List (Addr × Obj)} {H:Hp} {b t:Addr} {o:HO} (f:qei X pins H b) (ne:b ≠ t):qei X pins (L2.upd H t o) b:=⟨by rw [zf ne]; exact f.1,f.2⟩
theorem qul {P:AM} {w:World} {K:Af} {es:List Expr} {kk pos} (l t z TI TO i1 i2:Addr) (nd:[z,TI,TO,i1,i2].Nodup) :
  Turn P w K (.Tuple es kk pos) (Itz K l t) [z,TI,TO,i1,i2] z (λi h=>IsZip h z TI TO .none/\DB h TI (.ref i1) (.ref i2)/\(∃ a b,DB h TO a b)/\h.IsListIter i1 l i/\h.IsTupleIter i2 t i) where
 mem:=by simp
 obj:=λi h st b hb=>by
  obtain ⟨h1,h2,⟨_,_,h3⟩,⟨o4,h4,_,d4⟩,⟨o5,h5,_,d5⟩⟩:=st
  simp only [Ao,At,or_false] at hb
  rcases hb with rfl | rfl | rfl | rfl | rfl
  .exact ⟨_,h1,λv z=>by cases z⟩
  .exact ⟨_,h2,λv z=>by cases z⟩
  .exact ⟨_,h3,λv z=>by cases z⟩
  .exact ⟨o4,h4,λv z=>by rw [d4] at z; cases z⟩
  .exact ⟨o5,h5,λv z=>by rw [d5] at z; cases z⟩
 keep:=λi h h' st k=>by
  obtain ⟨h1,h2,⟨a,b,h3⟩,⟨o4,h4,r4⟩,⟨o5,h5,r5⟩⟩:=st
  exact ⟨k z (by simp) _ h1,k TI (by simp) _ h2,⟨a,b,k TO (by simp) _ h3⟩,⟨o4,k i1 (by simp) _ h4,r4⟩,⟨o5,k i2 (by simp) _ h5,r5⟩⟩
 item:=by
  intro X hP hw hK hc i pins s σ H E I hf st hg
  subst hP hw hK
  obtain ⟨hz,hTI,hTO,h1,h2⟩:=st
  obtain ⟨xs,ys,hq,ht,hl,hi⟩:=hg
  obtain ⟨its,rv,p,_⟩:=I.list hq
  obtain ⟨jts,rw',p2,_⟩:=I.tuple ht
  have l1:=rv.length
  have l2:=rw'.length
  have hh:X.A.in1.handled=none:=I.ok.hd hc
  have nl:l ≠ i1:=λe=>by
   obtain ⟨o,g,c,_⟩:=h1
   obtain ⟨o',g',c',_⟩:=p.isList
   rw [e,g] at g'; cases g'; rw [c] at c'; simp at c'
  have nlz:l ∉ [z,TI,TO,i1,i2]:=λe=>by
   obtain ⟨o',g',c',_⟩:=p.isList
   simp only [Ao,At,or_false] at e
   rcases e with e | e | e | e | e
   .rw [e,hz] at g'; cases g'; simp at c'
   .rw [e,hTI] at g'; cases g'; simp at c'
   .obtain ⟨_,_,h3⟩:=hTO
    rw [e,h3] at g'; cases g'; simp at c'
   .exact nl e
   .obtain ⟨o,g,c,_⟩:=h2
    rw [e,g] at g'; cases g'; rw [c] at c'; simp at c'
  have ntz:t ∉ [z,TI,TO,i1,i2]:=λe=>qyw I (hf t e) ht rfl
  simp only [Bb,Ao,At,or_false,not_or] at nd nlz ntz
  obtain ⟨⟨a1,a2,a3,a4⟩,⟨a5,a6,a7⟩,⟨a8,a9⟩,a10,_⟩:=nd
  obtain ⟨c1,c2,c3,c4,c5⟩:=nlz
  obtain ⟨d1,d2,d3,d4,d5⟩:=ntz
  have ap:Zap z TI TO i1 i2 [i1,l] [i2,t]:=by
   constructor <;> simp only [Ao,At,or_false,not_or,ne_eq] <;> first | exact .inl rfl | exact .inl trivial | (refine ⟨?_,?_⟩ <;> (intro e; first | exact a1 e | exact a2 e | exact a3 e | exact a4 e | exact a5 e | exact a6 e | exact a7 e | exact a8 e | exact a9 e | exact a10 e | exact a10 e.symm | exact c1 e.symm | exact c2 e.symm | exact c3 e.symm | exact c5 e.symm | exact d1 e.symm | exact d2 e.symm | exact d3 e.symm | exact d4 e.symm)) | (intro e; first | exact a1 e.symm | exact a2 e.symm | exact a5 e)
  refine quk (Draws.list hh i1 l nl its.toArray) (qsf hh i2 t d5 jts.toArray) ap ⟨hz,hTI,hTO,⟨h1,p.isList⟩,⟨h2,p2⟩⟩ (k:=i) (by simp; lia) (by simp; lia) λh' tk u v px py st' hp kp=>⟨_,rfl,?_⟩
  refine wpAny_letOwnedTupleGo_zip st'.1 λh3 hz3 sb => ?_
  replace sb:Cl z h' h3:=sb
  obtain ⟨x,hx⟩:∃ x,xs[i]?=some x:=⟨_,Ag hi⟩
  obtain ⟨y,hy⟩:∃ y,ys[i]?=some y:=⟨_,Ag (by lia)⟩
  obtain ⟨u',hu,ru⟩:=rv.get hx
  obtain ⟨v',hv,rv'⟩:=rw'.get hy
  obtain rfl:u=u':=by
   have px:its.toArray[i]?=some u:=px
   simp only [List.getElem?_toArray] at px
   rw [hu] at px; exact (AG px).symm
  obtain rfl:v=v':=by
   have py:jts.toArray[i]?=some v:=py
   simp only [List.getElem?_toArray] at py
   rw [hv] at py; exact (AG py).symm
  have lt:∀ b ∈ [z,TI,TO,i1,i2],b < s.heap.objs.size:=λb hb=>by
   obtain ⟨_,_,h3⟩:=hTO
   obtain ⟨_,g1,_⟩:=h1
   obtain ⟨_,g2,_⟩:=h2
   simp only [Ao,At,or_false] at hb
   rcases hb with rfl | rfl | rfl | rfl | rfl
   .exact A0 hz
   .exact A0 hTI
   .exact A0 h3
   .exact A0 g1
   .exact A0 g2
  have zl:z < s.heap.objs.size:=A0 hz
  have hp3:DB h3 s.heap.objs.size u v:=(sb.2 _ (Cr zl)).trans hp
  have hfr:H s.heap.objs.size=none:=I.hok.fresh (Az _)
  have I1:=I.laid (a:=s.heap.objs.size) (o:=.tup [x,y]) (h':=s.heap.push { cls:=.type "tuple",data:=.seq #[u,v] }) (t':=s.toks) (λb o q=>Am _ q) (Az _) ⟨show 2 <= Ax by rw [Bi]; decide,[u,v],.cons ru (.cons rv' .nil),⟨_,A6 _ rfl,rfl,_,rfl⟩⟩
  have I2:=qq4 (ch:=[z,TI,TO,i1,i2]) (h':=h3) (t':=tk) I1 (λb o n q=>by
   simp only [Ao,At,or_false,not_or] at n
   by_cases e:b=s.heap.objs.size
   .subst e
    rw [A6 _ rfl] at q
    cases q
    exact hp3
   .rw [Heap.get?_push_ne _ _ _ e] at q
    exact (sb.2 b n.1).trans (kp b o n.1 n.2.2.1 n.2.2.2.1 n.2.2.2.2 q)) (λb hb=>fp_upd' (hf b hb) (AJ (lt b hb)))
  obtain ⟨_,s2,⟨a',b',s3⟩,⟨s4,_⟩,⟨s5,_⟩⟩:=st'
  refine ⟨.ref s.heap.objs.size,_,I2,rfl,λxs' ys' hx' hy' => ?_,⟨hz3,(sb.2 _ (AX a1)).trans s2,⟨a',b',(sb.2 _ (AX a2)).trans s3⟩,s4.at λo q=>(sb.2 _ (AX a3)).trans q,?_⟩,λb hb => ?_⟩
  .rw [I.list_inj hx' hq,I.tuple_inj hy' ht]
   exact ⟨x,y,_,hx,hy,hfr,rfl,rfl⟩
  .obtain ⟨o5,g5,r5⟩:=s5
   exact ⟨o5,(sb.2 _ (AX a4)).trans g5,r5⟩
  .rw [zf (AJ (lt b hb))]; exact (hf b hb).1
 done:=by
  intro X hP hw hK hc i pins s σ H E I hf st hg
  subst hP hw hK
  obtain ⟨hz,hTI,hTO,h1,h2⟩:=st
  obtain ⟨xs,hq,hi⟩:=hg
  obtain ⟨its,rv,p,_⟩:=I.list hq
  have l1:=rv.length
  have hh:X.A.in1.handled=none:=I.ok.hd hc
  have nl:l ≠ i1:=λe=>by
   obtain ⟨o,g,c,_⟩:=h1
   obtain ⟨o',g',c',_⟩:=p.isList
   rw [e,g] at g'; cases g'; rw [c] at c'; simp at c'
  have ei:i=its.toArray.size:=by simp; lia
  subst ei
  have nz:z ∉ [i1,l]:=λe=>by
   rcases Ao.mp e with e | e
   .obtain ⟨o,g,c,_⟩:=h1
    rw [<- e,hz] at g; cases g; simp at c
   .obtain ⟨o',g',c',_⟩:=p.isList
    rw [<- Aj.mp e,hz] at g'; cases g'; simp at c'
  refine qoa (S2:=λk h=>h.IsTupleIter i2 t k) (Draws.list hh i1 l nl its.toArray) (by simp) nz ⟨hz,hTI,hTO,⟨h1,p.isList⟩,h2⟩ λh' kp=>⟨rfl,qq4 (ch:=[z,TI,TO,i1,i2]) (t':=s.toks) I (λb o n q => ?_) hf⟩
  simp only [Ao,At,or_false,not_or] at n
  exact kp b o n.1 n.2.2.1 n.2.2.2.1 n.2.2.2.2 q
 self:=λA i s Q E st h=>wpAny_pyIter_zip st.1 h
section
noncomputable abbrev zl1 (h:Heap) (l:Addr):Heap:=h.push { cls:=.type "list_iterator",data:=.fields #[.ref l,.int 0 0] }
noncomputable abbrev zl2 (h:Heap) (l t:Addr):Heap:=(zl1 h l).push { cls:=.type "tuple_iterator",data:=.fields #[.ref t,.int 0 0] }
noncomputable abbrev zl3 (h:Heap) (l t:Addr):Heap:=(zl2 h l t).push { cls:=.type "tuple",data:=.seq #[.ref h.objs.size,.ref (zl1 h l).objs.size] }
noncomputable abbrev zl4 (h:Heap) (l t:Addr):Heap:=(zl3 h l t).push { cls:=.type "tuple",data:=.seq #[.none,.none] }
noncomputable abbrev zl5 (h:Heap) (l t:Addr):Heap:=(zl4 h l t).push { cls:=.type "zip",data:=.fields #[.none,.bool false,.bool false,.ref (zl2 h l t).objs.size,.ref (zl3 h l t).objs.size] }
theorem qum (l t:Addr) (xs ys:Array Value):Meets (AO.«zip.__new__» ⟨[.type "zip",.ref l,.ref t],[]⟩) (λ_ R s=>s.heap.IsList l xs/\s.heap.IsTuple t ys/\R (.ok (.ret (.ref (zl4 s.heap l t).objs.size))) { s with heap:=zl5 s.heap l t }) :=
 .of_wp λprog w A R s h=>by
  obtain ⟨hp,g,d,tk,os⟩:=s
  obtain ⟨h1,h2,h⟩:=h
  have hsub:=sub_zip
  have hL1:Heap.IsList (Ah.heap ⟨hp,g,d,tk,os⟩) l xs:=h1
  have hL2:Heap.IsTuple (Ah.heap ⟨zl1 hp l,g,d,tk,os⟩) t ys:=Heap.IsTuple.push h2 _
  wp_walk using Dq hL1,wpAny_pyIter_tuple hL2
  exact ⟨_,rfl,h⟩
theorem qsg {prog:AM} {w:World} {A:AU} {E:Value->Ah->Prop} {s:Ah} {l t:Addr} {xs ys:Array Value} {Q:Value->Ah->Prop} (h1:s.heap.IsList l xs) (h2:s.heap.IsTuple t ys)
  (h:∀ h',IsZip h' (s.heap.objs.size + 4) (s.heap.objs.size + 2) (s.heap.objs.size + 3) .none->DB h' (s.heap.objs.size + 2) (.ref s.heap.objs.size) (.ref (s.heap.objs.size + 1))->DB h' (s.heap.objs.size + 3) .none .none ->
   h'.IsListIter s.heap.objs.size l 0->h'.IsTupleIter (s.heap.objs.size + 1) t 0->(∀ c o,s.heap.get? c=some o->h'.get? c=some o)->Q (.ref (s.heap.objs.size + 4)) { s with heap:=h' }):wpAny (model prog w) A (call (.type "zip") [.ref l,.ref t]) Q E s:=by
 refine callType_new F.called_zip (by decide) (F.typeCall_zip_2 _ _) (F.newCall_zip_2 _ _) (λobj=>F.args_object_init_3 obj _ _) F.entry_zip_new (qum l t xs ys) ⟨h1,h2,?_⟩
 have y1:(zl1 s.heap l).objs.size=s.heap.objs.size + 1:=Cn ..
 have y2:(zl2 s.heap l t).objs.size=s.heap.objs.size + 2:=by rw [Cn,y1]
 have y3:(zl3 s.heap l t).objs.size=s.heap.objs.size + 3:=by rw [Cn,y2]
 have y4:(zl4 s.heap l t).objs.size=s.heap.objs.size + 4:=by rw [Cn,y3]
 have up:∀ {h:Heap} {c:Addr} {o o':Obj},h.get? c=some o->(h.push o').get? c=some o:=λe=>Am _ e
 have g5:(zl5 s.heap l t).get? (zl4 s.heap l t).objs.size=some _:=A6 _ rfl
 have g4:(zl5 s.heap l t).get? (zl3 s.heap l t).objs.size=some _:=up (A6 _ rfl)
 have g3:(zl5 s.heap l t).get? (zl2 s.heap l t).objs.size=some _:=up (up (A6 _ rfl))
 have g2:(zl5 s.heap l t).get? (zl1 s.heap l).objs.size=some _:=up (up (up (A6 _ rfl)))
 have g1:(zl5 s.heap l t).get? s.heap.objs.size=some _:=up (up (up (up (A6 _ rfl))))
 rw [y2,y3,y4] at g5
 rw [y1,y2] at g3
 rw [y3] at g4
 rw [y1] at g2
 show _/\_
 rw [y4]
 exact ⟨⟨_,g5,rfl⟩,h _ g5 g3 g4 ⟨_,g1,rfl,rfl⟩ ⟨_,g2,rfl,rfl⟩ λc o e=>up (up (up (up (up e))))⟩
end
noncomputable def iZip (K:Af) (ta:TA):TI:=λσ H R=>ta σ H λvs H1=>∃ a b xs ys,vs=[.ref a,.ref b]/\H1 a=some (.lst xs)/\SqT K H1 b ys/\R (Itz K a b) H1
theorem boot_zip':bootBuiltins "zip" = some (.type "zip"):=by decide +kernel
theorem qyx {X:Cx} {es:List Expr} {kk:_} {pos':Pos} {a b:Expr} {ta:TA} {p pos:Pos} (hg:Gl X "zip") (hm:X.mg "zip" = none) (ha:PA X [a,b] ta) (hs:starEach [a,b] X.env=(false,eval a X.env) :: starEach [b] X.env:=by rfl) (hb:(backTo pos (starEach [b] X.env)).any (·.1)=false:=by rfl):PI X (.Tuple es kk pos') (.Call (.Name "zip" p) [a,b] [] pos) (iZip X.K ta):=by
 intro pins s σ H R I h
 refine Call_ (qfc I hg hm boot_zip' (Bz (thn (ha pos pins s σ H _ I h) λus s1 ⟨vs,H1,I1,r1,q1⟩ => ?_) hs hb))
 obtain ⟨l,t,xs,ys,e,hl,ht,q⟩:=q1
 subst e
 obtain ⟨u,v,rfl,hu,hv⟩:=Vals.two r1
 cases qm0 hu
 cases qm0 hv
 obtain ⟨z,its,n,rv,hz,e⟩:=I1.lstM hl
 obtain ⟨jts,_,p2,_⟩:=I1.tuple ht
 refine qsg ⟨_,e,rfl,n,rfl⟩ p2 λh' a1 a2 a3 a4 a5 keep=>wpAny_pyIter_zip a1 ?_
 have I2:Inv X pins σ H1 { s1 with heap:=h' }:=I1.kept (t':=s1.toks) keep
 refine ⟨s1.heap.objs.size + 4,[s1.heap.objs.size + 4,s1.heap.objs.size + 2,s1.heap.objs.size + 3,s1.heap.objs.size,s1.heap.objs.size + 1],_,_,H1,rfl,I2,qul l t _ _ _ _ _ (by simp),⟨a1,a2,⟨_,_,a3⟩,a4,a5⟩,λb hb => ?_,q⟩
 have lb:s1.heap.objs.size <= b:=by
  simp only [Ao,At,or_false] at hb
  rcases hb with rfl | rfl | rfl | rfl | rfl <;> first | exact Nat.le_add_right _ _ | exact Az _
 exact I1.fpOk lb (I1.hok.fresh lb)
end Add
namespace Add
open PySem PySem.Spec PyProof.Rows L2
section
variable {X:Cx}
theorem qwr {kvs:List (Key × V)} {vs:List (Key × Value)} (h:KV kvs vs):Vals (kvs.map (·.2)) (vs.map (·.2)):=by
 induction h with
 | nil=>exact .nil
 | cons r _ ih=>exact .cons r.2 ih
noncomputable def tLV (te:TE):TE:=λσ H Q=>te σ H λx H1=>∃ (d:Addr) (kvs:List (Key × V)),x=.ref d/\H1 d=some (.dK kvs)/\∀ q,H1 q=none->Q (.ref q) (upd H1 q (.lst (kvs.map (·.2))))
theorem qob {e:Expr} {te:TE} {p apos cpos pos:Pos} (hca:X.calm=true) (hgl:Gl X "list") (hml:X.mg "list" = none) (hbl:bootBuiltins "list" = some (.type "list")) (he:PE X e te)
  (hbase:attributeBase e "values" X.env (eval e X.env)=eval e X.env:=by rfl) (hline:(apos.endLine == cpos.line)=true:=by rfl):PE X (.Call (.Name "list" p) [.Call (.Attribute e "values" apos) [] [] cpos] [] pos) (tLV te):=by
 intro pins s σ H Q I h
 refine BG (qfc I hgl hml hbl ?_)
 refine Bz ?_ rfl rfl
 show wpAny _ _ (spliced ((false,eval (.Call (.Attribute e "values" apos) [] [] cpos) X.env) :: [])) _ _ s
 refine Dn ?_
 refine wpAny_Call_method0_late hbase hline (thn (he pins s σ H _ I h) λv s1 ⟨x,H1,I1,r1,q1⟩ => ?_)
 obtain ⟨d,kvs,rfl,hd,q⟩:=q1
 cases r1
 obtain ⟨z,lo,vs,kv,hD⟩:=qqr I1.hok hd
 refine ⟨"dict", "dict.values",PySem.F.plainAttrs_dict,PySem.F.slot_dict_values,PySem.F.type_dict_values,hD.typeIs,?_,Calls.callWith_builtin rfl (PySem.evalArgs_none ?_)⟩
 .exact hD.mapOf.noDict
 refine call_meetsIn PySem.F.slot_dict_values hD.typeIs PySem.F.entry_dict_values (PySem.F.args_dict_values_1 _) (meets_dict_values (qbv X.prog X.w) d lo) ⟨⟨vs,hD⟩,?_⟩
 refine Du ?_
 obtain ⟨ep,hat⟩:=hD.dictAt
 have I2:Inv X pins σ H1 { s1 with heap:=s1.heap.push { cls:=.type "dict_values",data:=.fields #[.ref d] } }:=I1.kept (t':=s1.toks) λb o q=>Am _ q
 refine PySem.W.kdl_call (PySem.W.kdl_values (knd:=qbv X.prog X.w) (kvs:=vs) (ep:=ep)) (I.ok.hd hca) ⟨⟨_,A6 _ rfl,rfl,rfl⟩,hat.push _⟩ (by rw [<- kv.length]; exact z) λh' tk acc c kp e ia => ?_
 have ea:acc.toList=vs.map (·.2):=BK λj=>by
  rw [Ak]
  by_cases hj:j < vs.length
  .have hja:j < acc.size:=by rw [ia.1]; exact hj
   have g:acc[j]?=some acc[j]:=Array.getElem?_eq_getElem hja
   obtain ⟨k,hk⟩:=ia.2 j _ g
   rw [D4,g,hk]; rfl
  .rw [Bh (by rw [AN,ia.1]; lia),Bh (by lia)]; rfl
 have rv:Vals (kvs.map (·.2)) acc.toList:=by rw [ea]; exact qwr kv
 exact ⟨.ref (s1.heap.push { cls:=.type "dict_values",data:=.fields #[.ref d] }).objs.size,_,I2.laid (t':=tk) kp (Az _) (show ObjOk X.prog X.w _ h' _ (.lst (kvs.map (·.2))) from ⟨by rw [Ab]; exact z,acc.toList,c,rv,by simpa using e⟩),rfl,q _ (I2.hok.fresh (Az _))⟩
end
end Add
namespace Add
open PySem PySem.Spec PyProof.Rows L2
theorem qj6 {M:Model} {A:AU} {E:Value->Ah->Prop} {s:Ah} {β:Type} {f:Value->β->Sem (ForInStep β)} {b:β}:∀ {cs:List Value},(∀ c ∈ cs,∀ Q:ForInStep β->Ah->Prop,Q (.yield b) s->wpAny M A (f c b) Q E s)->∀ {Q:β->Ah->Prop},Q b s->wpAny M A (forIn cs b f) Q E s
 | [],_,_,h=>by rw [List.forIn_nil]; exact Ay h
 | c :: cs,hf,Q,h=>by
  rw [DM]
  exact Ad (hf c Aq _ (qj6 (λd hd=>hf d (Au _ hd)) h))
theorem qyy {M:Model} {K:Af} {cls:Value} {tp e:Addr} {h:Heap} {cs:List Value} (X:K.In h) (LT:BA M h (typeOf (.ref e)) cls) (hp:h.get? tp=some { cls:=.type "tuple",data:=.seq cs.toArray }) (hx:∀ c ∈ cs,Ac K cls c=some false) :
  BA M h (excMatches (.ref e) (.ref tp)) false:=by
 intro A Q E s k₀ q
 obtain ⟨hh,g,d,tk,os⟩:=s
 have k:∀ b o,h.get? b=some o->hh.get? b=some o:=k₀
 have LT0:BA M h (isInstance (.ref tp) (.type "tuple")) true:=((BA.ld hp).andThen .now).andThen (BA.of_pure isSubtype_tuple_tuple)
 have LT:=LT.keeps k
 have LT0:=LT0.keeps k
 have hp':=k _ _ hp
 unfold excMatches
 refine Ad (LT0.at ?_)
 dsimp only
 rw [if_pos rfl]
 first
  | refine Ad (Cd hp' rfl ?_)
  | refine Ad (Ad (Cd hp' rfl (Ay ?_)))
 dsimp only [Option.getD_some,Option.getD]
 refine Ad (Ay (Ad (qj6 (λc hc Q hq => ?_) ?_)))
 .obtain ⟨e1,_⟩:=PySem.W.exm_cls (M:=M) X (hx c (by simpa using hc))
  refine Ad ((e1.keeps k).at ?_)
  simp only [Bool.not_true,Ct,if_false]
  exact Ay hq
 .refine Ad (LT.at (Ad (qj6 (λc hc Q hq => ?_) ?_)))
  .obtain ⟨_,S1⟩:=PySem.W.exm_cls (M:=M) X (hx c (by simpa using hc))
   refine Ad ((S1.keeps k).at ?_)
   simp only [Ct,if_false]
   exact Ay hq
  .exact Ay q
noncomputable def PCs (X:Cx) (es:List Expr) (us:List Value):Prop:=∀ (e:Value) (E:Value->Ah->Prop) (pos:Pos) (pins:List (Addr × Obj)) (s:Ah) (σ:L2.St) (H:Hp) (Q:List Value->Ah->Prop),Inv X pins σ H s->Q us s ->
 wpAny (model X.prog X.w) (X.A.mark (some e)) (spliced (backTo pos (starEach es X.env))) Q E s
section
variable {X:Cx} {t:Expr} {es:List Expr} {c:Value} {us:List Value} {qa9:List ExceptHandler} {tr:TH} {body:List Stmt} {pos pos':Pos}
theorem qws:PCs X [] []:=λ_ _ _ _ _ _ _ _ _ h=>Du h
theorem qd0 (hc:PC X t c) (hr:PCs X es us) (hs:starEach (t :: es) X.env=(false,eval t X.env) :: starEach es X.env:=by rfl):PCs X (t :: es) (c :: us):=by
 intro e E pos pins s σ H Q I h
 rw [hs]
 show wpAny _ _ (spliced ((false,eval t X.env) :: backTo pos (starEach es X.env))) _ _ s
 exact Dn (hc e E pins s σ H _ I (hr e E pos pins s σ H _ I h))
noncomputable def hNo (K:Af) (cs:List Value) (qa9:TH):TH:=λD σ x C od H=>(cs.length <= Ax/\∀ c ∈ cs,Ac K (.ref C) c=some false)/\qa9 D σ x C od H
theorem ph_no {x1} (hc:PCs X es us) (hr:PH X qa9 tr):PH X (.ExceptHandler (some (.Tuple es x1 pos')) none body pos :: qa9) (hNo X.K us tr):=by
 intro pins s σ H D x C od I fl has h
 obtain ⟨⟨hz,hx⟩,h⟩:=h
 refine wpAny_handleBy_cons (codeAny_handlers_test (wpAny_Tuple_spliced (hc (.ref x) _ pos' pins s σ H _ I ⟨hz,?_⟩))) (by intro q; cases q)
 have I2:Inv X pins σ H { s with heap:=s.heap.push { cls:=.type "tuple",data:=.seq us.toArray } }:=I.kept (t':=s.toks) λb o q=>Am _ q
 have fl2:qph X pins H (s.heap.push { cls:=.type "tuple",data:=.seq us.toArray }) x C od:=by
  obtain ⟨e,vs,sl,T,oT,ts,h1,h2,h3,h4,h5,h6⟩:=fl
  exact ⟨e,vs,sl,T,oT,ts,Am _ h1,h2,Am _ h3,h4,h5,h6⟩
 refine (qyy I2.kIn (qpj fl2) (A6 _ rfl) hx).here ?_
 exact hr pins _ σ H D x C od I2 fl2 has h
end
end Add
namespace Add
open PySem PySem.Spec PyProof.Rows L2
theorem qun {K:Af} {js:List (Option Nat)} {g:TG} {te:TE} {σ:L2.St} {H:Hp} {Q:VK} {a b:Addr} {xs ys:List V} (zs:List V) (Sv:L2.St->Prop) (hx:SqL K H a xs) (hy:SqT K H b ys) (le:xs.length=ys.length) (lz:zs.length=xs.length) (hz:xs.length <= Ax) (h0:Sv (qff js σ))
  (step:∀ (i:Nat) (x y z:V) (t:Addr) (σ':L2.St) (H':Hp) (R:L2.St->VK),xs[i]?=some x->ys[i]?=some y->zs[i]?=some z->Same H H'->H' t=some (.tup [x,y])->Sv σ'->(∀ σ3 H5,Sv σ3->Same H' H5->R σ3 z H5)->g (.ref t) σ' H' λσ3 H3=>te σ3 H3 (R σ3))
  (gk:∀ (x:V) (σ':L2.St) (H':Hp) (R R':L2.St->Hp->Prop),(∀ σ3 H3,R σ3 H3->R' σ3 H3)->g x σ' H' R->g x σ' H' R')
  (fin:∀ p H',H p=none->Same H H'->H' p=some (.lst zs)->Q (.ref p) H'):qig js g qqt te σ Q (Itz K a b) H:=by
 intro p hp
 refine ⟨λi m σ' H'=>m=xs.length - i/\i <= xs.length/\Sv σ'/\Same H H'/\H' p=some (.lst (zs.take i)),⟨xs.length,by simp,B0 _,h0,qaj (Same.refl H) hp,by rw [zb]; rfl⟩,?_⟩
 rintro i m σ' H' ⟨rfl,hi,hv,sm,hh⟩
 have qx:=sm.seq hx
 have qy:=qr7 sm hy
 by_cases hlt:i < xs.length
 .obtain ⟨z,ez⟩:∃ z,zs[i]?=some z:=⟨_,Ag (by lia)⟩
  refine .inr ⟨⟨xs,ys,qx,qy,le,hlt⟩,λσ2 H2=>Sv σ2/\Same H H2/\H2 p=some (.lst (zs.take (i + 1))),λσ2 H2 ⟨a,b,c⟩=>⟨xs.length - (i + 1),by lia,rfl,hlt,a,b,c⟩,λx H2 hy => ?_⟩
  obtain ⟨y1,y2,t,e1,e2,ht,rfl,rfl⟩:=hy xs ys qx qy
  have st:Same H' (upd H' t (.tup [y1,y2])):=qaj (Same.refl H') ht
  refine gk _ _ _ _ _ (λσ3 H3 z => ?_) (step i y1 y2 z t σ' _ (λσ3 v H5=>∃ ys,H5 p=some (.lst ys)/\ys.length < Ax/\(Sv σ3/\Same H (upd H5 p (.lst (ys ++ [v])))/\upd H5 p (.lst (ys ++ [v])) p=some (.lst (zs.take (i + 1))))) e1 e2 ez (sm.trans st) zb hv λσ3 H5 hs3 s5 => ?_)
  .exact z
  .refine ⟨_,s5 _ _ (st _ _ hh),?_,hs3,qaj (sm.trans (st.trans s5)) hp,?_⟩
   .rw [A2]; lia
   .rw [zb,Dw,ez]; rfl
 .have e:i=xs.length:=by lia
  subst e
  refine .inl ⟨⟨xs,qx,rfl⟩,?_⟩
  rw [BN (by lia)] at hh
  exact fin p _ hp sm hh
end Add
namespace Add
open PySem PySem.Spec PyProof.Rows L2
section
variable {X:Cx}
noncomputable def tBS (t:TE):TT:=λσ H Q=>t σ H λx H1=>∃ y:Str,x=.str y/\y.length <= Ax/\Q (decide (y.length ≠ 0)) H1
theorem qwt {e:Expr} {t:TE} (h:PE X e t) (he:∀ whole,isTrue e X.env whole=(do let v <- whole; standAt e.pos; holding [v] (truthy v)):=by intro _; rfl):PT X e (tBS t):=by
 intro pins s σ H Q I hw
 refine isTrue_plain (thn (h pins s σ H _ I hw) λv s1 ⟨x,H1,I1,r1,q1⟩ => ?_) (he _)
 obtain ⟨y,rfl,hy,q⟩:=q1
 obtain ⟨t',rfl⟩:=r1
 have hs:Ax=16777216:=Bi
 refine PySem.P.truthy_str (by lia) ?_
 have e:((y.length:Int) != 0)=decide (y.length ≠ 0):=by
  rw [Cp,bne_iff_ne,decide_eq_true_eq]; lia
 rw [e]
 exact ⟨H1,I1.tok _,q⟩
theorem qsh {X:Cx}:qej X (.builtin "len") (λxs H Q=>∃ (d:Addr) (kvs:List (Key × V)),xs=[.ref d]/\H d=some (.dK kvs)/\Q (.int kvs.length) H):=by
 intro pins s σ H xs us Q I r h
 obtain ⟨d,kvs,rfl,hd,q⟩:=h
 obtain ⟨u,rfl,rx⟩:=qfp r
 cases rx
 obtain ⟨z,lo,vs,kv,hD⟩:=qqr I.hok hd
 have hs:Ax=16777216:=Bi
 refine PySem.call_len_dict lo hD (by rw [<- kv.length]; lia) ?_
 exact ⟨.int kvs.length,H,I.tok _,⟨_,by rw [kv.length]⟩,q⟩
end
end Add
namespace Add
open PySem PySem.Spec PyProof.Rows L2
section
variable {X:Cx}
end
end Add
namespace Add
open PySem PySem.Spec PyProof.Rows L2
section
variable {prog:AM} {w:World} {A:AU} {E:Value->Ah->Prop} {s:Ah}
end
noncomputable abbrev Hd (x:Addr) (H:Hp):Prop:=∃ C od,H x=some (exO x C od false)
section
variable {P:AM} {w:World} {K:Af} {mg:Str->Option Value} {base:Heap}
end
end Add
namespace Add
open PySem PySem.Spec PyProof.Rows L2
section
variable {X:Cx}
end
end Add
namespace Add
open PySem PySem.Spec PyProof.Rows L2
section
variable {X:Cx}
theorem qwu (l b:Addr) (as bs:Array Value) (n m:Nat) (dd:Option Addr) (ss:Array (Option Value)) (h0:¬(!as.isEmpty && AO.List.listTooLong (as.size + bs.size))=true) (h1:as.size <= Ax) (h2:as.size + bs.size <= Ax + 1) :
  Meets (AO.«list.extend» ⟨[.ref l,.ref b],[]⟩) (λ_ R s=>s.heap.get? l=some ⟨.type "list",none,.seq as n,#[]⟩/\s.heap.get? b=some ⟨.type "tuple",dd,.seq bs m,ss⟩/\R (.ok (.ret .none)) { s with heap:=s.heap.update l (Do λx=>x ++ bs),toks:=s.toks }):=by
 refine .of_wp λprog w A R s h => ?_
 obtain ⟨hp,g,d,tk,os⟩:=s
 obtain ⟨hl,hb,h⟩:=h
 have k1:=AutoSeq1.idx_int
 have k2:=AutoSeq1.sub_tuple_tuple
 have k3:=AutoSeq1.sub_list_list
 have k4:=AutoSeq1.sub_tuple_list
 have k5:=AutoSeq1.sub_list_tuple
 have hz':(as ++ bs).size <= Ax + 1:=A1 (BS Array.size_append) h2
 wp_walk using (wpAny_updateSeq hl rfl (hz:=h1) (_hz':=hz')),wpAny_loadPart' hl,wpAny_loadPart' hb
 exact ⟨_,rfl,h⟩
noncomputable def quo (K:Af):V->List V->Hp->VK->Prop:=λx vs H Q=>∃ l b xs zs,x=.ref l/\vs=[.ref b]/\H l=some (.lst xs)/\SqT K H b zs/\xs.length + zs.length <= Ax/\Q .non (upd H l (.lst (xs ++ zs)))
theorem qpm:MtM X "list.extend" (quo X.K):=by
 intro pins s σ H x vs v us Q I rx rv h
 obtain ⟨l,b,xs,zs,rfl,rfl,hH,hB,hz,q⟩:=h
 cases rx
 obtain ⟨u,rfl,ru⟩:=rv.one
 cases ru
 obtain ⟨z,its,n,r,hl,e⟩:=I.lstM hH
 obtain ⟨its2,r2,t2,hz2⟩:=I.tuple hB
 have hl2:=r2.length
 obtain ⟨⟨cl,dd,da,ss⟩,e2,rfl,n2,rfl⟩:=t2
 have hsz:its.toArray.size + its2.toArray.size <= Ax:=by rw [Av,Av]; lia
 have hlong:¬ (!its.toArray.isEmpty && AO.List.listTooLong (its.toArray.size + its2.toArray.size))=true:=by
  rw [qnq hsz,CV]
  exact AA
 refine D7 F.slot_list_extend ⟨_,e,rfl⟩ F.entry_list_extend (F.args_list_extend_2 _ _)
  (qwu l b its.toArray its2.toArray n n2 dd ss hlong (by rw [Av]; lia) (by lia)) ⟨e,e2,?_⟩
 refine ⟨.non,_,I.lset (its':=its ++ its2) hH e (by simp) (r.append r2) ?_,rfl,q⟩
 rw [Ai]
 lia
noncomputable def strN:Option Str->V
 | none=>.non
 | some y=>.str y
theorem qsi:qej X (.type "str") (λxs H Q=>∃ o:Option Str,xs=[strN o]/\Q (.str (o.getD "None")) H):=by
 intro pins s σ H xs us Q I r h
 obtain ⟨o,rfl,q⟩:=h
 cases o with
 | none =>
  obtain ⟨u,rfl,e⟩:=qfp r
  cases e
  exact PySem.P.str_of_none ⟨.str _,H,I.tok _,⟨_,rfl⟩,q⟩
 | some y =>
  obtain ⟨u,rfl,t,rfl⟩:=qfp r
  exact PySem.P.str_of_str ⟨.str _,H,I,⟨_,rfl⟩,q⟩
end
end Add
namespace Add
open PySem PySem.Spec PyProof.Rows L2
theorem qup {js:List (Option Nat)} {g:TG} {te:TE} {J:It} {σ:L2.St} {H:Hp} {Q:VK} {xs:List V} (G:Addr->V->Addr->Hp->Prop) (Gk:∀ p x q H H',(∀ b o,b ≠ p->H b=some o->H' b=some o)->G p x q H->G p x q H') (Gn:∀ p x q H,G p x q H->H q ≠ none)
  (Sv:L2.St->Prop) (F:qlx J H xs) (hz:xs.length <= Ax) (h0:Sv (qff js σ))
  (step:∀ (p:Addr) (x:V) (σ':L2.St) (H':Hp) (RR:L2.St->VK),x ∈ xs->H p=none->Same H H'->(∃ zs,H' p=some (.lst zs))->Sv σ'->(∀ σ3 q H5,Sv σ3->Same H' H5->H' q=none->G p x q H5->RR σ3 (.ref q) H5)->g x σ' H' λσ3 H3=>te σ3 H3 (RR σ3))
  (gk:∀ (x:V) (σ':L2.St) (H':Hp) (R R':L2.St->Hp->Prop),(∀ σ3 H3,R σ3 H3->R' σ3 H3)->g x σ' H' R->g x σ' H' R')
  (fin:∀ (p:Addr) (H':Hp) (qs:List Addr),H p=none->Same H H'->H' p=some (.lst (qs.map V.ref))->qs.length=xs.length->qs.Nodup->(∀ (j:Nat) (x:V) (q:Addr),xs[j]?=some x->qs[j]?=some q->G p x q H'/\q ≠ p/\H q=none)->Q (.ref p) H') :
  qig js g qqt te σ Q J H:=by
 intro p hp
 refine ⟨λi m σ' H'=>m=xs.length - i/\i <= xs.length/\Sv σ'/\Same H H'/\∃ ys:List Addr,H' p=some (.lst (ys.map V.ref))/\ys.length=i/\ys.Nodup/\∀ (j:Nat) (x:V) (q:Addr),xs[j]?=some x->ys[j]?=some q->G p x q H'/\q ≠ p/\H q=none,⟨xs.length,by simp,B0 _,h0,qaj (Same.refl H) hp,[],zb,rfl,.nil,λj x y _ hy=>by cases hy⟩,?_⟩
 rintro i m σ' H' ⟨rfl,hi,hv,sm,us,hh,hl,nd,tt⟩
 obtain ⟨F1,F2⟩:=F _ sm
 by_cases hlt:i < xs.length
 .have ex:xs[i]?=some xs[i]:=by simp [hlt]
  obtain ⟨go,yl⟩:=F1 i _ ex
  refine .inr ⟨go,λσ2 H2=>Sv σ2/\Same H H2/\∃ ys:List Addr,H2 p=some (.lst (ys.map V.ref))/\ys.length=i + 1/\ys.Nodup/\∀ (j:Nat) (x:V) (q:Addr),xs[j]?=some x->ys[j]?=some q->G p x q H2/\q ≠ p/\H q=none,λσ2 H2 ⟨a,b,c⟩=>⟨xs.length - (i + 1),by lia,rfl,hlt,a,b,c⟩,λx H2 hy => ?_⟩
  obtain ⟨rfl,rfl⟩:=yl x H2 hy
  refine gk _ _ _ _ _ (λσ3 H3 z => ?_) (step p xs[i] σ' _ (λσ3 v H5=>∃ zs,H5 p=some (.lst zs)/\zs.length < Ax/\(Sv σ3/\Same H (upd H5 p (.lst (zs ++ [v])))/\∃ ys:List Addr,upd H5 p (.lst (zs ++ [v])) p=some (.lst (ys.map V.ref))/\ys.length=i + 1/\ys.Nodup/\∀ (j:Nat) (x:V) (q:Addr),xs[j]?=some x->ys[j]?=some q->G p x q (upd H5 p (.lst (zs ++ [v])))/\q ≠ p/\H q=none)) (Br hlt) hp sm ⟨_,hh⟩ hv λσ3 q H5 hs3 s5 nq hq => ?_)
  .exact z
  .have h5:=s5 _ _ hh
   have nqp:q ≠ p:=λz=>by rw [z,hh] at nq; cases nq
   have keep:∀ b o,b ≠ p->H5 b=some o->upd H5 p (.lst (us.map V.ref ++ [V.ref q])) b=some o:=λb o n e=>by rw [zf n]; exact e
   refine ⟨_,h5,?_,hs3,qaj (sm.trans s5) hp,us ++ [q],?_,?_,?_,λj x y hx hyy => ?_⟩
   .rw [Ab]; lia
   .rw [zb,Ar]; rfl
   .rw [Ai,hl]; rfl
   .refine AY.mpr ⟨nd,List.pairwise_singleton _ _,λa ha b hb e => ?_⟩
    obtain ⟨j,hj⟩:=AV ha
    have lj:=(Ae.mp hj).1
    obtain ⟨g1,_⟩:=tt j _ a (Ag (by lia)) hj
    have:=Gn _ _ _ _ g1
    rw [e,Aj.mp hb] at this
    exact this nq
   .by_cases hj:j < us.length
    .rw [AQ hj] at hyy
     obtain ⟨g1,g2,g3⟩:=tt j x y hx hyy
     exact ⟨Gk _ _ _ _ _ (λb o n e=>keep b o n (s5 _ _ e)) g1,g2,g3⟩
    .rw [AL (Nat.not_lt.mp hj)] at hyy
     have ej:j=i:=by
      have:=(Ae.mp hyy).1
      simp at this
      lia
     subst ej
     rw [hl,Dd] at hyy
     rw [ex] at hx
     cases hx
     cases hyy
     exact ⟨Gk _ _ _ _ _ keep hq,nqp,sm.free nq⟩
 .have e:i=xs.length:=by lia
  subst e
  exact .inl ⟨F2,fin p _ us hp sm hh hl nd tt⟩
section
variable {X:Cx}
noncomputable def qyz (K:Af):R2:=λx y H Q=>∃ a b xs,x=.ref a/\y=.ref b/\SqL K H a xs/\SqL K H b []/\Q (.bl xs.isEmpty) H
theorem quq (hu:X.A.units < cLine):OpR X (compareOp .Eq) (qyz X.K):=by
 intro pins s σ H x y v u Q I rx ry h
 obtain ⟨a,b,xs,rfl,rfl,ha,hb,q⟩:=h
 cases rx
 cases ry
 obtain ⟨its,r1,p1,_⟩:=I.list ha
 obtain ⟨its2,r2,p2,_⟩:=I.list hb
 have l1:=r1.length
 have l2:=r2.length
 have l2:0=its2.length:=l2
 cases xs with
 | nil =>
  have l1:0=its.length:=l1
  refine SeqAt.eq_listAt (e:=λ_=>true) p1.isList p2.isList (by rw [Av,Av]; lia) hu (λj h1 _=>absurd h1 (by rw [Av]; lia)) ?_
  rw [qui]
  exact ⟨.bl true,H,I,rfl,q⟩
 | cons z zs =>
  rw [An] at l1
  refine SeqAt.eq_list_lengthsAt p1.isList p2.isList (bne_iff_ne.mpr (by rw [Av,Av]; lia)) hu ?_
  exact ⟨.bl false,H,I,rfl,q⟩
end
end Add
namespace K45
open PySem L2 Add
noncomputable def top (i:Nat):Stmt:=PySem.Challenge.pw_termcourt_k45_roles_apart.main.body.getD i (.Pass ⟨0,0,0,0⟩)
noncomputable abbrev qij:Stmt:=top 19
noncomputable abbrev qc4:Stmt:=top 18
noncomputable abbrev qm1:Stmt:=top 17
noncomputable abbrev qik:Stmt:=qd6 (top 10) 0
noncomputable abbrev qj7:Stmt:=top 22
noncomputable abbrev qe0:Stmt:=top 21
noncomputable abbrev qem:Stmt:=top 28
noncomputable abbrev qjk:Stmt:=top 27
noncomputable abbrev qil:Stmt:=qd6 (top 35) 0
noncomputable abbrev qj8:Stmt:=top 37
noncomputable abbrev qj9:Stmt:=top 39
noncomputable abbrev qm2:Stmt:=top 38
noncomputable abbrev qbr:Stmt:=qd6 (top 24) 0
noncomputable abbrev qha:Stmt:=qd6 (top 11) 0
noncomputable abbrev qhb:Stmt:=qd6 (top 9) 0
noncomputable abbrev qim:Stmt:=top 41
noncomputable abbrev qf9:Stmt:=qd6 (top 8) 0
noncomputable abbrev qdv:Stmt:=qd6 (top 24) 3
noncomputable abbrev qka:Stmt:=top 44
noncomputable abbrev qhp:Stmt:=top 43
noncomputable abbrev qin:Stmt:=top 42
noncomputable abbrev qkb:Stmt:=top 40
noncomputable abbrev qe1:Stmt:=top 46
noncomputable abbrev qfg:Stmt:=top 45
noncomputable abbrev qga:Stmt:=qd6 (top 7) 0
noncomputable abbrev qio:Stmt:=top 36
noncomputable abbrev qhc:Stmt:=top 48
noncomputable abbrev qip:Stmt:=top 49
noncomputable abbrev qhd:Stmt:=top 50
noncomputable abbrev qhq:Stmt:=top 51
noncomputable abbrev qhr:Stmt:=top 52
noncomputable abbrev qgs:Stmt:=top 53
noncomputable abbrev qee:Stmt:=top 54
noncomputable abbrev qkc:Stmt:=top 55
noncomputable abbrev qkd:Stmt:=top 56
noncomputable abbrev qiq:Stmt:=top 57
noncomputable abbrev qir:Stmt:=top 58
noncomputable abbrev qis:Stmt:=top 59
noncomputable abbrev qke:Stmt:=top 60
noncomputable abbrev qit:Stmt:=top 61
noncomputable abbrev qgb:Stmt:=top 62
noncomputable abbrev qgc:Stmt:=top 63
noncomputable abbrev qfh:Stmt:=top 64
noncomputable abbrev qe6:Stmt:=top 65
noncomputable abbrev qen:Stmt:=qd6 (top 35) 1
noncomputable abbrev qpn:Stmt:=top 66
structure DefAt (K:Af) (mg:Str->Option Value) (x:Str) (st:Stmt) (ps:List Str) (f:Addr) (fd:AB):Prop where
 fn:Fun K x x st f fd
 mgx:mg x=some (.ref f)
 bd:Binds K fd ps []
noncomputable abbrev Pd (K:Af) (x:Str) (st:Stmt) (f:Addr):Prop:=∃ (oc:Value) (od:Option Addr) (kV doc pm:Value) (an:Option Addr) (cdv ct:Value) (osl:Array (Option Value)),AC K A7 x=some (some (.ref f))/\K.lookup f=some ⟨oc,od,.func (Bt x x (qbw st) (qbm st) (qab st) .none kV doc pm an cdv ct),osl⟩/\BR K cdv x=true/\Bg K (.ref f)=true
noncomputable abbrev Pm (K:Af) (C:Addr) (x q:Str) (st:Stmt) (f:Addr):Prop:=∃ (oc:Value) (od:Option Addr) (kV doc pm:Value) (an:Option Addr) (cdv ct:Value) (osl:Array (Option Value)),AK K (.ref C) x=some (some (.ref f))/\Cc K (.ref f)=some (.type "function")/\K.lookup f=some ⟨oc,od,.func (Bt x q (qbw st) (qbm st) (qab st) .none kV doc pm an cdv ct),osl⟩/\BR K cdv q=true/\Bg K (.ref f)=true
theorem pd_of {K:Af} {x:Str} {st:Stmt} {f:Addr} {oc:Value} {od:Option Addr} {kV doc pm:Value} {an:Option Addr} {cdv ct:Value} {osl:Array (Option Value)} (a:AC K A7 x=some (some (.ref f))) (l:K.lookup f=some ⟨oc,od,.func (Bt x x (qbw st) (qbm st) (qab st) .none kV doc pm an cdv ct),osl⟩) (c:BR K cdv x=true) (k:Bg K (.ref f)=true):Pd K x st f:=⟨oc,od,kV,doc,pm,an,cdv,ct,osl,a,l,c,k⟩
theorem pm_of {K:Af} {C:Addr} {x q:Str} {st:Stmt} {f:Addr} {oc:Value} {od:Option Addr} {kV doc pm:Value} {an:Option Addr} {cdv ct:Value} {osl:Array (Option Value)} (a:AK K (.ref C) x=some (some (.ref f))) (t:Cc K (.ref f)=some (.type "function")) (l:K.lookup f=some ⟨oc,od,.func (Bt x q (qbw st) (qbm st) (qab st) .none kV doc pm an cdv ct),osl⟩) (c:BR K cdv q=true) (k:Bg K (.ref f)=true):Pm K C x q st f:=⟨oc,od,kV,doc,pm,an,cdv,ct,osl,a,t,l,c,k⟩
theorem qbi {K:Af} {h:Heap} {mg:Str->Option Value} {x:Str} {st:Stmt} {f:Addr} (X:K.In h) (G:h.Ns A7 mg) (p:Pd K x st f) {ps:List Str} (b:∀ (kV doc pm:Value) (an:Option Addr) (cdv ct:Value) (us:List Value),us.length=ps.length->bindArgs (Bt x x (qbw st) (qbm st) (qab st) .none kV doc pm an cdv ct) ⟨us,[]⟩=pure (ps.zip us)):∃ fd,DefAt K mg x st ps f fd:=by
 obtain ⟨oc,od,kV,doc,pm,an,cdv,ct,osl,a,l,c,k⟩:=p
 have F:=qo8 (st:=st) l c k
 exact ⟨_,F,AT X G a,F.binds b⟩
theorem qi0 {K:Af} {C:Addr} {x q:Str} {st:Stmt} {f:Addr} (p:Pm K C x q st f) {ps:List Str} (b:∀ (kV doc pm:Value) (an:Option Addr) (cdv ct:Value) (us:List Value),us.length=ps.length->bindArgs (Bt x q (qbw st) (qbm st) (qab st) .none kV doc pm an cdv ct) ⟨us,[]⟩=pure (ps.zip us)):∃ fd,MethAt K x q st ps f fd:=by
 obtain ⟨oc,od,kV,doc,pm,an,cdv,ct,osl,a,t,l,c,k⟩:=p
 have F:=qo8 (st:=st) l c k
 exact ⟨_,F,F.binds b,t⟩
theorem qg0 {p:List Value->Prop} (h:∀ x0,p [x0]):∀ us,us.length=1->p us:=λus hl=>by obtain ⟨x,rfl⟩:=List.length_eq_one_iff.mp hl; exact h x
theorem qur {p:List Value->Prop} {n:Nat} (h:∀ x t,t.length=n->p (x :: t)):∀ us,us.length=n + 1->p us:=λus hl=>by obtain ⟨x,t,rfl⟩:=List.exists_cons_of_length_eq_add_one hl; exact h x t (CK hl)
theorem qhs {p:List Value->Prop} (h:∀ x0 x1,p [x0,x1]):∀ us,us.length=2->p us:=qur λx=>qg0 (h x)
theorem qle {p:List Value->Prop} (h:∀ x0 x1 x2,p [x0,x1,x2]):∀ us,us.length=3->p us:=qur λx=>qhs (h x)
theorem qus {p:List Value->Prop} (h:∀ x0 x1 x2 x3,p [x0,x1,x2,x3]):∀ us,us.length=4->p us:=qur λx=>qle (h x)
theorem arg5 {p:List Value->Prop} (h:∀ x0 x1 x2 x3 x4,p [x0,x1,x2,x3,x4]):∀ us,us.length=5->p us:=qur λx=>qus (h x)
theorem arg6 {p:List Value->Prop} (h:∀ x0 x1 x2 x3 x4 x5,p [x0,x1,x2,x3,x4,x5]):∀ us,us.length=6->p us:=qur λx=>arg5 (h x)
set_option genInjectivity false
set_option genSizeOf false
set_option genSizeOfSpec false
structure Adr where
 fIsFigure:Addr
 gIsFigure:AB
 fIsWrittenNumber:Addr
 gIsWrittenNumber:AB
 fNumber:Addr
 gNumber:AB
 fRingInit:Addr
 gRingInit:AB
 fUntaken:Addr
 gUntaken:AB
 fHangingOrder:Addr
 gHangingOrder:AB
 fIsSmallLetter:Addr
 gIsSmallLetter:AB
 fIsName:Addr
 gIsName:AB
 fBookInit:Addr
 gBookInit:AB
 fLinesOf:Addr
 gLinesOf:AB
 fValueOf:Addr
 gValueOf:AB
 fRowOf:Addr
 gRowOf:AB
 fRuleInit:Addr
 gRuleInit:AB
 fTwiceInit:Addr
 gTwiceInit:AB
 fUnfitInit:Addr
 gUnfitInit:AB
 fReadTerm:Addr
 gReadTerm:AB
 fNoTermInit:Addr
 gNoTermInit:AB
 fRuleAllKinds:Addr
 gRuleAllKinds:AB
 fKindsIn:Addr
 gKindsIn:AB
 fIsUnfit:Addr
 gIsUnfit:AB
 fReadMore:Addr
 gReadMore:AB
 fReadRow:Addr
 gReadRow:AB
 fSettleYields:Addr
 gSettleYields:AB
 fSettleNames:Addr
 gSettleNames:AB
 fNoRuleInit:Addr
 gNoRuleInit:AB
 fReadBook:Addr
 gReadBook:AB
 fLawCellAt:Addr
 gLawCellAt:AB
 fLawWords:Addr
 gLawWords:AB
 fLawYields:Addr
 gLawYields:AB
 fLawBase:Addr
 gLawBase:AB
 fLawRule:Addr
 gLawRule:AB
 fLawRules:Addr
 gLawRules:AB
 fLawSorts:Addr
 gLawSorts:AB
 fLawRows:Addr
 gLawRows:AB
 fLawTold:Addr
 gLawTold:AB
 fLawRight:Addr
 gLawRight:AB
 fLawDrawn:Addr
 gLawDrawn:AB
 fLawHeads:Addr
 gLawHeads:AB
 fLawSort:Addr
 gLawSort:AB
 fLawKnown:Addr
 gLawKnown:AB
 fLawTermRow:Addr
 gLawTermRow:AB
 fLawNewTerm:Addr
 gLawNewTerm:AB
 fLawOtherRow:Addr
 gLawOtherRow:AB
 fLawFault:Addr
 gLawFault:AB
 fBookTermNames:Addr
 gBookTermNames:AB
 fLaw:Addr
 gLaw:AB
 cAdrift:Addr
 cBook:Addr
 cCourtError:Addr
 cFull:Addr
 cNoAct:Addr
 cNoDay:Addr
 cNoName:Addr
 cNoRow:Addr
 cNoRule:Addr
 cNoTable:Addr
 cNoTerm:Addr
 cParted:Addr
 cRing:Addr
 cRule:Addr
 cTwice:Addr
 cUnfit:Addr
 tUNITS:Addr
 tFORMS:Addr
 tFORMS_0:Addr
 tFORMS_1:Addr
 tFORMS_2:Addr
 tFORMS_3:Addr
 tFORMS_4:Addr
 tFORMS_5:Addr
 tFORMS_6:Addr
structure Txt (K:Af) (mg:Str->Option Value) (a:Adr):Prop where
 dIsFigure:DefAt K mg "is_figure" qij ["sign"] a.fIsFigure a.gIsFigure
 dIsWrittenNumber:DefAt K mg "is_written_number" qc4 ["text", "most_figures"] a.fIsWrittenNumber a.gIsWrittenNumber
 dNumber:DefAt K mg "number" qm1 ["text", "most"] a.fNumber a.gNumber
 dRingInit:MethAt K "__init__" "Ring.__init__" qik ["self", "names"] a.fRingInit a.gRingInit
 dUntaken:DefAt K mg "untaken" qj7 ["name", "bases", "taken"] a.fUntaken a.gUntaken
 dHangingOrder:DefAt K mg "hanging_order" qe0 ["rules"] a.fHangingOrder a.gHangingOrder
 dIsSmallLetter:DefAt K mg "is_small_letter" qem ["sign"] a.fIsSmallLetter a.gIsSmallLetter
 dIsName:DefAt K mg "is_name" qjk ["thing"] a.fIsName a.gIsName
 dBookInit:MethAt K "__init__" "Book.__init__" qil ["self", "rules"] a.fBookInit a.gBookInit
 dLinesOf:DefAt K mg "lines_of" qj8 ["text"] a.fLinesOf a.gLinesOf
 dValueOf:DefAt K mg "value_of" qj9 ["word", "asked"] a.fValueOf a.gValueOf
 dRowOf:DefAt K mg "row_of" qm2 ["line"] a.fRowOf a.gRowOf
 dRuleInit:MethD K "__init__" "Rule.__init__" qbr ["self", "name", "who", "owes", "opens", "base", "many", "unit", "still"] a.fRuleInit a.gRuleInit
 dTwiceInit:MethAt K "__init__" "Twice.__init__" qha ["self", "name"] a.fTwiceInit a.gTwiceInit
 dUnfitInit:MethAt K "__init__" "Unfit.__init__" qhb ["self", "at"] a.fUnfitInit a.gUnfitInit
 dReadTerm:DefAt K mg "read_term" qim ["told", "at", "row"] a.fReadTerm a.gReadTerm
 dNoTermInit:MethAt K "__init__" "NoTerm.__init__" qf9 ["self", "name"] a.fNoTermInit a.gNoTermInit
 dRuleAllKinds:MethAt K "all_kinds" "Rule.all_kinds" qdv ["self"] a.fRuleAllKinds a.gRuleAllKinds
 dKindsIn:DefAt K mg "kinds_in" qka ["row"] a.fKindsIn a.gKindsIn
 dIsUnfit:DefAt K mg "is_unfit" qhp ["rule", "row"] a.fIsUnfit a.gIsUnfit
 dReadMore:DefAt K mg "read_more" qin ["rule", "at", "row"] a.fReadMore a.gReadMore
 dReadRow:DefAt K mg "read_row" qkb ["told", "at", "row"] a.fReadRow a.gReadRow
 dSettleYields:DefAt K mg "settle_yields" qe1 ["told", "rule", "at", "other"] a.fSettleYields a.gSettleYields
 dSettleNames:DefAt K mg "settle_names" qfg ["told", "at", "row"] a.fSettleNames a.gSettleNames
 dNoRuleInit:MethAt K "__init__" "NoRule.__init__" qga ["self", "at"] a.fNoRuleInit a.gNoRuleInit
 dReadBook:DefAt K mg "read_book" qio ["text"] a.fReadBook a.gReadBook
 dLawCellAt:DefAt K mg "_law_cell_at" qhc ["_law_script", "_law_k"] a.fLawCellAt a.gLawCellAt
 dLawWords:DefAt K mg "_law_words" qip ["_law_cell", "_law_many"] a.fLawWords a.gLawWords
 dLawYields:DefAt K mg "_law_yields" qhd ["_law_script", "_law_at", "_law_names"] a.fLawYields a.gLawYields
 dLawBase:DefAt K mg "_law_base" qhq ["_law_script", "_law_at", "_law_names"] a.fLawBase a.gLawBase
 dLawRule:DefAt K mg "_law_rule" qhr ["_law_script", "_law_at", "_law_names", "_law_kinds"] a.fLawRule a.gLawRule
 dLawRules:DefAt K mg "_law_rules" qgs ["_law_script", "_law_names", "_law_kinds", "_law_most"] a.fLawRules a.gLawRules
 dLawSorts:DefAt K mg "_law_sorts" qee ["_law_rule_here"] a.fLawSorts a.gLawSorts
 dLawRows:DefAt K mg "_law_rows" qkc ["_law_rule_here"] a.fLawRows a.gLawRows
 dLawTold:DefAt K mg "_law_told" qkd ["_law_text"] a.fLawTold a.gLawTold
 dLawRight:DefAt K mg "_law_right" qiq ["_law_text", "_law_word", "_law_field"] a.fLawRight a.gLawRight
 dLawDrawn:DefAt K mg "_law_drawn" qir ["_law_script"] a.fLawDrawn a.gLawDrawn
 dLawHeads:DefAt K mg "_law_heads" qis ["_law_rules_here"] a.fLawHeads a.gLawHeads
 dLawSort:DefAt K mg "_law_sort" qke ["_law_cell", "_law_name", "_law_kind", "_law_other"] a.fLawSort a.gLawSort
 dLawKnown:DefAt K mg "_law_known" qit ["_law_rule_here", "_law_rows_here"] a.fLawKnown a.gLawKnown
 dLawTermRow:DefAt K mg "_law_term_row" qgb ["_law_name", "_law_one", "_law_two"] a.fLawTermRow a.gLawTermRow
 dLawNewTerm:DefAt K mg "_law_new_term" qgc ["_law_way", "_law_cell", "_law_told_here", "_law_spare", "_law_kinds", "_law_at"] a.fLawNewTerm a.gLawNewTerm
 dLawOtherRow:DefAt K mg "_law_other_row" qfh ["_law_way", "_law_cell", "_law_rule_here", "_law_rows_here", "_law_at", "_law_kinds"] a.fLawOtherRow a.gLawOtherRow
 dLawFault:DefAt K mg "_law_fault" qe6 ["_law_script", "_law_rules_here", "_law_spare", "_law_kinds", "_law_rows_here"] a.fLawFault a.gLawFault
 dBookTermNames:MethAt K "term_names" "Book.term_names" qen ["self"] a.fBookTermNames a.gBookTermNames
 dLaw:DefAt K mg "law" qpn ["_law_script"] a.fLaw a.gLaw
 e_RuleInit_8:Binds K a.gRuleInit ["self", "name", "who", "owes", "opens", "base", "many", "unit", "still"] [.none]
 m_Adrift:mg "Adrift" = some (.ref a.cAdrift)
 m_Book:mg "Book" = some (.ref a.cBook)
 c_Book:Cls K a.cBook
 k_Book:Mk K a.cBook a.fBookInit
 n_Book:xNo K a.cBook ["name", "who", "owes", "opens", "base", "many", "unit", "still", "ends", "anew", "longer", "yields", "order", "by_name", "names", "at"]=true
 t_dBookTermNames:Meth K a.cBook "term_names" a.fBookTermNames
 m_CourtError:mg "CourtError" = some (.ref a.cCourtError)
 b_CourtError:XBase K a.cCourtError
 m_Full:mg "Full" = some (.ref a.cFull)
 m_NoAct:mg "NoAct" = some (.ref a.cNoAct)
 m_NoDay:mg "NoDay" = some (.ref a.cNoDay)
 m_NoName:mg "NoName" = some (.ref a.cNoName)
 m_NoRow:mg "NoRow" = some (.ref a.cNoRow)
 m_NoRule:mg "NoRule" = some (.ref a.cNoRule)
 x_NoRule:XA K a.cNoRule (some (.ref a.fNoRuleInit))
 n_NoRule:xNo K a.cNoRule ["name", "who", "owes", "opens", "base", "many", "unit", "still", "ends", "anew", "longer", "yields", "order", "by_name", "names", "at"]=true
 k_NoRule:qf6 K a.cNoRule [Al a.cCourtError,BO "ValueError",Al a.cNoRule,Al a.cNoTerm,Al a.cTwice,Al a.cUnfit,Al a.cRing] [true,true,true,false,false,false,false]=true
 m_NoTable:mg "NoTable" = some (.ref a.cNoTable)
 m_NoTerm:mg "NoTerm" = some (.ref a.cNoTerm)
 x_NoTerm:XA K a.cNoTerm (some (.ref a.fNoTermInit))
 n_NoTerm:xNo K a.cNoTerm ["name", "who", "owes", "opens", "base", "many", "unit", "still", "ends", "anew", "longer", "yields", "order", "by_name", "names", "at"]=true
 k_NoTerm:qf6 K a.cNoTerm [Al a.cCourtError,BO "ValueError",Al a.cNoRule,Al a.cNoTerm,Al a.cTwice,Al a.cUnfit,Al a.cRing] [true,true,false,true,false,false,false]=true
 m_Parted:mg "Parted" = some (.ref a.cParted)
 m_Ring:mg "Ring" = some (.ref a.cRing)
 x_Ring:XA K a.cRing (some (.ref a.fRingInit))
 n_Ring:xNo K a.cRing ["name", "who", "owes", "opens", "base", "many", "unit", "still", "ends", "anew", "longer", "yields", "order", "by_name", "names", "at"]=true
 k_Ring:qf6 K a.cRing [Al a.cCourtError,BO "ValueError",Al a.cNoRule,Al a.cNoTerm,Al a.cTwice,Al a.cUnfit,Al a.cRing] [true,true,false,false,false,false,true]=true
 m_Rule:mg "Rule" = some (.ref a.cRule)
 c_Rule:Cls K a.cRule
 k_Rule:Mk K a.cRule a.fRuleInit
 n_Rule:xNo K a.cRule ["name", "who", "owes", "opens", "base", "many", "unit", "still", "ends", "anew", "longer", "yields", "order", "by_name", "names", "at"]=true
 t_dRuleAllKinds:Meth K a.cRule "all_kinds" a.fRuleAllKinds
 m_Twice:mg "Twice" = some (.ref a.cTwice)
 x_Twice:XA K a.cTwice (some (.ref a.fTwiceInit))
 n_Twice:xNo K a.cTwice ["name", "who", "owes", "opens", "base", "many", "unit", "still", "ends", "anew", "longer", "yields", "order", "by_name", "names", "at"]=true
 k_Twice:qf6 K a.cTwice [Al a.cCourtError,BO "ValueError",Al a.cNoRule,Al a.cNoTerm,Al a.cTwice,Al a.cUnfit,Al a.cRing] [true,true,false,false,true,false,false]=true
 m_Unfit:mg "Unfit" = some (.ref a.cUnfit)
 x_Unfit:XA K a.cUnfit (some (.ref a.fUnfitInit))
 n_Unfit:xNo K a.cUnfit ["name", "who", "owes", "opens", "base", "many", "unit", "still", "ends", "anew", "longer", "yields", "order", "by_name", "names", "at"]=true
 k_Unfit:qf6 K a.cUnfit [Al a.cCourtError,BO "ValueError",Al a.cNoRule,Al a.cNoTerm,Al a.cTwice,Al a.cUnfit,Al a.cRing] [true,true,false,false,false,true,false]=true
 r_NoRule:XRaise K a.cNoRule
 h_NoRule_Adrift:Ac K (.ref a.cNoRule) (.ref a.cAdrift)=some false
 h_NoRule_Full:Ac K (.ref a.cNoRule) (.ref a.cFull)=some false
 h_NoRule_NoAct:Ac K (.ref a.cNoRule) (.ref a.cNoAct)=some false
 h_NoRule_NoDay:Ac K (.ref a.cNoRule) (.ref a.cNoDay)=some false
 h_NoRule_NoName:Ac K (.ref a.cNoRule) (.ref a.cNoName)=some false
 h_NoRule_NoRow:Ac K (.ref a.cNoRule) (.ref a.cNoRow)=some false
 h_NoRule_NoRule:Ac K (.ref a.cNoRule) (.ref a.cNoRule)=some true
 h_NoRule_NoTable:Ac K (.ref a.cNoRule) (.ref a.cNoTable)=some false
 h_NoRule_NoTerm:Ac K (.ref a.cNoRule) (.ref a.cNoTerm)=some false
 h_NoRule_Parted:Ac K (.ref a.cNoRule) (.ref a.cParted)=some false
 h_NoRule_Ring:Ac K (.ref a.cNoRule) (.ref a.cRing)=some false
 h_NoRule_Twice:Ac K (.ref a.cNoRule) (.ref a.cTwice)=some false
 h_NoRule_Unfit:Ac K (.ref a.cNoRule) (.ref a.cUnfit)=some false
 r_NoTerm:XRaise K a.cNoTerm
 h_NoTerm_Adrift:Ac K (.ref a.cNoTerm) (.ref a.cAdrift)=some false
 h_NoTerm_Full:Ac K (.ref a.cNoTerm) (.ref a.cFull)=some false
 h_NoTerm_NoAct:Ac K (.ref a.cNoTerm) (.ref a.cNoAct)=some false
 h_NoTerm_NoDay:Ac K (.ref a.cNoTerm) (.ref a.cNoDay)=some false
 h_NoTerm_NoName:Ac K (.ref a.cNoTerm) (.ref a.cNoName)=some false
 h_NoTerm_NoRow:Ac K (.ref a.cNoTerm) (.ref a.cNoRow)=some false
 h_NoTerm_NoRule:Ac K (.ref a.cNoTerm) (.ref a.cNoRule)=some false
 h_NoTerm_NoTable:Ac K (.ref a.cNoTerm) (.ref a.cNoTable)=some false
 h_NoTerm_NoTerm:Ac K (.ref a.cNoTerm) (.ref a.cNoTerm)=some true
 h_NoTerm_Parted:Ac K (.ref a.cNoTerm) (.ref a.cParted)=some false
 h_NoTerm_Ring:Ac K (.ref a.cNoTerm) (.ref a.cRing)=some false
 h_NoTerm_Twice:Ac K (.ref a.cNoTerm) (.ref a.cTwice)=some false
 h_NoTerm_Unfit:Ac K (.ref a.cNoTerm) (.ref a.cUnfit)=some false
 r_Ring:XRaise K a.cRing
 h_Ring_Adrift:Ac K (.ref a.cRing) (.ref a.cAdrift)=some false
 h_Ring_Full:Ac K (.ref a.cRing) (.ref a.cFull)=some false
 h_Ring_NoAct:Ac K (.ref a.cRing) (.ref a.cNoAct)=some false
 h_Ring_NoDay:Ac K (.ref a.cRing) (.ref a.cNoDay)=some false
 h_Ring_NoName:Ac K (.ref a.cRing) (.ref a.cNoName)=some false
 h_Ring_NoRow:Ac K (.ref a.cRing) (.ref a.cNoRow)=some false
 h_Ring_NoRule:Ac K (.ref a.cRing) (.ref a.cNoRule)=some false
 h_Ring_NoTable:Ac K (.ref a.cRing) (.ref a.cNoTable)=some false
 h_Ring_NoTerm:Ac K (.ref a.cRing) (.ref a.cNoTerm)=some false
 h_Ring_Parted:Ac K (.ref a.cRing) (.ref a.cParted)=some false
 h_Ring_Ring:Ac K (.ref a.cRing) (.ref a.cRing)=some true
 h_Ring_Twice:Ac K (.ref a.cRing) (.ref a.cTwice)=some false
 h_Ring_Unfit:Ac K (.ref a.cRing) (.ref a.cUnfit)=some false
 r_Twice:XRaise K a.cTwice
 h_Twice_Adrift:Ac K (.ref a.cTwice) (.ref a.cAdrift)=some false
 h_Twice_Full:Ac K (.ref a.cTwice) (.ref a.cFull)=some false
 h_Twice_NoAct:Ac K (.ref a.cTwice) (.ref a.cNoAct)=some false
 h_Twice_NoDay:Ac K (.ref a.cTwice) (.ref a.cNoDay)=some false
 h_Twice_NoName:Ac K (.ref a.cTwice) (.ref a.cNoName)=some false
 h_Twice_NoRow:Ac K (.ref a.cTwice) (.ref a.cNoRow)=some false
 h_Twice_NoRule:Ac K (.ref a.cTwice) (.ref a.cNoRule)=some false
 h_Twice_NoTable:Ac K (.ref a.cTwice) (.ref a.cNoTable)=some false
 h_Twice_NoTerm:Ac K (.ref a.cTwice) (.ref a.cNoTerm)=some false
 h_Twice_Parted:Ac K (.ref a.cTwice) (.ref a.cParted)=some false
 h_Twice_Ring:Ac K (.ref a.cTwice) (.ref a.cRing)=some false
 h_Twice_Twice:Ac K (.ref a.cTwice) (.ref a.cTwice)=some true
 h_Twice_Unfit:Ac K (.ref a.cTwice) (.ref a.cUnfit)=some false
 r_Unfit:XRaise K a.cUnfit
 h_Unfit_Adrift:Ac K (.ref a.cUnfit) (.ref a.cAdrift)=some false
 h_Unfit_Full:Ac K (.ref a.cUnfit) (.ref a.cFull)=some false
 h_Unfit_NoAct:Ac K (.ref a.cUnfit) (.ref a.cNoAct)=some false
 h_Unfit_NoDay:Ac K (.ref a.cUnfit) (.ref a.cNoDay)=some false
 h_Unfit_NoName:Ac K (.ref a.cUnfit) (.ref a.cNoName)=some false
 h_Unfit_NoRow:Ac K (.ref a.cUnfit) (.ref a.cNoRow)=some false
 h_Unfit_NoRule:Ac K (.ref a.cUnfit) (.ref a.cNoRule)=some false
 h_Unfit_NoTable:Ac K (.ref a.cUnfit) (.ref a.cNoTable)=some false
 h_Unfit_NoTerm:Ac K (.ref a.cUnfit) (.ref a.cNoTerm)=some false
 h_Unfit_Parted:Ac K (.ref a.cUnfit) (.ref a.cParted)=some false
 h_Unfit_Ring:Ac K (.ref a.cUnfit) (.ref a.cRing)=some false
 h_Unfit_Twice:Ac K (.ref a.cUnfit) (.ref a.cTwice)=some false
 h_Unfit_Unfit:Ac K (.ref a.cUnfit) (.ref a.cUnfit)=some true
 n_ValueError:mg "ValueError" = none
 n_all:mg "all" = none
 n_any:mg "any" = none
 n_bool:mg "bool" = none
 n_enumerate:mg "enumerate" = none
 n_int:mg "int" = none
 n_isinstance:mg "isinstance" = none
 n_len:mg "len" = none
 n_list:mg "list" = none
 n_range:mg "range" = none
 n_reversed:mg "reversed" = none
 n_str:mg "str" = none
 n_zip:mg "zip" = none
 g_LONGEST_NAME:∃ t,mg "LONGEST_NAME" = some (.int 8 t)
 g_MOST_ROWS:∃ t,mg "MOST_ROWS" = some (.int 40 t)
 g_MOST_TERMS:∃ t,mg "MOST_TERMS" = some (.int 6 t)
 g_MOST_LONGER_ROWS:∃ t,mg "MOST_LONGER_ROWS" = some (.int 2 t)
 g_UNITS:mg "UNITS" = some (.ref a.tUNITS)
 s_UNITS:∀ H,SqT K H a.tUNITS [.str (Aa "days"),.str (Aa "weeks"),.str (Aa "court")]
 g_FORMS:mg "FORMS" = some (.ref a.tFORMS)
 s_FORMS:∀ H,SqT K H a.tFORMS [.ref a.tFORMS_0,.ref a.tFORMS_1,.ref a.tFORMS_2,.ref a.tFORMS_3,.ref a.tFORMS_4,.ref a.tFORMS_5,.ref a.tFORMS_6]
 s_FORMS_0:∀ H,SqT K H a.tFORMS_0 [.str (Aa "term"),.str (Aa "NAME"),.str (Aa "of"),.str (Aa "NAME"),.str (Aa "due"),.str (Aa "NAME"),.str (Aa "from"),.str (Aa "NAME"),.int 40,.str (Aa "UNIT")]
 s_FORMS_1:∀ H,SqT K H a.tFORMS_1 [.str (Aa "term"),.str (Aa "NAME"),.str (Aa "of"),.str (Aa "NAME"),.str (Aa "due"),.str (Aa "NAME"),.str (Aa "behind"),.str (Aa "NAME"),.int 40,.str (Aa "UNIT")]
 s_FORMS_2:∀ H,SqT K H a.tFORMS_2 [.str (Aa "ends"),.str (Aa "NAME"),.str (Aa "NAME")]
 s_FORMS_3:∀ H,SqT K H a.tFORMS_3 [.str (Aa "anew"),.str (Aa "NAME"),.str (Aa "NAME")]
 s_FORMS_4:∀ H,SqT K H a.tFORMS_4 [.str (Aa "longer"),.str (Aa "NAME"),.str (Aa "NAME"),.int 20,.str (Aa "times"),.int 3]
 s_FORMS_5:∀ H,SqT K H a.tFORMS_5 [.str (Aa "still"),.str (Aa "NAME"),.str (Aa "NAME"),.str (Aa "NAME")]
 s_FORMS_6:∀ H,SqT K H a.tFORMS_6 [.str (Aa "yields"),.str (Aa "NAME"),.str (Aa "NAME")]
theorem qcj:bootBuiltins "ValueError" = some (.type "ValueError"):=by decide +kernel
theorem qoc:bootBuiltins "all" = some (.builtin "all"):=by decide +kernel
theorem qut:bootBuiltins "any" = some (.builtin "any"):=by decide +kernel
theorem qsj:bootBuiltins "bool" = some (.type "bool"):=by decide +kernel
theorem qgd:bootBuiltins "int" = some (.type "int"):=by decide +kernel
theorem qah:bootBuiltins "isinstance" = some (.builtin "isinstance"):=by decide +kernel
theorem qap:bootBuiltins "len" = some (.builtin "len"):=by decide +kernel
theorem qef:bootBuiltins "list" = some (.type "list"):=by decide +kernel
theorem qeo:bootBuiltins "str" = some (.type "str"):=by decide +kernel
theorem qpo:FnScope ["sign"] ["sign"] (qab qij):=⟨rfl,rfl,rfl,by decide +kernel,rfl,by decide +kernel,by decide +kernel⟩
theorem qht:FnScope ["text", "most_figures"] ["text", "most_figures"] (qab qc4):=⟨rfl,rfl,rfl,by decide +kernel,rfl,by decide +kernel,by decide +kernel⟩
theorem qod:FnScope ["text", "most", "written"] ["text", "most"] (qab qm1):=⟨rfl,rfl,rfl,by decide +kernel,rfl,by decide +kernel,by decide +kernel⟩
theorem qpp:FnScope ["self", "names"] ["self", "names"] (qab qik):=⟨rfl,rfl,rfl,by decide +kernel,rfl,by decide +kernel,by decide +kernel⟩
theorem qgt:FnScope ["name", "bases", "taken", "path", "above"] ["name", "bases", "taken"] (qab qj7):=⟨rfl,rfl,rfl,by decide +kernel,rfl,by decide +kernel,by decide +kernel⟩
theorem qb5:FnScope ["rules", "bases", "rule", "taken"] ["rules"] (qab qe0):=⟨rfl,rfl,rfl,by decide +kernel,rfl,by decide +kernel,by decide +kernel⟩
theorem qjd:FnScope ["sign"] ["sign"] (qab qem):=⟨rfl,rfl,rfl,by decide +kernel,rfl,by decide +kernel,by decide +kernel⟩
theorem quu:FnScope ["thing"] ["thing"] (qab qjk):=⟨rfl,rfl,rfl,by decide +kernel,rfl,by decide +kernel,by decide +kernel⟩
theorem qkf:FnScope ["self", "rules", "rule"] ["self", "rules"] (qab qil):=⟨rfl,rfl,rfl,by decide +kernel,rfl,by decide +kernel,by decide +kernel⟩
theorem qsk:FnScope ["text"] ["text"] (qab qj8):=⟨rfl,rfl,rfl,by decide +kernel,rfl,by decide +kernel,by decide +kernel⟩
theorem qsl:FnScope ["word", "asked"] ["word", "asked"] (qab qj9):=⟨rfl,rfl,rfl,by decide +kernel,rfl,by decide +kernel,by decide +kernel⟩
theorem qjl:FnScope ["line", "words", "form", "row"] ["line"] (qab qm2):=⟨rfl,rfl,rfl,by decide +kernel,rfl,by decide +kernel,by decide +kernel⟩
theorem qpq:FnScope ["self", "name", "who", "owes", "opens", "base", "many", "unit", "still"] ["self", "name", "who", "owes", "opens", "base", "many", "unit", "still"] (qab qbr):=⟨rfl,rfl,rfl,by decide +kernel,rfl,by decide +kernel,by decide +kernel⟩
theorem qoe:FnScope ["self", "name"] ["self", "name"] (qab qha):=⟨rfl,rfl,rfl,by decide +kernel,rfl,by decide +kernel,by decide +kernel⟩
theorem qof:FnScope ["self", "at"] ["self", "at"] (qab qhb):=⟨rfl,rfl,rfl,by decide +kernel,rfl,by decide +kernel,by decide +kernel⟩
theorem qep:FnScope ["told", "at", "row", "name", "opens", "base", "rule"] ["told", "at", "row"] (qab qim):=⟨rfl,rfl,rfl,by decide +kernel,rfl,by decide +kernel,by decide +kernel⟩
theorem qm3:FnScope ["self", "name"] ["self", "name"] (qab qf9):=⟨rfl,rfl,rfl,by decide +kernel,rfl,by decide +kernel,by decide +kernel⟩
theorem qge:FnScope ["self", "kinds"] ["self"] (qab qdv):=⟨rfl,rfl,rfl,by decide +kernel,rfl,by decide +kernel,by decide +kernel⟩
theorem qsm:FnScope ["row"] ["row"] (qab qka):=⟨rfl,rfl,rfl,by decide +kernel,rfl,by decide +kernel,by decide +kernel⟩
theorem ql8:FnScope ["rule", "row", "taken"] ["rule", "row"] (qab qhp):=⟨rfl,rfl,rfl,by decide +kernel,rfl,by decide +kernel,by decide +kernel⟩
theorem qpr:FnScope ["rule", "at", "row"] ["rule", "at", "row"] (qab qin):=⟨rfl,rfl,rfl,by decide +kernel,rfl,by decide +kernel,by decide +kernel⟩
theorem qsn:FnScope ["told", "at", "row"] ["told", "at", "row"] (qab qkb):=⟨rfl,rfl,rfl,by decide +kernel,rfl,by decide +kernel,by decide +kernel⟩
theorem qkg:FnScope ["told", "rule", "at", "other"] ["told", "rule", "at", "other"] (qab qe1):=⟨rfl,rfl,rfl,by decide +kernel,rfl,by decide +kernel,by decide +kernel⟩
theorem qg3:FnScope ["told", "at", "row", "rule"] ["told", "at", "row"] (qab qfg):=⟨rfl,rfl,rfl,by decide +kernel,rfl,by decide +kernel,by decide +kernel⟩
theorem qm4:FnScope ["self", "at"] ["self", "at"] (qab qga):=⟨rfl,rfl,rfl,by decide +kernel,rfl,by decide +kernel,by decide +kernel⟩
theorem qcw:FnScope ["text", "told", "rows", "at", "line", "row"] ["text"] (qab qio):=⟨rfl,rfl,rfl,by decide +kernel,rfl,by decide +kernel,by decide +kernel⟩
theorem qog:FnScope ["_law_script", "_law_k"] ["_law_script", "_law_k"] (qab qhc):=⟨rfl,rfl,rfl,by decide +kernel,rfl,by decide +kernel,by decide +kernel⟩
theorem qbf:FnScope ["_law_cell", "_law_many", "_law_some", "_law_size", "_law_at", "_law_primes", "_law_stem", "_law_k", "_law_words_here", "_law_turn", "_law_word"] ["_law_cell", "_law_many"] (qab qip):=⟨rfl,rfl,rfl,by decide +kernel,rfl,by decide +kernel,by decide +kernel⟩
theorem qcx:FnScope ["_law_script", "_law_at", "_law_names", "_law_cell", "_law_mine", "_law_yields_here", "_law_other", "_law_bit", "_law_theirs"] ["_law_script", "_law_at", "_law_names"] (qab qhd):=⟨rfl,rfl,rfl,by decide +kernel,rfl,by decide +kernel,by decide +kernel⟩
theorem qeg:FnScope ["_law_script", "_law_at", "_law_names", "_law_turn", "_law_cell", "_law_ranks", "_law_k", "_law_below"] ["_law_script", "_law_at", "_law_names"] (qab qhq):=⟨rfl,rfl,rfl,by decide +kernel,rfl,by decide +kernel,by decide +kernel⟩
theorem qa4:FnScope ["_law_script", "_law_at", "_law_names", "_law_kinds", "_law_cells", "_law_owed", "_law_rest", "_law_turn", "_law_base_here", "_law_opens", "_law_unit", "_law_longer", "_law_k", "_law_units", "_law_still", "_law_rule_here"] ["_law_script", "_law_at", "_law_names", "_law_kinds"] (qab qhr):=⟨rfl,rfl,rfl,by decide +kernel,rfl,by decide +kernel,by decide +kernel⟩
theorem qdb:FnScope ["_law_script", "_law_names", "_law_kinds", "_law_most", "_law_rules_here", "_law_room", "_law_rule_here", "_law_sort_here"] ["_law_script", "_law_names", "_law_kinds", "_law_most"] (qab qgs):=⟨rfl,rfl,rfl,by decide +kernel,rfl,by decide +kernel,by decide +kernel⟩
theorem qa3:FnScope ["_law_rule_here", "_law_name", "_law_way", "_law_head", "_law_ends", "_law_anew", "_law_longer", "_law_kind", "_law_units", "_law_times", "_law_row", "_law_still", "_law_yields_here"] ["_law_rule_here"] (qab qee):=⟨rfl,rfl,rfl,by decide +kernel,rfl,by decide +kernel,by decide +kernel⟩
theorem qgu:FnScope ["_law_rule_here", "_law_rows_here", "_law_sort_here"] ["_law_rule_here"] (qab qkc):=⟨rfl,rfl,rfl,by decide +kernel,rfl,by decide +kernel,by decide +kernel⟩
theorem qbd:FnScope ["_law_text", "_law_found", "e", "_law_alone"] ["_law_text"] (qab qkd):=⟨rfl,rfl,rfl,by decide +kernel,rfl,by decide +kernel,by decide +kernel⟩
theorem qkh:FnScope ["_law_text", "_law_word", "_law_field", "_law_found"] ["_law_text", "_law_word", "_law_field"] (qab qiq):=⟨rfl,rfl,rfl,by decide +kernel,rfl,by decide +kernel,by decide +kernel⟩
theorem qdp:FnScope ["_law_script", "_law_many", "_law_names", "_law_same", "_law_kinds", "_law_rules_here"] ["_law_script"] (qab qir):=⟨rfl,rfl,rfl,by decide +kernel,rfl,by decide +kernel,by decide +kernel⟩
theorem qeq:FnScope ["_law_rules_here", "_law_heads_here", "_law_rows_here", "_law_rule_here"] ["_law_rules_here"] (qab qis):=⟨rfl,rfl,rfl,by decide +kernel,rfl,by decide +kernel,by decide +kernel⟩
theorem ql9:FnScope ["_law_cell", "_law_name", "_law_kind", "_law_other", "_law_rows_here"] ["_law_cell", "_law_name", "_law_kind", "_law_other"] (qab qke):=⟨rfl,rfl,rfl,by decide +kernel,rfl,by decide +kernel,by decide +kernel⟩
theorem qer:FnScope ["_law_rule_here", "_law_rows_here", "_law_words_here", "_law_row", "_law_parts"] ["_law_rule_here", "_law_rows_here"] (qab qit):=⟨rfl,rfl,rfl,by decide +kernel,rfl,by decide +kernel,by decide +kernel⟩
theorem qm5:FnScope ["_law_name", "_law_one", "_law_two"] ["_law_name", "_law_one", "_law_two"] (qab qgb):=⟨rfl,rfl,rfl,by decide +kernel,rfl,by decide +kernel,by decide +kernel⟩
theorem qfi:FnScope ["_law_way", "_law_cell", "_law_told_here", "_law_spare", "_law_kinds", "_law_at", "_law_two", "_law_name"] ["_law_way", "_law_cell", "_law_told_here", "_law_spare", "_law_kinds", "_law_at"] (qab qgc):=⟨rfl,rfl,rfl,by decide +kernel,rfl,by decide +kernel,by decide +kernel⟩
theorem qcl:FnScope ["_law_way", "_law_cell", "_law_rule_here", "_law_rows_here", "_law_at", "_law_kinds", "_law_known_here", "_law_name", "_law_row"] ["_law_way", "_law_cell", "_law_rule_here", "_law_rows_here", "_law_at", "_law_kinds"] (qab qfh):=⟨rfl,rfl,rfl,by decide +kernel,rfl,by decide +kernel,by decide +kernel⟩
theorem qbc:FnScope ["_law_script", "_law_rules_here", "_law_spare", "_law_kinds", "_law_rows_here", "_law_cell", "_law_way", "_law_heads_here", "_law_at", "_law_turn", "_law_told_here", "_law_later", "_law_name", "_law_rest", "_law_k"] ["_law_script", "_law_rules_here", "_law_spare", "_law_kinds", "_law_rows_here"] (qab qe6):=⟨rfl,rfl,rfl,by decide +kernel,rfl,by decide +kernel,by decide +kernel⟩
theorem qje:FnScope ["self"] ["self"] (qab qen):=⟨rfl,rfl,rfl,by decide +kernel,rfl,by decide +kernel,by decide +kernel⟩
theorem qfr:FnScope ["_law_script", "_law_rules_here", "_law_rest", "_law_kinds", "_law_rows_here", "_law_rule_here", "_law_at", "_law_row", "_law_word", "_law_field", "_law_text"] ["_law_script"] (qab qpn):=⟨rfl,rfl,rfl,by decide +kernel,rfl,by decide +kernel,by decide +kernel⟩
seal PySem.Sem.wp
open Add Lay Mrg Tab
theorem useH {p G:Hp->Prop} {R:Prop} (m:(∀ x,p x->G x)->R) (l:∀ x,p x->G x):R:=m l
theorem use2 {S T:Type} {p G:S->T->Prop} {R:Prop} (m:(∀ x y,p x y->G x y)->R) (l:∀ x y,p x y->G x y):R:=m l
theorem qe2 {c A B:Prop} [Decidable c] (hc:c) (h:A):if decide c=true then A else B:=by rw [if_pos (decide_eq_true hc)]; exact h
theorem qax {c A B:Prop} [Decidable c] (hc:¬ c) (h:B):if decide c=true then A else B:=by rw [decide_eq_false hc]; exact h
theorem qdl {c A B:Prop} [Decidable c] (hc:c) (h:B):if (!decide c)=true then A else B:=by rw [decide_eq_true hc]; exact h
theorem zj {H:Hp} {p:Addr} {o:HO} (hp:H p=none):Same H (upd H p o):=λb u e=>by rw [zf (qae e hp)]; exact e
theorem alc {H:Hp} {p:Addr} {o:HO} (hp:H p=none):Same H (upd H p o)/\upd H p o p=some o:=⟨zj hp,zb⟩
theorem qal {n:Nat} (h:n <= 100000):n <= Ax:=by rw [Bi]; lia
theorem qb6 {xs:List V} (h:xs.length <= 90000):xs.length < Ax:=by rw [Bi]; lia
theorem qe3:([]:List V).length <= Ax:=qal (by decide)
theorem fit2 (x y:V):[x,y].length <= Ax:=qal (show 2 <= 100000 by decide)
theorem qki (x y z:V):[x,y,z].length <= Ax:=qal (show 3 <= 100000 by decide)
theorem qy0 {vs:List V} {k:Int} {j:Nat} {v:V} (h:vs[j]?=some v) (e:k=(j:Int)):atI vs k=some v:=by rw [e]; exact qaz h
theorem qkj (vs:List V) (b:Nat) (h:b <= vs.length):qgz vs none (some (b:Int))=vs.take b:=by
 unfold qgz
 have e1:HT.sIx vs.length 0 none=0:=rfl
 have e2:HT.sIx vs.length vs.length (some (b:Int))=b:=by
  simp only [HT.sIx]
  split <;> lia
 rw [e1,e2]
 simp
theorem qhu (vs:List V) (b:Nat) (h:b <= vs.length):qgz vs (some (b:Int)) none=vs.drop b:=by
 unfold qgz
 have e1:HT.sIx vs.length vs.length none=vs.length:=rfl
 have e2:HT.sIx vs.length 0 (some (b:Int))=b:=by
  simp only [HT.sIx]
  split <;> lia
 rw [e1,e2]
 rw [BN (by rw [Bl]; lia)]
theorem qbg {α:Type} {xs:List α} {i:Nat} {x:α} (h:xs[i]?=some x):xs.take (i + 1)=xs.take i ++ [x]:=by rw [Dw,h]; rfl
theorem qe7 {c A B:Prop} [Decidable c] (hc:¬ c) (h:A):if (!decide c)=true then A else B:=by rw [decide_eq_false hc]; exact h
noncomputable def cell (ns:List Int) (k:Int):Int:=ns.getD k.toNat 0
theorem quv {ns:List Int} {k:Int} (h0:0 <= k) (h:k < ((ns.map V.int).length:Int)):atI (ns.map V.int) k=some (V.int (cell ns k)):=by
 rw [Ab] at h
 have hk:k.toNat < ns.length:=(Int.toNat_lt h0).mpr h
 refine qy0 (j:=k.toNat) ?_ (Int.toNat_of_nonneg h0).symm
 rw [Ak,Ag hk]
 unfold cell
 rw [Bc,Ag hk]
 rfl
theorem quw {ns:List Int} {k:Int} (h:¬ k < ((ns.map V.int).length:Int)):cell ns k=0:=by
 rw [Ab] at h
 unfold cell
 rw [Bc,Bh (Int.ofNat_le.mp (Int.le_trans (Int.not_lt.mp h) (Int.self_le_toNat k)))]
 rfl
noncomputable def qy1 (K:Af):Sp:=λvs H Q _=>∃ (a:Addr) (ns:List Int) (k:Int),vs=[.ref a,.int k]/\SqL K H a (ns.map V.int)/\0 <= k/\Q (.int (cell ns k)) H
theorem qgf (x:Str) (xs:List Str):inV (.str x) (xs.map V.str)=xs.contains x:=by
 unfold inV
 rw [List.any_map,List.contains_eq_any_beq]
 congr 1
 funext y
 show (y == x)=(x == y)
 rw [Cp,beq_iff_eq,beq_iff_eq]
 exact eq_comm
theorem qgv (xs:List Str):(xs.map V.str).all qcr=true:=by rw [CJ]; exact AZ.mpr λ_ _=>rfl
noncomputable def nm (nms:List Str) (k:Nat):Str:=nms.getD k Str.empty
noncomputable def bo (bs:List (Option Nat)) (k:Nat):Option Nat:=bs.getD k none
theorem qg4 {nms:List Str} {k:Nat} (h:k < nms.length):nms[k]?=some (nm nms k):=by
 unfold nm
 rw [Bc,Ag h]
 rfl
theorem qiu {nms:List Str} (nd:nms.Nodup) {j k:Nat} (hj:j < nms.length) (hk:k < nms.length) (e:nm nms j=nm nms k):j=k:=by
 have a:=qg4 hj
 rw [e,<- qg4 hk] at a
 exact (List.getElem?_inj hj nd).mp a
noncomputable def qhv (nms:List Str):Option Nat->V
 | none=>.non
 | some b=>.str (nm nms b)
noncomputable def DicOk (kvs:List (Key × V)) (nms:List Str) (bs:List (Option Nat)):Prop:=∀ k < nms.length,qdn kvs (.inr (nm nms k))=some (qhv nms (bo bs k))
noncomputable def SameBut (x:Addr) (H H':Hp):Prop:=∀ b o,b ≠ x->H b=some o->H' b=some o
theorem SameBut.of {x:Addr} {H H':Hp} (s:Same H H'):SameBut x H H':=λb o _ e=>s b o e
theorem SameBut.trans {x:Addr} {H H1 H2:Hp} (a:SameBut x H H1) (b:SameBut x H1 H2):SameBut x H H2:=λc o n e=>b c o n (a c o n e)
theorem SameBut.set {x:Addr} {H H':Hp} {o:HO} (a:SameBut x H H'):SameBut x H (upd H' x o):=λb u n e=>by rw [zf n]; exact a b u n e
theorem SameBut.made {x dx:Addr} {H H':Hp} {o u:HO} (a:SameBut x (upd (upd H dx u) x o) H') (hx:H x=none) (hd:H dx=none):Same H H':=λb v e =>
 a b v (qae e hx) (by rw [zf (qae e hx),zf (qae e hd)]; exact e)
theorem SameBut.free {x q:Addr} {H H':Hp} (b:SameBut x H H') (n:q ≠ x) (h:H' q=none):H q=none:=by
 cases e:H q with
 | none=>rfl
 | some o=>rw [b q o n e] at h; cases h
theorem qwv {kvs:List (Key × V)} {nms:List Str} {bs:List (Option Nat)} {i:Nat} (nd:nms.Nodup) (hi:i < nms.length) (h:∀ k < i,qdn kvs (.inr (nm nms k))=some (qhv nms (bo bs k))):∀ k < i + 1,qdn (qfe kvs (.inr (nm nms i)) (qhv nms (bo bs i))) (.inr (nm nms k))=some (qhv nms (bo bs k)):=λk hk=>by
 rw [qto]
 by_cases e:k=i
 .subst e
  rw [if_pos rfl]
 .rw [if_neg (λz=>e (qiu nd (by lia) hi (C8.inj z)))]
  exact h k (by lia)
theorem nmV {nms:List Str} {k:Nat} (h:k < nms.length):(nms.map V.str)[k]?=some (.str (nm nms k)):=by rw [Ak,qg4 h]; rfl
theorem rb {n:Nat} (h:n <= 1000) : -2 ^ 62 <= (n:Int)/\(n:Int) < 2 ^ 62:=by lia
noncomputable abbrev bfs (po pd:Addr):List (Str × V):=[(Aa "order",.ref po),(Aa "by_name",.ref pd)]
theorem put1 (f:Str) (u:V):qcs f u []=[(f,u)]:=rfl
theorem put2 {f g:Str} (u v:V) (h:f ≠ g):qcs g v [(f,u)]=[(f,u),(g,v)]:=by unfold qcs; rw [if_neg h]; rfl
noncomputable abbrev az:Str:=Aa "abcdefghijklmnopqrstuvwxyz"
theorem qy2:az.length=26:=by decide +kernel
theorem qww:az.cps.toList=(Ba 26).map (λj=>97 + j):=by decide +kernel
theorem qxw {j:Nat} (h:j < 26):atI az.cps.toList (j:Int)=some (97 + j):=qaz (by rw [qww,Ak,Dh h]; rfl)
theorem qgw (x y:Str):(x ++ y).length=x.length + y.length:=by
 show (x ++ y).cps.size=_
 rw [CZ,Array.size_append]; rfl
noncomputable def wdL (L:List Nat) (n c:Nat):List Nat:=L.take n ++ c :: L.drop (n + 1)
theorem qwx {st:Str} {n c:Nat} (h:n + 1 <= st.length):D9 st none (some (n:Int)) ++ (⟨#[c]⟩:Str) ++ D9 st (some ((n:Int) + 1)) none=⟨(wdL st.cps.toList n c).toArray⟩:=by
 have hl:st.cps.toList.length=st.length:=AN
 have e1:D9 st none (some (n:Int))=⟨((st.cps.toList.drop 0).take ((n:Int) - 0).toNat).toArray⟩:=PySem.StrLaws.sliceText_to ⟨Int.natCast_nonneg n,by lia⟩
 have e2:D9 st (some ((n:Int) + 1)) none=⟨((st.cps.toList.drop ((n:Int) + 1).toNat).take ((st.cps.toList.length:Int) - ((n:Int) + 1)).toNat).toArray⟩:=PySem.StrLaws.sliceText_from ⟨by lia,by lia⟩
 have e3:((n:Int) + 1).toNat=n + 1:=by lia
 rw [e1,e2,e3,BN (l:=st.cps.toList.drop (n + 1)) (by rw [Bl]; lia)]
 apply Str.ext'
 rw [CZ,CZ]
 show ((st.cps.toList.drop 0).take ((n:Int) - 0).toNat).toArray ++ #[c] ++ (st.cps.toList.drop (n + 1)).toArray=_
 unfold wdL
 rw [List.drop_zero,show ((n:Int) - 0).toNat=n by lia]
 simp
theorem cut_eq {L:List Nat} {n c:Nat} (h:n < L.length):D9 ⟨(wdL L n c).toArray⟩ none (some ((n:Int) + 1))=⟨(L.take n ++ [c]).toArray⟩:=by
 have lt:(L.take n).length=n:=by rw [A2]; lia
 have e1:D9 ⟨(wdL L n c).toArray⟩ none (some ((n:Int) + 1))=⟨(((wdL L n c).toArray.toList.drop 0).take ((n:Int) + 1 - 0).toNat).toArray⟩:=PySem.StrLaws.sliceText_to ⟨by lia,by
  show (n:Int) + 1 <= ((wdL L n c).toArray.toList.length:Int)
  rw [List.toList_toArray]
  unfold wdL
  rw [Ai,An,lt]
  lia⟩
 rw [e1,List.toList_toArray,List.drop_zero,show ((n:Int) + 1 - 0).toNat=n + 1 by lia]
 unfold wdL
 rw [List.take_append,lt,BN (A1 (BS lt) (Cs n)),show n + 1 - n=1 by lia]
 rfl
noncomputable def sgn (t:Int) (e k:Nat):Nat:=97 + ((t + ((k / (1 + e):Nat):Int)) % 26).toNat
noncomputable def wdS (L:List Nat) (n e:Nat) (t:Int) (k:Nat):Str:=if e=1/\k % 2=1 then ⟨(L.take n ++ [sgn t e k]).toArray⟩ else ⟨(wdL L n (sgn t e k)).toArray⟩
theorem qm6 {x y:List Nat} (h:(⟨x.toArray⟩:Str)=⟨y.toArray⟩):x=y:=by
 have:=congrArg (λz:Str=>z.cps.toList) h
 simpa using this
theorem qwy {L:List Nat} {n c d:Nat} (h:wdL L n c=wdL L n d):c=d:=by
 unfold wdL at h
 exact (CT (List.append_cancel_left h)).1
theorem qwz {t:Int} {e k j:Nat} (he:e <= 1) (hk:k / (1 + e) < 26) (hj:j / (1 + e) < 26) (h:sgn t e k=sgn t e j):k / (1 + e)=j / (1 + e):=by
 have h:(t + ((k / (1 + e):Nat):Int)) % 26=(t + ((j / (1 + e):Nat):Int)) % 26:=by unfold sgn at h; lia
 generalize k / (1 + e)=x at *
 generalize j / (1 + e)=y at *
 lia
theorem qw0 {L:List Nat} {n e:Nat} {t:Int} (he:e <= 1) (hn:n + 1 + e <= L.length) {k j:Nat} (hk:k / (1 + e) < 26) (hj:j / (1 + e) < 26) (h:wdS L n e t k=wdS L n e t j):k=j:=by
 have lt:(L.take n).length=n:=by rw [A2]; lia
 have ld:(L.drop (n + 1)).length=L.length - (n + 1):=Bl
 have key:sgn t e k=sgn t e j/\(e=1->k % 2=j % 2):=by
  unfold wdS at h
  by_cases c1:e=1/\k % 2=1
  .rw [if_pos c1] at h
   by_cases c2:e=1/\j % 2=1
   .rw [if_pos c2] at h
    exact ⟨(CT (List.append_cancel_left (qm6 h))).1,λ_=>by lia⟩
   .rw [if_neg c2] at h
    have hl:=congrArg CF (qm6 h)
    unfold wdL at hl
    rw [Ai,Ai,An,An,Cg,ld] at hl
    lia
  .rw [if_neg c1] at h
   by_cases c2:e=1/\j % 2=1
   .rw [if_pos c2] at h
    have hl:=congrArg CF (qm6 h)
    unfold wdL at hl
    rw [Ai,Ai,An,An,Cg,ld] at hl
    lia
   .rw [if_neg c2] at h
    exact ⟨qwy (qm6 h),λz=>by lia⟩
 have q:=qwz he hk hj key.1
 rcases (by lia:e=0 \/ e=1) with z | z
 .rw [z] at q
  simpa using q
 .have:=key.2 z
  rw [z] at q
  lia
theorem qy3 {L:List Nat} {n e:Nat} {t:Int} (he:e <= 1) (hn:n + 1 + e <= L.length) {m:Nat} (hm:∀ k,k < m->k / (1 + e) < 26):((Ba m).map (wdS L n e t)).Nodup:=by
 rw [List.nodup_iff_pairwise_ne,List.pairwise_map]
 refine (List.Pairwise.and_mem.mp (List.nodup_iff_pairwise_ne.mp List.nodup_range)).imp λ{a b} h z => ?_
 have h1:=Cb.mp h.1
 have h2:=Cb.mp h.2.1
 exact h.2.2 (qw0 he hn (hm _ h1) (hm _ h2) z)
theorem sizeB (c:Int):1 + c % 2 <= 1 + c % 2 + c / 2 % (8 - c % 2)/\1 + c % 2 + c / 2 % (8 - c % 2) <= 8:=by
 rcases (by lia:c % 2=0 \/ c % 2=1) with e | e <;> rw [e]
 .rw [show (8:Int) - 0=8 from rfl]; lia
 .rw [show (8:Int) - 1=7 from rfl]; lia
noncomputable def prL:List Int:=[100003,100019,100043,100049,100057,100069,100103,100109]
theorem pr_at {k:Nat} (h:k < 8):∃ p:Int,0 < p/\(prL.map V.int)[k]?=some (V.int p):=by
 rcases (by lia:k=0 \/ k=1 \/ k=2 \/ k=3 \/ k=4 \/ k=5 \/ k=6 \/ k=7) with e | e | e | e | e | e | e | e <;> subst e <;> exact ⟨_,by decide,rfl⟩
noncomputable def qq5 (K:Af):Sp:=λvs H Q _=>∃ (a:Addr) (ns:List Int),vs=[.ref a]/\SqL K H a (ns.map V.int)/\ns.length <= 63/\∀ H',Q (.bl true) H'
section
variable {f:Nat->Option Nat} {n:Nat}
noncomputable def Ch (f:Nat->Option Nat) (is:List Nat) (o:Option Nat):Prop:=∀ i k,is[i]?=some k->f k=(is ++ o.toList)[i + 1]?
theorem Ch.snoc {is:List Nat} {j:Nat} (h:Ch f is (some j)):Ch f (is ++ [j]) (f j):=by
 intro i k e
 by_cases c:i < is.length
 .rw [AQ c] at e
  rw [h i k e]
  exact (AQ (by show i + 1 < (is ++ [j]).length; rw [Ai,B3]; lia)).symm
 .have l:i < (is ++ [j]).length:=(Ae.mp e).1
  rw [Ai,B3] at l
  obtain rfl:i=is.length:=by lia
  rw [AL (Az _),Dd] at e
  cases e
  rw [AL (by rw [Ai,B3]; lia),Ai,B3,Dd]
  cases f j <;> rfl
structure Rg (f:Nat->Option Nat) (n:Nat) (r:List Nat):Prop where
 ne:r ≠ []
 nd:r.Nodup
 lt:∀ k ∈ r,k < n
 nx:∀ i k,r[i]?=some k->f k=r[(i + 1) % r.length]?
theorem ch_rg {is:List Nat} {j i0:Nat} (h:Ch f is (some j)) (nd:is.Nodup) (lt:∀ k ∈ is,k < n) (e:is[i0]?=some j):Rg f n (is.drop i0):=by
 have l0:=(Ae.mp e).1
 have ll:(is.drop i0).length=is.length - i0:=Bl
 refine ⟨λz => ?_,(List.drop_sublist _ _).nodup nd,λk hk=>lt k (DJ hk),λi k ek => ?_⟩
 .rw [z] at ll; have:0=is.length - i0:=ll; lia
 .have li:=(Ae.mp ek).1
  rw [ll] at li
  rw [Ed] at ek
  rw [h _ k ek,ll]
  by_cases c:i + 1 < is.length - i0
  .rw [Nat.mod_eq_of_lt c,Ed,AQ (by lia),Nat.add_assoc]
  .rw [show i + 1=is.length - i0 by lia,Nat.mod_self,Ed,show i0 + 0=i0 from rfl,e,AL (by lia),show i0 + i + 1 - is.length=0 by lia]; rfl
noncomputable def Od (f:Nat->Option Nat) (os:List Nat):Prop:=∀ p k,os[p]?=some k->∀ b,f k=some b->b ∈ os.take p
theorem qy4 {os is:List Nat} {o:Option Nat} (h:Od f os) (c:Ch f is o) (ho:∀ j,o=some j->j ∈ os):Od f (os ++ is.reverse):=by
 intro p k e b eb
 by_cases hp:p < os.length
 .rw [AQ hp] at e
  have:=h p k e b eb
  rw [DK (by lia)]
  exact this
 .rw [AL (by lia)] at e
  have lp:=(Ae.mp e).1
  rw [Dg] at lp
  rw [D5 lp] at e
  have g:=c _ k e
  rw [eb] at g
  rw [List.take_append,A5]
  by_cases z:is.length - 1 - (p - os.length) + 1 < is.length
  .rw [AQ z] at g
   right
   rw [List.mem_iff_getElem?]
   refine ⟨is.length - 1 - (is.length - 1 - (p - os.length) + 1),?_⟩
   rw [Dj (by lia),D5 (by lia),show is.length - 1 - (is.length - 1 - (is.length - 1 - (p - os.length) + 1))=is.length - 1 - (p - os.length) + 1 by lia]
   exact g.symm
  .rw [AL (by lia),show is.length - 1 - (p - os.length) + 1 - is.length=0 by lia] at g
   left
   rw [BN (by lia)]
   refine ho b ?_
   cases o with
   | none=>cases g
   | some j=>exact g.symm
theorem qux {l:List Nat} (nd:l.Nodup) (lt:∀ k ∈ l,k < n):l.length <= n:=by
 induction n generalizing l with
 | zero =>
  cases l with
  | nil=>exact Az _
  | cons a l=>exact absurd (lt a Aq) (DP _)
 | succ n ih =>
  have h:=ih (l:=l.erase n) (nd.erase n) (λk hk=>by
   have h1:=lt k (List.mem_of_mem_erase hk)
   have h2:k ≠ n:=λz=>by rw [z] at hk; exact nd.not_mem_erase hk
   lia)
  by_cases m:n ∈ l
  .rw [List.length_erase_of_mem m] at h; lia
  .rw [List.erase_of_not_mem m] at h; lia
end
structure Wr (nms:List Str) (bs:List (Option Nat)):Prop where
 nd:nms.Nodup
 len:bs.length=nms.length
 sm:nms.length <= 6
 ok:∀ k b,bo bs k=some b->b < nms.length
theorem qbh {H H':Hp} {x:Addr} {o0:HO} (hx:H x=none) (keep:∀ b o,b ≠ x->upd H x o0 b=some o->H' b=some o):Same H H':=λb o e=>keep b o (qae e hx) (by rw [zf (qae e hx)]; exact e)
noncomputable def spIL (K:Af):Sp:=λvs H Q _=>∃ (x C l:Addr) (zs:List V) (ini:Option Value),vs=[.ref x,.ref l]/\H x=some (exO x C none true)/\SqL K H l zs/\XA K C ini/\AK K (.ref C) "names" = some none /\
 ∀ (dx l':Addr) (H':Hp),H dx=none->H l'=none->(∀ b o,b ≠ x->H b=some o->H' b=some o)->H' x=some (exO x C (some dx) true)->H' dx=some (exD dx [("names",.ref l')])->H' l'=some (.lst zs)->Q .non H'
noncomputable def OutR (a:Adr) (nms:List Str) (bs:List (Option Nat)) (H:Hp) (E:XK):Prop:=∀ (x d l:Addr) (H':Hp) (r:List Nat),Same H H'->H' x=some (exO x a.cRing (some d) false)->H' d=some (exD d [("names",.ref l)])->H' l=some (.lst ((r.map (nm nms)).map V.str))->Rg (bo bs) nms.length r->E (.ref x) (some d) H'
theorem OutR.same {a:Adr} {nms:List Str} {bs:List (Option Nat)} {H H':Hp} {E:XK} (o:OutR a nms bs H E) (s:Same H H'):OutR a nms bs H' E:=λx d l H2 r z=>o x d l H2 r (s.trans z)
noncomputable def spUn7 (a:Adr):Sp:=λvs H Q E=>∃ (d t:Addr) (kvs:List (Key × V)) (nms:List Str) (bs:List (Option Nat)) (os:List Nat) (k:Nat),vs=[.str (nm nms k),.ref d,.ref t]/\H d=some (.dK kvs)/\H t=some (.lst ((os.map (nm nms)).map V.str))/\Wr nms bs/\(∀ j ∈ os,j < nms.length)/\k < nms.length/\DicOk kvs nms bs /\
 (∀ (q:Addr) (H':Hp) (is:List Nat) (o:Option Nat),H q=none->Same H H'->H' q=some (.lst ((is.map (nm nms)).map V.str))->Ch (bo bs) is o->is.Nodup->(∀ j ∈ is,j < nms.length/\j ∉ os)->(is ++ o.toList)[0]?=some k->(∀ j,o=some j->j ∈ os)->Q (.ref q) H')/\OutR a nms bs H E
theorem qm7 {nms:List Str} {os:List Nat} {j:Nat} (nd:nms.Nodup) (lt:∀ k ∈ os,k < nms.length) (hj:j < nms.length):(os.map (nm nms)).contains (nm nms j)=true ↔ j ∈ os:=by
 rw [Ck,AS]
 constructor
 .rintro ⟨k,hk,e⟩
  rw [<- qiu nd (lt k hk) hj e]; exact hk
 .exact λh=>⟨j,h,rfl⟩
theorem nm_ix {nms:List Str} {os:List Nat} {j:Nat} (nd:nms.Nodup) (lt:∀ k ∈ os,k < nms.length) (hj:j < nms.length) (ndo:os.Nodup) (h:j ∈ os):∃ i:Nat,os[i]?=some j/\(os.map (nm nms))[i]?=some (nm nms j)/\∀ m,m < i->(os.map (nm nms))[m]? ≠ some (nm nms j):=by
 obtain ⟨i,hi,e⟩:=List.getElem_of_mem h
 have e:os[i]?=some j:=by rw [Ag hi,e]
 refine ⟨i,e,by rw [Ak,e]; rfl,λm hm z => ?_⟩
 rw [Ak] at z
 cases em:os[m]? with
 | none=>rw [em] at z; cases z
 | some k =>
  rw [em] at z
  have:=qiu nd (lt k (Ap em)) hj (AG z)
  rw [this,<- e] at em
  have:=(List.getElem?_inj (by lia) ndo).mp em
  lia
noncomputable def Ru (C:Addr) (H:Hp) (v:V) (x:Str) (b:V):Prop:=∃ (p dx:Addr) (fs:List (Str × V)),v=.ref p/\H p=some (.ins C dx fs)/\fs.lookup (Aa "name")=some (.str x)/\fs.lookup (Aa "base")=some b
theorem Ru.keep {C:Addr} {H H':Hp} {v:V} {x:Str} {b:V} (h:Ru C H v x b) (k:KeepN H H'):Ru C H' v x b:=by
 obtain ⟨p,dx,fs,e,h1,h2⟩:=h
 exact ⟨p,dx,fs,e,k _ _ (λl z=>by cases z) h1,h2⟩
theorem Ru.same {C:Addr} {H H':Hp} {v:V} {x:Str} {b:V} (h:Ru C H v x b) (s:Same H H'):Ru C H' v x b:=h.keep (KeepN.of s)
noncomputable def Rus (C:Addr) (H:Hp) (us:List V) (nms:List Str) (bs:List (Option Nat)):Prop:=us.length=nms.length/\∀ (j:Nat) (y:V),us[j]?=some y->Ru C H y (nm nms j) (qhv nms (bo bs j))
noncomputable def spHa7 (a:Adr):Sp:=λvs H Q E=>∃ (pr:Addr) (us:List V) (nms:List Str) (bs:List (Option Nat)),vs=[.ref pr]/\H pr=some (.lst us)/\Rus a.cRule H us nms bs/\Wr nms bs /\
 (∀ (q:Addr) (H':Hp) (os:List Nat),H q=none->Same H H'->H' q=some (.lst ((os.map (nm nms)).map V.str))->os.Nodup->(∀ j ∈ os,j < nms.length)->Od (bo bs) os->(∀ j,j < nms.length->j ∈ os)->Q (.ref q) H')/\OutR a nms bs H E
theorem ch_hd {is:List Nat} {o:Option Nat} {k:Nat} {os:List Nat} (st:(is ++ o.toList)[0]?=some k) (ho:∀ j,o=some j->j ∈ os):k ∈ os ++ is.reverse:=by
 rw [A5,DC]
 cases is with
 | nil =>
  left
  cases o with
  | none=>cases st
  | some j=>exact ho k (by rw [<- show some j=some k from st])
 | cons j is =>
  right
  rw [<- show j=k from AG st]
  exact Aq
structure Ors (bs:List (Option Nat)) (n:Nat) (os:List Nat):Prop where
 nd:os.Nodup
 lt:∀ j ∈ os,j < n
 od:Od (bo bs) os
 al:∀ j,j < n->j ∈ os
open Wri
noncomputable abbrev ts (n:Int):Str:=Aa (toString n)
theorem le_0 (c:Nat):(!decide ((⟨#[c]⟩:Str).cps.toList < (Aa "0").cps.toList))=decide (48 <= c):=by
 have e:(Aa "0").cps.toList=[48]:=by decide +kernel
 rw [e]
 show (!decide ([c] < [48]))=decide (48 <= c)
 by_cases h:48 <= c
 .have n:¬ [c] < [48]:=by simp [BI]; lia
  simp [n,h]
 .have n:[c] < [48]:=by simp [BI]; lia
  simp [n,h]
theorem le_9 (c:Nat):(!decide ((Aa "9").cps.toList < (⟨#[c]⟩:Str).cps.toList))=decide (c <= 57):=by
 have e:(Aa "9").cps.toList=[57]:=by decide +kernel
 rw [e]
 show (!decide ([57] < [c]))=decide (c <= 57)
 by_cases h:c <= 57
 .have n:¬ [57] < [c]:=by simp [BI]; lia
  simp [n,h]
 .have n:[57] < [c]:=by simp [BI]; lia
  simp [n,h]
theorem qy5:Aa "0" = ⟨#[48]⟩:=by decide +kernel
theorem qw1 (x:Str):Txt.startswith x (Aa "0")=decide (x.cps.toList.head?=some 48):=by
 rw [qy5,List.head?_eq_getElem?]
 have:=StrLaws.subAt_one x 48 0
 unfold Txt.startswith
 rw [Cp,decide_eq_true_eq,<- this,AI,decide_eq_true_eq]
theorem nbF {b:Bool} (h:(!b)=true):b=false:=by cases b with | false=>rfl | true=>cases h
theorem nbT {b:Bool} (h:¬ (!b)=true):b=true:=by cases b with | true=>rfl | false=>exact absurd rfl h
noncomputable def spFig:Sp:=λvs H Q _=>∃ c:Nat,vs=[.str ⟨#[c]⟩]/\Q (.bl (fig c)) H
noncomputable def wnm (x:Str) (m:Int):Bool:=(decide (1 <= x.cps.size) && decide ((x.cps.size:Int) <= m)) && (x.cps.toList.all fig && Wri.plain x)
noncomputable def spWn:Sp:=λvs H Q _=>∃ (x:Str) (m:Int),vs=[.str x,.int m]/\x.length <= 100000/\∀ H',Same H H'->Q (.bl (wnm x m)) H'
theorem qy6 {n:Int} (k:Nat) (hk:(10:Nat) ^ k < 2 ^ 1920) (h0:0 <= n) (h:n < 10 ^ k):n.natAbs.log2 < 1920:=by
 by_cases z:n.natAbs=0
 .rw [z]; decide
 .rw [Nat.log2_lt z]
  have:n.natAbs < 10 ^ k:=by
   have e:((n.natAbs:Nat):Int)=n:=Int.natAbs_of_nonneg h0
   have:((n.natAbs:Nat):Int) < ((10 ^ k:Nat):Int):=by rw [e,Int.natCast_pow]; exact h
   exact Int.ofNat_lt.mp this
  exact Nat.lt_trans this hk
theorem qy7 {n:Int} {k:Nat} (h0:0 <= n) (hk:0 < k) (h:n < 10 ^ k):(ts n).length <= k:=PyProof.Rows.toString_length_le h0 hk h
noncomputable def due (x:Str) (m:Int):Bool:=wnm x ((ts m).length:Nat) && (decide (1 <= nv x) && decide (nv x <= m))
noncomputable def quy:Sp:=λvs H Q _=>∃ (x:Str) (m:Int),vs=[.str x,.int m]/\x.length <= 50000/\1 <= m/\m < 10 ^ 62/\(due x m=true->∀ H',Same H H'->Q (.int (nv x)) H')/\(due x m=false->∀ H',Same H H'->Q .non H')
noncomputable def low (c:Nat):Bool:=decide (97 <= c) && decide (c <= 122)
noncomputable def spLow:Sp:=λvs H Q _=>∃ c:Nat,vs=[.str ⟨#[c]⟩]/\Q (.bl (low c)) H
theorem le_a (c:Nat):(!decide ((⟨#[c]⟩:Str).cps.toList < (Aa "a").cps.toList))=decide (97 <= c):=by
 have e:(Aa "a").cps.toList=[97]:=by decide +kernel
 rw [e]
 show (!decide ([c] < [97]))=decide (97 <= c)
 by_cases h:97 <= c
 .have n:¬ [c] < [97]:=by simp [BI]; lia
  simp [n,h]
 .have n:[c] < [97]:=by simp [BI]; lia
  simp [n,h]
theorem le_z (c:Nat):(!decide ((Aa "z").cps.toList < (⟨#[c]⟩:Str).cps.toList))=decide (c <= 122):=by
 have e:(Aa "z").cps.toList=[122]:=by decide +kernel
 rw [e]
 show (!decide ([122] < [c]))=decide (c <= 122)
 by_cases h:c <= 122
 .have n:¬ [122] < [c]:=by simp [BI]; lia
  simp [n,h]
 .have n:[122] < [c]:=by simp [BI]; lia
  simp [n,h]
noncomputable def qa8 (x:Str):Prop:=1 <= x.cps.size/\x.cps.size <= 8/\x.cps.toList.all low=true
noncomputable abbrev wS (s:String):Str:=Aa s
theorem iteT' {c:Prop} [Decidable c] {A B:Prop} (h:c) (a:A):if c then A else B:=by rw [if_pos h]; exact a
theorem qoh:wS " " = ⟨#[32]⟩:=by decide +kernel
theorem qw2 {x:Str} (h:qa8 x) {c:Nat} (hc:c < 97):c ∉ x.cps.toList:=λz=>by
 have:=AZ.mp h.2.2 c z
 unfold low at this
 simp only [AI,decide_eq_true_eq] at this
 lia
noncomputable def qew (ls:List Str):Str:=DI ⟨#[10]⟩ ls
theorem qy8:wS "\n" = ⟨#[10]⟩:=by decide +kernel
noncomputable def qd1:Option Str->V
 | none=>.non
 | some y=>.str y
theorem iteF' {c:Prop} [Decidable c] {A B:Prop} (h:¬ c) (a:B):if c then A else B:=by rw [if_neg h]; exact a
theorem str_ext {x y:Str} (h:x.cps.toList=y.cps.toList):x=y:=by
 cases x; cases y
 simp only at h
 exact congrArg Str.mk (Array.toList_inj.mp h)
theorem qcy (x y:Str):(x ++ y).cps.toList=x.cps.toList ++ y.cps.toList:=by rw [CZ,DR]
theorem qy9 {L:List Nat} {n e:Nat} {t:Int} (hL:L.all low=true) (hn:n + 1 <= L.length) (h8:L.length <= 8) (k:Nat):qa8 (wdS L n e t k):=by
 have sg:low (sgn t e k)=true:=by
  unfold low sgn
  rw [decide_eq_true (show 97 <= 97 + _ by lia),decide_eq_true (show 97 + ((t + ((k / (1 + e):Nat):Int)) % 26).toNat <= 122 by lia)]; rfl
 have tk:∀ m,(L.take m).all low=true:=λm=>AZ.mpr λx hx=>AZ.mp hL x (BD hx)
 have dr:∀ m,(L.drop m).all low=true:=λm=>AZ.mpr λx hx=>AZ.mp hL x (DJ hx)
 unfold wdS
 split
 .refine ⟨?_,?_,?_⟩
  .show 1 <= (L.take n ++ [sgn t e k]).toArray.size
   rw [Av,Ai,B3]; lia
  .show (L.take n ++ [sgn t e k]).toArray.size <= 8
   rw [Av,Ai,B3,A2]; lia
  .show (L.take n ++ [sgn t e k]).all low=true
   rw [List.all_append,tk,CS,sg]; rfl
 .refine ⟨?_,?_,?_⟩
  .show 1 <= (wdL L n (sgn t e k)).toArray.size
   rw [Av]; unfold wdL; rw [Ai,An]; lia
  .show (wdL L n (sgn t e k)).toArray.size <= 8
   rw [Av]; unfold wdL; rw [Ai,An,A2,Bl]; lia
  .show (wdL L n (sgn t e k)).all low=true
   unfold wdL; rw [List.all_append,tk,CS,sg,dr]; rfl
noncomputable def spWo7:Sp:=λvs H Q _=>∃ (c:Int) (m:Nat),vs=[.int c,.int (m:Int)]/\(m <= 26 \/ (c % 2=1/\m <= 52))/\∀ (q:Addr) (H':Hp) (nms:List Str),H q=none->Same H H'->H' q=some (.lst (nms.map V.str))->nms.length=m->nms.Nodup->(∀ x ∈ nms,qa8 x)->Q (.ref q) H'
theorem low26 {j:Nat} (h:j < 26):low (97 + j)=true:=by
 unfold low
 rw [decide_eq_true (by lia),decide_eq_true (by lia)]; rfl
noncomputable abbrev rlF (nm w o op b m u s pe pa pl py:V):List (Str × V):=[(Aa "name",nm),(Aa "who",w),(Aa "owes",o),(Aa "opens",op),(Aa "base",b),(Aa "many",m),(Aa "unit",u),(Aa "still",s),(Aa "ends",pe),(Aa "anew",pa),(Aa "longer",pl),(Aa "yields",py)]
noncomputable abbrev rq1 (a1:V):List (Str × V):=[(Aa "name",a1)]
noncomputable abbrev rq2 (a1 a2:V):List (Str × V):=rq1 a1 ++ [(Aa "who",a2)]
noncomputable abbrev rq3 (a1 a2 a3:V):List (Str × V):=rq2 a1 a2 ++ [(Aa "owes",a3)]
noncomputable abbrev rq4 (a1 a2 a3 a4:V):List (Str × V):=rq3 a1 a2 a3 ++ [(Aa "opens",a4)]
noncomputable abbrev rq5 (a1 a2 a3 a4 a5:V):List (Str × V):=rq4 a1 a2 a3 a4 ++ [(Aa "base",a5)]
noncomputable abbrev rq6 (a1 a2 a3 a4 a5 a6:V):List (Str × V):=rq5 a1 a2 a3 a4 a5 ++ [(Aa "many",a6)]
noncomputable abbrev rq7 (a1 a2 a3 a4 a5 a6 a7:V):List (Str × V):=rq6 a1 a2 a3 a4 a5 a6 ++ [(Aa "unit",a7)]
noncomputable abbrev rq8 (a1 a2 a3 a4 a5 a6 a7 a8:V):List (Str × V):=rq7 a1 a2 a3 a4 a5 a6 a7 ++ [(Aa "still",a8)]
noncomputable abbrev rq9 (a1 a2 a3 a4 a5 a6 a7 a8 a9:V):List (Str × V):=rq8 a1 a2 a3 a4 a5 a6 a7 a8 ++ [(Aa "ends",a9)]
noncomputable abbrev qps (a1 a2 a3 a4 a5 a6 a7 a8 a9 a10:V):List (Str × V):=rq9 a1 a2 a3 a4 a5 a6 a7 a8 a9 ++ [(Aa "anew",a10)]
noncomputable abbrev qoi (a1 a2 a3 a4 a5 a6 a7 a8 a9 a10 a11:V):List (Str × V):=qps a1 a2 a3 a4 a5 a6 a7 a8 a9 a10 ++ [(Aa "longer",a11)]
noncomputable abbrev qpt (a1 a2 a3 a4 a5 a6 a7 a8 a9 a10 a11 a12:V):List (Str × V):=qoi a1 a2 a3 a4 a5 a6 a7 a8 a9 a10 a11 ++ [(Aa "yields",a12)]
noncomputable def qpu (r:Str × Int × Int):List V:=[.str r.1,.int r.2.1,.int r.2.2]
noncomputable def StAt (H:Hp) (v:V):Option (Str × Str)->Prop
 | none=>v=.non
 | some s=>∃ p,v=.ref p/\H p=some (.tup [.str s.1,.str s.2])
theorem StAt.same {H H':Hp} {v:V} {o:Option (Str × Str)} (h:StAt H v o) (z:Same H H'):StAt H' v o:=by
 cases o with
 | none=>exact h
 | some s=>obtain ⟨p,h1,h2⟩:=h; exact ⟨p,h1,z _ _ h2⟩
noncomputable def qw3 (K:Af) (f:Str):Sp:=λvs H Q _=>∃ (x C:Addr) (y:V) (ini:Option Value),vs=[.ref x,y]/\H x=some (exO x C none true)/\XA K C ini/\AK K (.ref C) f=some none /\
 ∀ (dx:Addr) (H':Hp),H dx=none->(∀ b o,b ≠ x->H b=some o->H' b=some o)->H' x=some (exO x C (some dx) true)->H' dx=some (exD dx [(f,y)])->Q .non H'
noncomputable def nmB (x:Str):Bool:=(decide (1 <= x.cps.size) && decide (x.cps.size <= 8)) && x.cps.toList.all low
theorem qc6 {x:Str}:nmB x=true ↔ qa8 x:=by
 unfold nmB qa8
 rw [AI,AI,decide_eq_true_eq,decide_eq_true_eq,and_assoc]
noncomputable def spNmG:Sp:=λvs H Q _=>∃ x:Str,vs=[.str x]/\x.length <= 2000/\∀ H',Same H H'->Q (.bl (nmB x)) H'
noncomputable def qb7:List Str:=[wS "days",wS "weeks",wS "court"]
inductive Ask where
 | num (m:Int)
 | name
 | unit
 | lit (c:Str)
noncomputable def askV:Ask->V
 | .num m=>.int m
 | .name=>.str (wS "NAME")
 | .unit=>.str (wS "UNIT")
 | .lit c=>.str c
noncomputable def quz:Ask->Prop
 | .num m=>1 <= m/\m < 10 ^ 62
 | .name=>True
 | .unit=>True
 | .lit c=>c ≠ wS "NAME" /\ c ≠ wS "UNIT"
noncomputable def qc9 (w:Str):Ask->Option V
 | .num m=>if due w m=true then some (.int (nv w)) else none
 | .name=>if nmB w=true then some (.str w) else none
 | .unit=>if qb7.contains w=true then some (.str w) else none
 | .lit c=>if w=c then some (.str w) else none
noncomputable def qza:Sp:=λvs H Q _=>∃ (w:Str) (q:Ask),vs=[.str w,askV q]/\quz q/\w.length <= 2000/\∀ H',Same H H'->Q ((qc9 w q).getD .non) H'
noncomputable def qca:List Str->List Ask->Option (List V)
 | [],[]=>some []
 | w :: ws,q :: qs=>(qc9 w q).bind λv=>(qca ws qs).map (v :: ·)
 | _,_=>none
noncomputable def qdm (d:Str):List Ask:=[.lit (wS "term"),.name,.lit (wS "of"),.name,.lit (wS "due"),.name,.lit d,.name,.num 40,.unit]
noncomputable def qkk:List (List Ask):=[qdm (wS "from"),qdm (wS "behind"),[.lit (wS "ends"),.name,.name],[.lit (wS "anew"),.name,.name],[.lit (wS "longer"),.name,.name,.num 20,.lit (wS "times"),.num 3],[.lit (wS "still"),.name,.name,.name],[.lit (wS "yields"),.name,.name]]
noncomputable def qhw (ws:List Str):Option (List V):=qkk.findSome? (qca ws)
noncomputable def zsG (ws:List Str) (f:List Ask):List V:=(ws.zip f).map λp=>(qc9 p.1 p.2).getD .non
theorem qw4 {ws:List Str} {f:List Ask} (h:ws.length=f.length):(zsG ws f).length=ws.length:=by
 unfold zsG; rw [Ab,List.length_zip,h,Nat.min_self]
theorem qma (w:Str) (q:Ask):qcr ((qc9 w q).getD .non)=true/\(qc9 w q=none->(qc9 w q).getD .non=.non)/\∀ v,qc9 w q=some v->eqV v .non=false:=by
 cases q <;> (unfold qc9; dsimp only; split <;> exact ⟨rfl,λz=>(by first | rfl | cases z),λv z=>by first | (cases z; rfl) | cases z⟩)
theorem qu0 (ws:List Str) (f:List Ask):(zsG ws f).all qcr=true:=by
 unfold zsG
 rw [CJ,AZ]
 exact λp _=>(qma p.1 p.2).1
theorem qq6:∀ {ws:List Str} {f:List Ask},ws.length=f.length->qca ws f=if inV .non (zsG ws f)=true then none else some (zsG ws f)
 | [],[],_=>rfl
 | w :: ws,q :: qs,h=>by
  have ih:=qq6 (ws:=ws) (f:=qs) (CK h)
  obtain ⟨_,h1,h2⟩:=qma w q
  have e:inV .non (zsG (w :: ws) (q :: qs))=(eqV ((qc9 w q).getD .non) .non || inV .non (zsG ws qs)):=by
   unfold inV zsG
   rw [List.zip_cons_cons,A4,Dk]
  rw [e]
  show (qc9 w q).bind (λv=>(qca ws qs).map (v :: ·))=_
  cases ev:qc9 w q with
  | none=>rfl
  | some v =>
   have:=h2 v ev
   show (qca ws qs).map (v :: ·)=if (eqV v .non || inV .non (zsG ws qs))=true then none else some (zsG (w :: ws) (q :: qs))
   rw [this,Bool.false_or,ih]
   have ez:zsG (w :: ws) (q :: qs)=v :: zsG ws qs:=by unfold zsG; rw [List.zip_cons_cons,A4,ev]; rfl
   rw [ez]
   split <;> rfl
theorem qaw:∀ {ws:List Str} {f:List Ask},ws.length ≠ f.length->qca ws f=none
 | [],[],h=>absurd rfl h
 | [],_ :: _,_=>rfl
 | _ :: _,[],_=>rfl
 | w :: ws,q :: qs,h=>by
  show (qc9 w q).bind (λv=>(qca ws qs).map (v :: ·))=none
  rw [qaw (λz=>h (by rw [An,An,z]))]
  cases qc9 w q <;> rfl
theorem qu1:∀ f ∈ qkk,∀ q ∈ f,quz q:=by
 have t:∀ d,d ≠ wS "NAME" -> d ≠ wS "UNIT" -> ∀ q ∈ qdm d,quz q:=λd h1 h2 q hq=>by
  simp only [qdm,Ao,At,or_false] at hq
  rcases hq with rfl | rfl | rfl | rfl | rfl | rfl | rfl | rfl | rfl | rfl
  all_goals first | trivial | exact ⟨h1,h2⟩ | exact ⟨by decide,by decide⟩ | exact ⟨by decide +kernel,by decide +kernel⟩
 intro f hf
 simp only [qkk,Ao,At,or_false] at hf
 rcases hf with rfl | rfl | rfl | rfl | rfl | rfl | rfl
 .exact t _ (by decide +kernel) (by decide +kernel)
 .exact t _ (by decide +kernel) (by decide +kernel)
 .intro q hq
  simp only [Ao,At,or_false] at hq
  rcases hq with rfl | rfl | rfl
  all_goals first | trivial | exact ⟨by decide,by decide⟩ | exact ⟨by decide +kernel,by decide +kernel⟩
 .intro q hq
  simp only [Ao,At,or_false] at hq
  rcases hq with rfl | rfl | rfl
  all_goals first | trivial | exact ⟨by decide,by decide⟩ | exact ⟨by decide +kernel,by decide +kernel⟩
 .intro q hq
  simp only [Ao,At,or_false] at hq
  rcases hq with rfl | rfl | rfl | rfl | rfl | rfl
  all_goals first | trivial | exact ⟨by decide,by decide⟩ | exact ⟨by decide +kernel,by decide +kernel⟩
 .intro q hq
  simp only [Ao,At,or_false] at hq
  rcases hq with rfl | rfl | rfl | rfl
  all_goals first | trivial | exact ⟨by decide,by decide⟩ | exact ⟨by decide +kernel,by decide +kernel⟩
 .intro q hq
  simp only [Ao,At,or_false] at hq
  rcases hq with rfl | rfl | rfl
  all_goals first | trivial | exact ⟨by decide,by decide⟩ | exact ⟨by decide +kernel,by decide +kernel⟩
noncomputable def qzb:Sp:=λvs H Q _=>∃ l:Str,vs=[.str l]/\l.length <= 1000/\(∀ (q:Addr) (H':Hp) (us:List V),H q=none->Same H H'->qhw (BY l (wS " "))=some us->H' q=some (.lst us)->Q (.ref q) H')/\(qhw (BY l (wS " "))=none->∀ H',Same H H'->Q .non H')
inductive Rw7 where
 | term (x w o:Str) (d:Bool) (y:Str) (m:Int) (u:Str)
 | ends (x k:Str)
 | anew (x k:Str)
 | longer (x k:Str) (u t:Int)
 | still (x k l:Str)
 | yields (x y:Str)
noncomputable def fbS (d:Bool):Str:=if d=true then wS "behind" else wS "from"
noncomputable def qco:Rw7->List V
 | .term x w o d y m u=>[.str (wS "term"),.str x,.str (wS "of"),.str w,.str (wS "due"),.str o,.str (fbS d),.str y,.int m,.str u]
 | .ends x k=>[.str (wS "ends"),.str x,.str k]
 | .anew x k=>[.str (wS "anew"),.str x,.str k]
 | .longer x k u t=>[.str (wS "longer"),.str x,.str k,.int u,.str (wS "times"),.int t]
 | .still x k l=>[.str (wS "still"),.str x,.str k,.str l]
 | .yields x y=>[.str (wS "yields"),.str x,.str y]
noncomputable def qgg:List Str->Option Rw7
 | [a,x,b,w,c,o,d,y,m,u]=>if a=wS "term" /\ nmB x=true/\b=wS "of" /\ nmB w=true/\c=wS "due" /\ nmB o=true/\(d=wS "from" \/ d=wS "behind")/\nmB y=true/\due m 40=true/\qb7.contains u=true then some (.term x w o (decide (d=wS "behind")) y (nv m) u) else none
 | [a,x,k]=>if nmB x=true/\nmB k=true then (if a=wS "ends" then some (.ends x k) else if a=wS "anew" then some (.anew x k) else if a=wS "yields" then some (.yields x k) else none) else none
 | [a,x,k,u,t,n]=>if a=wS "longer" /\ nmB x=true/\nmB k=true/\due u 20=true/\t=wS "times" /\ due n 3=true then some (.longer x k (nv u) (nv n)) else none
 | [a,x,k,l]=>if a=wS "still" /\ nmB x=true/\nmB k=true/\nmB l=true then some (.still x k l) else none
 | _=>none
theorem qq7 {α β:Type} {g:α->Option β}:∀ {l:List α} {i:Nat} {x:α} {y:β},l[i]?=some x->g x=some y->(∀ j z,j < i->l[j]?=some z->g z=none)->l.findSome? g=some y
 | [],i,_,_,h,_,_=>by cases i <;> cases h
 | z :: l,0,x,y,h,e,_=>by
  cases h
  rw [DS,e]
 | z :: l,i + 1,x,y,h,e,al=>by
  rw [DS,al 0 z (DY _) rfl]
  exact qq7 (l:=l) (i:=i) h e λj w hj hw=>al (j + 1) w (Nat.succ_lt_succ hj) hw
theorem qi1 {w c:Str} (h:w=c):qc9 w (.lit c)=some (.str w):=if_pos h
theorem qi2 {w c:Str} (h:¬ w=c):qc9 w (.lit c)=none:=if_neg h
theorem qes {w:Str} (h:nmB w=true):qc9 w .name=some (.str w):=if_pos h
theorem qet {w:Str} (h:¬ nmB w=true):qc9 w .name=none:=if_neg h
theorem qu2 {w:Str} {m:Int} (h:due w m=true):qc9 w (.num m)=some (.int (nv w)):=if_pos h
theorem qu3 {w:Str} {m:Int} (h:¬ due w m=true):qc9 w (.num m)=none:=if_neg h
theorem unit_t {w:Str} (h:qb7.contains w=true):qc9 w .unit=some (.str w):=if_pos h
theorem unit_f {w:Str} (h:¬ qb7.contains w=true):qc9 w .unit=none:=if_neg h
theorem qbp {w:Str} {q:Ask} {v:V} {ws:List Str} {qs:List Ask} {vs:List V} (h:qc9 w q=some v) (t:qca ws qs=some vs):qca (w :: ws) (q :: qs)=some (v :: vs):=by
 show (qc9 w q).bind (λv=>(qca ws qs).map (v :: ·))=_
 rw [h,t]; rfl
theorem qbq {w:Str} {q:Ask} {ws:List Str} {qs:List Ask} (h:qc9 w q=none):qca (w :: ws) (q :: qs)=none:=by
 show (qc9 w q).bind (λv=>(qca ws qs).map (v :: ·))=_
 rw [h]; rfl
theorem qaf {w:Str} {q:Ask} {ws:List Str} {qs:List Ask} (t:qca ws qs=none):qca (w :: ws) (q :: qs)=none:=by
 show (qc9 w q).bind (λv=>(qca ws qs).map (v :: ·))=_
 rw [t]; cases qc9 w q <;> rfl
theorem qmb {a x b w c o d y m u e:Str}:qca [a,x,b,w,c,o,d,y,m,u] (qdm e)=if a=wS "term" /\ nmB x=true/\b=wS "of" /\ nmB w=true/\c=wS "due" /\ nmB o=true/\d=e/\nmB y=true/\due m 40=true/\qb7.contains u=true then some [.str a,.str x,.str b,.str w,.str c,.str o,.str d,.str y,.int (nv m),.str u] else none:=by
 unfold qdm
 by_cases h0:a=wS "term"
 .by_cases h1:nmB x=true
  .by_cases h2:b=wS "of"
   .by_cases h3:nmB w=true
    .by_cases h4:c=wS "due"
     .by_cases h5:nmB o=true
      .by_cases h6:d=e
       .by_cases h7:nmB y=true
        .by_cases h8:due m 40=true
         .by_cases h9:qb7.contains u=true
          .rw [if_pos ⟨h0,h1,h2,h3,h4,h5,h6,h7,h8,h9⟩]
           exact qbp (qi1 h0) (qbp (qes h1) (qbp (qi1 h2) (qbp (qes h3) (qbp (qi1 h4) (qbp (qes h5) (qbp (qi1 h6) (qbp (qes h7) (qbp (qu2 h8) (qbp (unit_t h9) rfl)))))))))
          .rw [if_neg λz=>h9 z.2.2.2.2.2.2.2.2.2]
           exact qaf (qaf (qaf (qaf (qaf (qaf (qaf (qaf (qaf (qbq (unit_f h9))))))))))
         .rw [if_neg λz=>h8 z.2.2.2.2.2.2.2.2.1]
          exact qaf (qaf (qaf (qaf (qaf (qaf (qaf (qaf (qbq (qu3 h8)))))))))
        .rw [if_neg λz=>h7 z.2.2.2.2.2.2.2.1]
         exact qaf (qaf (qaf (qaf (qaf (qaf (qaf (qbq (qet h7))))))))
       .rw [if_neg λz=>h6 z.2.2.2.2.2.2.1]
        exact qaf (qaf (qaf (qaf (qaf (qaf (qbq (qi2 h6)))))))
      .rw [if_neg λz=>h5 z.2.2.2.2.2.1]
       exact qaf (qaf (qaf (qaf (qaf (qbq (qet h5))))))
     .rw [if_neg λz=>h4 z.2.2.2.2.1]
      exact qaf (qaf (qaf (qaf (qbq (qi2 h4)))))
    .rw [if_neg λz=>h3 z.2.2.2.1]
     exact qaf (qaf (qaf (qbq (qet h3))))
   .rw [if_neg λz=>h2 z.2.2.1]
    exact qaf (qaf (qbq (qi2 h2)))
  .rw [if_neg λz=>h1 z.2.1]
   exact qaf (qbq (qet h1))
 .rw [if_neg λz=>h0 z.1]
  exact qbq (qi2 h0)
theorem qpv {a x k e:Str}:qca [a,x,k] [.lit e,.name,.name]=if a=e/\nmB x=true/\nmB k=true then some [.str a,.str x,.str k] else none:=by
 by_cases h0:a=e
 .by_cases h1:nmB x=true
  .by_cases h2:nmB k=true
   .rw [if_pos ⟨h0,h1,h2⟩]
    exact qbp (qi1 h0) (qbp (qes h1) (qbp (qes h2) rfl))
   .rw [if_neg λz=>h2 z.2.2]
    exact qaf (qaf (qbq (qet h2)))
  .rw [if_neg λz=>h1 z.2.1]
   exact qaf (qbq (qet h1))
 .rw [if_neg λz=>h0 z.1]
  exact qbq (qi2 h0)
theorem vals_4 {a x k l e:Str}:qca [a,x,k,l] [.lit e,.name,.name,.name]=if a=e/\nmB x=true/\nmB k=true/\nmB l=true then some [.str a,.str x,.str k,.str l] else none:=by
 by_cases h0:a=e
 .by_cases h1:nmB x=true
  .by_cases h2:nmB k=true
   .by_cases h3:nmB l=true
    .rw [if_pos ⟨h0,h1,h2,h3⟩]
     exact qbp (qi1 h0) (qbp (qes h1) (qbp (qes h2) (qbp (qes h3) rfl)))
    .rw [if_neg λz=>h3 z.2.2.2]
     exact qaf (qaf (qaf (qbq (qet h3))))
   .rw [if_neg λz=>h2 z.2.2.1]
    exact qaf (qaf (qbq (qet h2)))
  .rw [if_neg λz=>h1 z.2.1]
   exact qaf (qbq (qet h1))
 .rw [if_neg λz=>h0 z.1]
  exact qbq (qi2 h0)
theorem vals_6 {a x k u t n:Str}:qca [a,x,k,u,t,n] [.lit (wS "longer"),.name,.name,.num 20,.lit (wS "times"),.num 3]=if a=wS "longer" /\ nmB x=true/\nmB k=true/\due u 20=true/\t=wS "times" /\ due n 3=true then some [.str a,.str x,.str k,.int (nv u),.str t,.int (nv n)] else none:=by
 by_cases h0:a=wS "longer"
 .by_cases h1:nmB x=true
  .by_cases h2:nmB k=true
   .by_cases h3:due u 20=true
    .by_cases h4:t=wS "times"
     .by_cases h5:due n 3=true
      .rw [if_pos ⟨h0,h1,h2,h3,h4,h5⟩]
       exact qbp (qi1 h0) (qbp (qes h1) (qbp (qes h2) (qbp (qu2 h3) (qbp (qi1 h4) (qbp (qu2 h5) rfl)))))
      .rw [if_neg λz=>h5 z.2.2.2.2.2]
       exact qaf (qaf (qaf (qaf (qaf (qbq (qu3 h5))))))
     .rw [if_neg λz=>h4 z.2.2.2.2.1]
      exact qaf (qaf (qaf (qaf (qbq (qi2 h4)))))
    .rw [if_neg λz=>h3 z.2.2.2.1]
     exact qaf (qaf (qaf (qbq (qu3 h3))))
   .rw [if_neg λz=>h2 z.2.2.1]
    exact qaf (qaf (qbq (qet h2)))
  .rw [if_neg λz=>h1 z.2.1]
   exact qaf (qbq (qet h1))
 .rw [if_neg λz=>h0 z.1]
  exact qbq (qi2 h0)
theorem qhx (ws:List Str):qhw ws=(qca ws (qdm (wS "from"))).or ((qca ws (qdm (wS "behind"))).or ((qca ws [.lit (wS "ends"),.name,.name]).or ((qca ws [.lit (wS "anew"),.name,.name]).or ((qca ws [.lit (wS "longer"),.name,.name,.num 20,.lit (wS "times"),.num 3]).or ((qca ws [.lit (wS "still"),.name,.name,.name]).or (qca ws [.lit (wS "yields"),.name,.name])))))):=by
 unfold qhw qkk
 simp only [DS,List.findSome?_nil]
 cases qca ws (qdm (wS "from")) with
 | some v=>rfl
 | none =>
  cases qca ws (qdm (wS "behind")) with
  | some v=>rfl
  | none =>
   cases qca ws [.lit (wS "ends"),.name,.name] with
   | some v=>rfl
   | none =>
    cases qca ws [.lit (wS "anew"),.name,.name] with
    | some v=>rfl
    | none =>
     cases qca ws [.lit (wS "longer"),.name,.name,.num 20,.lit (wS "times"),.num 3] with
     | some v=>rfl
     | none =>
      cases qca ws [.lit (wS "still"),.name,.name,.name] with
      | some v=>rfl
      | none=>cases qca ws [.lit (wS "yields"),.name,.name] <;> rfl
theorem qd2 {ws:List Str} (h:ws.length ≠ 10/\ws.length ≠ 3/\ws.length ≠ 6/\ws.length ≠ 4):qhw ws=none:=by
 rw [qhx,qaw (f:=qdm (wS "from")) h.1,qaw (f:=qdm (wS "behind")) h.1,qaw (f:=[.lit (wS "ends"),.name,.name]) h.2.1,qaw (f:=[.lit (wS "anew"),.name,.name]) h.2.1,qaw (f:=[.lit (wS "longer"),.name,.name,.num 20,.lit (wS "times"),.num 3]) h.2.2.1,qaw (f:=[.lit (wS "still"),.name,.name,.name]) h.2.2.2,qaw (f:=[.lit (wS "yields"),.name,.name]) h.2.1]
 rfl
theorem qq8 (a x b w c o d y m u:Str):qgg [a,x,b,w,c,o,d,y,m,u]=if a=wS "term" /\ nmB x=true/\b=wS "of" /\ nmB w=true/\c=wS "due" /\ nmB o=true/\(d=wS "from" \/ d=wS "behind")/\nmB y=true/\due m 40=true/\qb7.contains u=true then some (.term x w o (decide (d=wS "behind")) y (nv m) u) else none:=rfl
theorem qm8 (a x k:Str):qgg [a,x,k]=if nmB x=true/\nmB k=true then (if a=wS "ends" then some (.ends x k) else if a=wS "anew" then some (.anew x k) else if a=wS "yields" then some (.yields x k) else none) else none:=rfl
theorem qu4 (a x k u t n:Str):qgg [a,x,k,u,t,n]=if a=wS "longer" /\ nmB x=true/\nmB k=true/\due u 20=true/\t=wS "times" /\ due n 3=true then some (.longer x k (nv u) (nv n)) else none:=rfl
theorem qu5 (a x k l:Str):qgg [a,x,k,l]=if a=wS "still" /\ nmB x=true/\nmB k=true/\nmB l=true then some (.still x k l) else none:=rfl
theorem qw5 {a x b w c o d y m u:Str}:qhw [a,x,b,w,c,o,d,y,m,u]=(qgg [a,x,b,w,c,o,d,y,m,u]).map qco:=by
 have l:([a,x,b,w,c,o,d,y,m,u]:List Str).length=10:=rfl
 rw [qhx,qmb,qmb,qaw (f:=[.lit (wS "ends"),.name,.name]) (by rw [l]; decide),qaw (f:=[.lit (wS "anew"),.name,.name]) (by rw [l]; decide),qaw (f:=[.lit (wS "longer"),.name,.name,.num 20,.lit (wS "times"),.num 3]) (by rw [l]; decide),qaw (f:=[.lit (wS "still"),.name,.name,.name]) (by rw [l]; decide),qaw (f:=[.lit (wS "yields"),.name,.name]) (by rw [l]; decide)]
 rw [qq8]
 have nb:wS "from" ≠ wS "behind" := by decide +kernel
 by_cases h1:a=wS "term" /\ nmB x=true/\b=wS "of" /\ nmB w=true/\c=wS "due" /\ nmB o=true/\d=wS "from" /\ nmB y=true/\due m 40=true/\qb7.contains u=true
 .obtain ⟨h0,h1,h2,h3,h4,h5,h6,h7⟩:=h1
  rw [if_pos ⟨h0,h1,h2,h3,h4,h5,h6,h7⟩,if_neg (λz=>nb (h6.symm.trans z.2.2.2.2.2.2.1)),if_pos ⟨h0,h1,h2,h3,h4,h5,.inl h6,h7⟩]
  subst h0 h2 h4 h6
  rw [decide_eq_false nb]
  rfl
 .rw [if_neg h1]
  by_cases h2:a=wS "term" /\ nmB x=true/\b=wS "of" /\ nmB w=true/\c=wS "due" /\ nmB o=true/\d=wS "behind" /\ nmB y=true/\due m 40=true/\qb7.contains u=true
  .obtain ⟨h0,h1,h2,h3,h4,h5,h6,h7⟩:=h2
   rw [if_pos ⟨h0,h1,h2,h3,h4,h5,h6,h7⟩,if_pos ⟨h0,h1,h2,h3,h4,h5,.inr h6,h7⟩]
   subst h0 h2 h4 h6
   rw [decide_eq_true rfl]
   rfl
  .rw [if_neg h2,if_neg λz=>by
    obtain ⟨g0,g1,g2,g3,g4,g5,g6,g7⟩:=z
    rcases g6 with g6 | g6
    .exact h1 ⟨g0,g1,g2,g3,g4,g5,g6,g7⟩
    .exact h2 ⟨g0,g1,g2,g3,g4,g5,g6,g7⟩]
   rfl
theorem rowV_3 {a x k:Str}:qhw [a,x,k]=(qgg [a,x,k]).map qco:=by
 have l:([a,x,k]:List Str).length=3:=rfl
 rw [qhx,qaw (f:=qdm (wS "from")) (by rw [l]; decide),qaw (f:=qdm (wS "behind")) (by rw [l]; decide),qpv,qpv,qaw (f:=[.lit (wS "longer"),.name,.name,.num 20,.lit (wS "times"),.num 3]) (by rw [l]; decide),qaw (f:=[.lit (wS "still"),.name,.name,.name]) (by rw [l]; decide),qpv]
 rw [qm8]
 by_cases h:nmB x=true/\nmB k=true
 .rw [if_pos h]
  by_cases h1:a=wS "ends"
  .rw [if_pos ⟨h1,h⟩,if_pos h1]
   subst h1; rfl
  .rw [if_neg (λz=>h1 z.1),if_neg h1]
   by_cases h2:a=wS "anew"
   .rw [if_pos ⟨h2,h⟩,if_pos h2]
    subst h2; rfl
   .rw [if_neg (λz=>h2 z.1),if_neg h2]
    by_cases h3:a=wS "yields"
    .rw [if_pos ⟨h3,h⟩,if_pos h3]
     subst h3; rfl
    .rw [if_neg (λz=>h3 z.1),if_neg h3]
     rfl
 .rw [if_neg h,if_neg (λz=>h z.2),if_neg (λz=>h z.2),if_neg (λz=>h z.2)]
  rfl
theorem rowV_4 {a x k e:Str}:qhw [a,x,k,e]=(qgg [a,x,k,e]).map qco:=by
 have l:([a,x,k,e]:List Str).length=4:=rfl
 rw [qhx,qaw (f:=qdm (wS "from")) (by rw [l]; decide),qaw (f:=qdm (wS "behind")) (by rw [l]; decide),qaw (f:=[.lit (wS "ends"),.name,.name]) (by rw [l]; decide),qaw (f:=[.lit (wS "anew"),.name,.name]) (by rw [l]; decide),qaw (f:=[.lit (wS "longer"),.name,.name,.num 20,.lit (wS "times"),.num 3]) (by rw [l]; decide),vals_4,qaw (f:=[.lit (wS "yields"),.name,.name]) (by rw [l]; decide)]
 rw [qu5]
 by_cases h:a=wS "still" /\ nmB x=true/\nmB k=true/\nmB e=true
 .rw [if_pos h,if_pos h]
  obtain ⟨h0,_⟩:=h
  subst h0; rfl
 .rw [if_neg h,if_neg h]
  rfl
theorem rowV_6 {a x k u t n:Str}:qhw [a,x,k,u,t,n]=(qgg [a,x,k,u,t,n]).map qco:=by
 have l:([a,x,k,u,t,n]:List Str).length=6:=rfl
 rw [qhx,qaw (f:=qdm (wS "from")) (by rw [l]; decide),qaw (f:=qdm (wS "behind")) (by rw [l]; decide),qaw (f:=[.lit (wS "ends"),.name,.name]) (by rw [l]; decide),qaw (f:=[.lit (wS "anew"),.name,.name]) (by rw [l]; decide),vals_6,qaw (f:=[.lit (wS "still"),.name,.name,.name]) (by rw [l]; decide),qaw (f:=[.lit (wS "yields"),.name,.name]) (by rw [l]; decide)]
 rw [qu4]
 by_cases h:a=wS "longer" /\ nmB x=true/\nmB k=true/\due u 20=true/\t=wS "times" /\ due n 3=true
 .rw [if_pos h,if_pos h]
  obtain ⟨h0,_,_,_,h4,_⟩:=h
  subst h0 h4; rfl
 .rw [if_neg h,if_neg h]
  rfl
theorem rowV_R:∀ ws:List Str,qhw ws=(qgg ws).map qco
 | [a,x,b,w,c,o,d,y,m,u]=>qw5
 | [a,x,k]=>rowV_3
 | [a,x,k,u,t,n]=>rowV_6
 | [a,x,k,l]=>rowV_4
 | []=>qd2 (by simp)
 | [_]=>qd2 (by simp)
 | [_,_]=>qd2 (by simp)
 | [_,_,_,_,_]=>qd2 (by simp)
 | [_,_,_,_,_,_,_]=>qd2 (by simp)
 | [_,_,_,_,_,_,_,_]=>qd2 (by simp)
 | [_,_,_,_,_,_,_,_,_]=>qd2 (by simp)
 | _ :: _ :: _ :: _ :: _ :: _ :: _ :: _ :: _ :: _ :: _ :: r=>qd2 (by simp only [An]; lia)
structure RR where
 name:Str
 who:Str
 owes:Str
 opens:Option Str
 base:Option Str
 many:Int
 unit:Str
 ends:List Str
 anew:List Str
 longer:List (Str × Int × Int)
 still:Option (Str × Str)
 yields:List Str
noncomputable def r0:RR:=⟨wS "",wS "",wS "",none,none,0,wS "",[],[],[],none,[]⟩
noncomputable def stL:Option (Str × Str)->List Str
 | none=>[]
 | some s=>[s.1,s.2]
noncomputable def qav (r:RR):List Str:=([r.owes] ++ r.ends ++ r.anew ++ r.longer.map (·.1)) ++ r.opens.toList ++ stL r.still
inductive Er where
 | rule (i:Nat)
 | term (x:Str)
 | twice (x:Str)
 | unfit (i:Nat)
noncomputable def qar:List RR->Str->Option Nat
 | [],_=>none
 | r :: rs,x=>if r.name=x then some 0 else (qar rs x).map (· + 1)
noncomputable def kin:Rw7->List Str
 | .term _ _ _ _ _ _ _=>[]
 | .ends _ k=>[k]
 | .anew _ k=>[k]
 | .longer _ k _ _=>[k]
 | .still _ k l=>[k,l]
 | .yields _ _=>[]
noncomputable def qoj (r:RR):Rw7->Bool
 | .still _ k l=>r.still.isSome || decide (k=l)
 | .longer _ _ _ _=>decide (r.longer.length=2)
 | _=>false
noncomputable def qg1 (r:RR) (row:Rw7):Bool:=((kin row).any λk=>(qav r).contains k) || qoj r row
noncomputable def qc5 (r:RR):Rw7->RR
 | .ends _ k=>{ r with ends:=r.ends ++ [k] }
 | .anew _ k=>{ r with anew:=r.anew ++ [k] }
 | .longer _ k u t=>{ r with longer:=r.longer ++ [(k,u,t)] }
 | .still _ k l=>{ r with still:=some (k,l) }
 | _=>r
noncomputable def qm9 (x w o:Str) (d:Bool) (y:Str) (m:Int) (u:Str):RR:=⟨x,w,o,if d=true then none else some y,if d=true then some y else none,m,u,[],[],[],none,[]⟩
noncomputable def qan:Rw7->Str
 | .term x _ _ _ _ _ _=>x
 | .ends x _=>x
 | .anew x _=>x
 | .longer x _ _ _=>x
 | .still x _ _=>x
 | .yields x _=>x
noncomputable def isT:Rw7->Bool
 | .term _ _ _ _ _ _ _=>true
 | _=>false
noncomputable def qe8 (rs:List RR) (i:Nat) (x w o:Str) (d:Bool) (y:Str) (m:Int) (u:Str):Except Er (List RR) :=
 if (qar rs x).isSome=true then .error (.twice x) else if rs.length=6 \/ (d=false/\o=y) then .error (.unfit i) else .ok (rs ++ [qm9 x w o d y m u])
noncomputable def qi3 (rs:List RR) (i:Nat) (row:Rw7):Except Er (List RR) :=
 match qar rs (qan row) with
 | none=>.error (.term (qan row))
 | some j=>if qg1 (rs.getD j r0) row=true then .error (.unfit i) else .ok (rs.set j (qc5 (rs.getD j r0) row))
noncomputable def qcf (rs:List RR) (i:Nat):Rw7->Except Er (List RR)
 | .term x w o d y m u=>qe8 rs i x w o d y m u
 | row=>qi3 rs i row
noncomputable def qdi (rs:List RR) (i j:Nat) (y:Str):Except Er (List RR) :=
 match qar rs y with
 | none=>.error (.term y)
 | some l=>if y=(rs.getD j r0).name \/ y ∈ (rs.getD j r0).yields \/ (rs.getD l r0).owes ≠ (rs.getD j r0).owes then .error (.unfit i) else .ok (rs.set j { rs.getD j r0 with yields:=(rs.getD j r0).yields ++ [y] })
noncomputable def qcp (rs:List RR) (i:Nat):Rw7->Except Er (List RR)
 | .term x _ _ _ _ _ _=>match qar rs x with
  | none=>.ok rs
  | some j=>match (rs.getD j r0).base with
   | none=>.ok rs
   | some y=>if (qar rs y).isSome=true then .ok rs else .error (.term y)
 | .yields x y=>match qar rs x with
  | none=>.ok rs
  | some j=>qdi rs i j y
 | _=>.ok rs
structure RA where
 p:Addr
 dx:Addr
 pe:Addr
 pa:Addr
 pl:Addr
 py:Addr
noncomputable def own (A:RA):List Addr:=[A.p,A.pe,A.pa,A.pl,A.py]
noncomputable def KeepT (S:List Addr) (H H':Hp):Prop:=∀ b o,(b ∉ S \/ ∃ t,o=.tup t)->H b=some o->H' b=some o
theorem KeepT.of {S:List Addr} {H H':Hp} (s:Same H H'):KeepT S H H':=λb o _ e=>s b o e
theorem KeepT.trans {S:List Addr} {H H1 H2:Hp} (a:KeepT S H H1) (b:KeepT S H1 H2):KeepT S H H2:=λc o n e=>b c o n (a c o n e)
theorem KeepT.sub {S S':List Addr} {H H':Hp} (a:KeepT S H H') (h:∀ z ∈ S,z ∈ S'):KeepT S' H H':=λc o n e=>a c o (n.imp (λm z=>m (h c z)) id) e
theorem KeepT.put {S:List Addr} {H:Hp} {z:Addr} {o o':HO} (hz:z ∈ S) (e:H z=some o) (nt:∀ t,o ≠ .tup t):KeepT S H (upd H z o'):=λb u n h=>by
 have ne:b ≠ z:=λq=>by
  rcases n with n | ⟨t,rfl⟩
  .exact n (q ▸ hz)
  .rw [q,e] at h; injection h with h; exact nt t h
 rw [zf ne]; exact h
theorem StAt.keep {S:List Addr} {H H':Hp} {v:V} {o:Option (Str × Str)} (h:StAt H v o) (k:KeepT S H H'):StAt H' v o:=by
 cases o with
 | none=>exact h
 | some s=>obtain ⟨p,h1,h2⟩:=h; exact ⟨p,h1,k _ _ (.inr ⟨_,rfl⟩) h2⟩
theorem qbs {S:List Addr} {H H':Hp} {us:List V} {ts:List (List V)} (t:Tups H us ts) (k:KeepT S H H'):Tups H' us ts:=by
 induction t with
 | nil=>exact .nil
 | cons h _ ih=>exact .cons (k _ _ (.inr ⟨_,rfl⟩) h) ih
noncomputable abbrev rlR (A:RA) (r:RR) (v:V):List (Str × V):=rlF (.str r.name) (.str r.who) (.str r.owes) (qd1 r.opens) (qd1 r.base) (.int r.many) (.str r.unit) v (.ref A.pe) (.ref A.pa) (.ref A.pl) (.ref A.py)
structure RuY (C:Addr) (H:Hp) (A:RA) (r:RR) (v:V) (us:List V):Prop where
 hx:H A.p=some (.ins C A.dx (rlR A r v))
 hs:StAt H v r.still
 he:H A.pe=some (.lst (r.ends.map V.str))
 ha:H A.pa=some (.lst (r.anew.map V.str))
 hl:H A.pl=some (.lst us)
 tl:Tups H us (r.longer.map qpu)
 hy:H A.py=some (.lst (r.yields.map V.str))
noncomputable def RuX (C:Addr) (H:Hp) (A:RA) (r:RR):Prop:=∃ v us,RuY C H A r v us
theorem RuX.keep {C:Addr} {S:List Addr} {H H':Hp} {A:RA} {r:RR} (h:RuX C H A r) (k:KeepT S H H') (n:∀ z ∈ own A,z ∉ S):RuX C H' A r:=by
 obtain ⟨v,us,h⟩:=h
 exact ⟨v,us,k _ _ (.inl (n _ (by simp [own]))) h.hx,h.hs.keep k,k _ _ (.inl (n _ (by simp [own]))) h.he,k _ _ (.inl (n _ (by simp [own]))) h.ha,k _ _ (.inl (n _ (by simp [own]))) h.hl,qbs h.tl k,k _ _ (.inl (n _ (by simp [own]))) h.hy⟩
theorem RuX.same {C:Addr} {H H':Hp} {A:RA} {r:RR} (h:RuX C H A r) (s:Same H H'):RuX C H' A r:=h.keep (S:=[]) (KeepT.of s) (λ_ _=>At)
noncomputable def dcR:List RR->List RA->List (Key × V)
 | r :: rs,A :: As=>(.inr r.name,.ref A.p) :: dcR rs As
 | _,_=>[]
structure Sta (C:Addr) (H:Hp) (d:Addr) (rs:List RR) (As:List RA):Prop where
 hd:H d=some (.dK (dcR rs As))
 ln:As.length=rs.length
 nd:(d :: As.flatMap own).Nodup
 nn:(rs.map RR.name).Nodup
 ru:∀ (i:Nat) (r:RR) (A:RA),rs[i]?=some r->As[i]?=some A->RuX C H A r
theorem qb8 (r:RR) (rs:List RR) (x:Str):qar (r :: rs) x=if r.name=x then some 0 else (qar rs x).map (· + 1):=rfl
theorem qgx:∀ {rs:List RR} {As:List RA} (x:Str),As.length=rs.length->qdn (dcR rs As) (.inr x)=(qar rs x).bind λj=>(As[j]?).map λA=>.ref A.p
 | [],[],_,_=>rfl
 | r :: rs,A :: As,x,h=>by
  show qdn ((C8 r.name,V.ref A.p) :: dcR rs As) (.inr x)=_
  by_cases c:r.name=x
  .rw [qcg (by show (C8 r.name:Key)=_; rw [c])]
   rw [qb8,if_pos c]
   rfl
  .rw [qch (λz=>c (C8.inj z)),qgx x (CK h)]
   rw [qb8,if_neg c]
   cases qar rs x <;> rfl
theorem qjm:∀ {rs:List RR} {As:List RA},As.length=rs.length->(dcR rs As).length=rs.length
 | [],[],_=>rfl
 | r :: rs,A :: As,h=>by
  show (dcR rs As).length + 1=_
  rw [qjm (CK h)]; rfl
theorem qkl:∀ {rs:List RR} {As:List RA} (r:RR) (A:RA),As.length=rs.length->dcR (rs ++ [r]) (As ++ [A])=dcR rs As ++ [(.inr r.name,.ref A.p)]
 | [],[],_,_,_=>rfl
 | r' :: rs,A' :: As,r,A,h=>by
  show (C8 r'.name,V.ref A'.p) :: dcR (rs ++ [r]) (As ++ [A])=_
  rw [qkl r A (CK h)]; rfl
theorem qq9:∀ {rs:List RR} {As:List RA} (j:Nat) (r:RR),(∀ s,rs[j]?=some s->s.name=r.name)->dcR (rs.set j r) As=dcR rs As
 | [],_,_,_,_=>rfl
 | r' :: rs,[],j,r,_=>by cases j <;> rfl
 | r' :: rs,A :: As,0,r,h=>by
  show (C8 r.name,V.ref A.p) :: dcR rs As=(C8 r'.name,V.ref A.p) :: dcR rs As
  rw [h r' rfl]
 | r' :: rs,A :: As,j + 1,r,h=>by
  show (C8 r'.name,V.ref A.p) :: dcR (rs.set j r) As=_
  rw [qq9 j r (λs e=>h s e)]; rfl
theorem qok:∀ {rs:List RR} {As:List RA},As.length=rs.length->(dcR rs As).map (·.2)=As.map λA=>.ref A.p
 | [],[],_=>rfl
 | r :: rs,A :: As,h=>by
  show V.ref A.p :: (dcR rs As).map (·.2)=_
  rw [qok (CK h)]; rfl
theorem qol:∀ {rs:List RR} {As:List RA},As.length=rs.length->(dcR rs As).map (·.1)=rs.map λr=>.inr r.name
 | [],[],_=>rfl
 | r :: rs,A :: As,h=>by
  show (C8 r.name:Key) :: (dcR rs As).map (·.1)=_
  rw [qol (CK h)]; rfl
theorem qbt:∀ {rs:List RR} {x:Str} {j:Nat},qar rs x=some j->∃ r,rs[j]?=some r/\r.name=x
 | [],_,_,h=>by cases h
 | r :: rs,x,j,h=>by
  rw [qb8] at h
  by_cases c:r.name=x
  .rw [if_pos c] at h; cases h; exact ⟨r,rfl,c⟩
  .rw [if_neg c] at h
   cases e:qar rs x with
   | none=>rw [e] at h; cases h
   | some i =>
    rw [e] at h
    cases h
    obtain ⟨r',h1,h2⟩:=qbt e
    exact ⟨r',h1,h2⟩
theorem qb9:∀ {rs:List RR} {x:Str},qar rs x=none ↔ x ∉ rs.map RR.name
 | [],_=>⟨λ_=>At,λ_=>rfl⟩
 | r :: rs,x=>by
  rw [qb8,A4,Ao]
  by_cases c:r.name=x
  .rw [if_pos c]
   exact ⟨(λz=>nomatch z),λz=>absurd (.inl c.symm) z⟩
  .rw [if_neg c]
   have ih:=qb9 (rs:=rs) (x:=x)
   constructor
   .rintro h (z | z)
    .exact c z.symm
    .cases e:qar rs x with
     | none=>exact ih.mp e z
     | some i=>rw [e] at h; cases h
   .intro h
    rw [ih.mpr λz=>h (.inr z)]; rfl
theorem qd9:∀ {rs:List RR} {j:Nat} {r:RR},(rs.map RR.name).Nodup->rs[j]?=some r->qar rs r.name=some j
 | [],j,_,_,h=>by cases j <;> cases h
 | r' :: rs,0,r,_,h=>by
  cases h
  rw [qb8,if_pos rfl]
 | r' :: rs,j + 1,r,nd,h=>by
  rw [A4,Bb] at nd
  rw [qb8,if_neg (λz=>nd.1 (by rw [z]; exact AS.mpr ⟨r,Ap h,rfl⟩)),qd9 nd.2 h]; rfl
theorem qdw {rs:List RR} {j:Nat} {r:RR} (h:rs[j]?=some r):rs.getD j r0=r:=by rw [Bc,h]; rfl
theorem Sta.same {C:Addr} {H H':Hp} {d:Addr} {rs:List RR} {As:List RA} (s:Sta C H d rs As) (z:Same H H'):Sta C H' d rs As:=⟨z _ _ s.hd,s.ln,s.nd,s.nn,λi r A h1 h2=>(s.ru i r A h1 h2).same z⟩
theorem Sta.get {C:Addr} {H:Hp} {d:Addr} {rs:List RR} {As:List RA} (s:Sta C H d rs As) {x:Str} {j:Nat} (h:qar rs x=some j):∃ r A,rs[j]?=some r/\As[j]?=some A/\r.name=x/\RuX C H A r/\DGet H d (.str x) (some (.ref A.p)):=by
 obtain ⟨r,hr,hn⟩:=qbt h
 have lt:j < As.length:=by rw [s.ln]; exact (Ae.mp hr).1
 refine ⟨r,As[j],hr,Ag lt,hn,s.ru j r _ hr (Ag lt),?_⟩
 have g:=DGet.k (k:=.inr x) s.hd
 rw [qgx x s.ln,h] at g
 rw [show (some j).bind (λj=>(As[j]?).map λA=>V.ref A.p)=(As[j]?).map λA=>V.ref A.p from rfl,Ag lt] at g
 exact g
theorem Sta.non {C:Addr} {H:Hp} {d:Addr} {rs:List RR} {As:List RA} (s:Sta C H d rs As) {x:Str} (h:qar rs x=none):DGet H d (.str x) none:=by
 have g:=DGet.k (k:=.inr x) s.hd
 rw [qgx x s.ln,h] at g
 exact g
theorem qxx {α:Type} {f:RA->List α}:∀ {As:List RA} {i j:Nat} {A B:RA} {z:α},(As.flatMap f).Nodup->As[i]?=some A->As[j]?=some B->i ≠ j->z ∈ f A->z ∉ f B
 | [],i,_,_,_,_,_,h,_,_,_=>by cases i <;> cases h
 | C :: As,i,j,A,B,z,nd,hi,hj,ne,hz=>by
  rw [Bd,AY] at nd
  intro hz2
  cases i with
  | zero =>
   cases hi
   cases j with
   | zero=>exact ne rfl
   | succ j=>exact nd.2.2 z hz z (B8.mpr ⟨B,Ap hj,hz2⟩) rfl
  | succ i =>
   cases j with
   | zero =>
    cases hj
    exact nd.2.2 z hz2 z (B8.mpr ⟨A,Ap hi,hz⟩) rfl
   | succ j=>exact qxx nd.2.1 hi hj (λe=>ne (by rw [e])) hz hz2
theorem Sta.chg {C:Addr} {H H':Hp} {d:Addr} {rs:List RR} {As:List RA} {j:Nat} {r r':RR} {A:RA} (s:Sta C H d rs As) (hr:rs[j]?=some r) (hA:As[j]?=some A) (k:KeepT (own A) H H') (x:RuX C H' A r') (hn:r'.name=r.name):Sta C H' d (rs.set j r') As:=by
 have nd:=Bb.mp s.nd
 have mem:∀ z ∈ own A,z ∈ As.flatMap own:=λz hz=>B8.mpr ⟨A,Ap hA,hz⟩
 refine ⟨?_,by rw [BT]; exact s.ln,s.nd,?_,λi r2 B h1 h2 => ?_⟩
 .rw [qq9 j r' (λz e=>by rw [hr] at e; cases e; exact hn.symm)]
  exact k _ _ (.inl λz=>nd.1 (mem _ z)) s.hd
 .have e:(rs.set j r').map RR.name=rs.map RR.name:=by
   rw [List.map_set,hn]
   apply BK
   intro i
   rw [Ce,Ak]
   by_cases c:j=i
   .subst c
    rw [if_pos rfl,hr,if_pos (by rw [Ab]; exact (Ae.mp hr).1)]; rfl
   .rw [if_neg c]
  rw [e]; exact s.nn
 .rw [Ce] at h1
  by_cases c:j=i
  .subst c
   rw [if_pos rfl] at h1
   split at h1
   .cases h1; rw [hA] at h2; cases h2; exact x
   .cases h1
  .rw [if_neg c] at h1
   exact (s.ru i r2 B h1 h2).keep k λz hz hz2=>qxx nd.2 h2 hA (AX c) hz hz2
noncomputable def erC (a:Adr):Er->Addr
 | .rule _=>a.cNoRule
 | .term _=>a.cNoTerm
 | .twice _=>a.cTwice
 | .unfit _=>a.cUnfit
noncomputable def erF:Er->Str × V
 | .rule i=>("at",.int (i:Int))
 | .term x=>("name",.str x)
 | .twice x=>("name",.str x)
 | .unfit i=>("at",.int (i:Int))
noncomputable def OutE (a:Adr) (e:Er) (H:Hp) (E:XK):Prop:=∀ (x d:Addr) (H':Hp),Same H H'->H' x=some (exO x (erC a e) (some d) false)->H' d=some (exD d [erF e])->E (.ref x) (some d) H'
theorem OutE.same {a:Adr} {e:Er} {H H':Hp} {E:XK} (o:OutE a e H E) (s:Same H H'):OutE a e H' E:=λx d H2 z=>o x d H2 (s.trans z)
noncomputable def Bn (n:Nat) (rs:List RR):Prop:=∀ r ∈ rs,r.ends.length <= n/\r.anew.length <= n/\r.longer.length <= n/\r.yields.length <= n
noncomputable def spRlG (a:Adr):Sp:=λvs H Q _=>∃ (x dx:Addr) (vn vw vo vp vb vm vu vs':V),vs=[.ref x,vn,vw,vo,vp,vb,vm,vu,vs']/\H x=some (.ins a.cRule dx []) /\
 ∀ (H':Hp) (pe pa pl py:Addr),SameBut x H H'->H pe=none->H pa=none->H pl=none->H py=none->H' x=some (.ins a.cRule dx (rlF vn vw vo vp vb vm vu vs' (.ref pe) (.ref pa) (.ref pl) (.ref py)))->H' pe=some (.lst [])->H' pa=some (.lst [])->H' pl=some (.lst [])->H' py=some (.lst [])->[x,pe,pa,pl,py].Nodup->Q .non H'
noncomputable def spAk (a:Adr):Sp:=λvs H Q _=>∃ (A:RA) (r:RR),vs=[.ref A.p]/\RuX a.cRule H A r/\r.ends.length <= 1000/\r.anew.length <= 1000/\r.longer.length <= 1000/\∀ (q:Addr) (H':Hp),H q=none->Same H H'->H' q=some (.lst ((qav r).map V.str))->Q (.ref q) H'
noncomputable def spKi:Sp:=λvs H Q _=>∃ (p:Addr) (row:Rw7),vs=[.ref p]/\H p=some (.lst (qco row))/\isT row=false/\∀ (q:Addr) (H':Hp),H q=none->Same H H'->H' q=some (.lst ((kin row).map V.str))->Q (.ref q) H'
noncomputable def spUf (a:Adr):Sp:=λvs H Q _=>∃ (A:RA) (r:RR) (p:Addr) (row:Rw7),vs=[.ref A.p,.ref p]/\RuX a.cRule H A r/\r.ends.length <= 1000/\r.anew.length <= 1000/\r.longer.length <= 1000/\H p=some (.lst (qco row))/\isT row=false/\∀ H',Same H H'->Q (.bl (qg1 r row)) H'
noncomputable def spMo (a:Adr):Sp:=λvs H Q E=>∃ (A:RA) (r:RR) (i:Nat) (p:Addr) (row:Rw7),vs=[.ref A.p,.int (i:Int),.ref p]/\RuX a.cRule H A r/\(own A).Nodup/\r.ends.length <= 1000/\r.anew.length <= 1000/\r.longer.length <= 1000/\H p=some (.lst (qco row))/\isT row=false /\
 (qg1 r row=false->∀ H',KeepT (own A) H H'->RuX a.cRule H' A (qc5 r row)->Q .non H')/\(qg1 r row=true->OutE a (.unfit i) H E)
noncomputable def Frs (H:Hp) (As As':List RA):Prop:=∀ z ∈ As'.flatMap own,z ∈ As.flatMap own \/ H z=none
noncomputable def spTm (a:Adr):Sp:=λvs H Q E=>∃ (d p:Addr) (i:Nat) (rs:List RR) (As:List RA) (x w o:Str) (dd:Bool) (y:Str) (m:Int) (u:Str),vs=[.ref d,.int (i:Int),.ref p]/\Sta a.cRule H d rs As/\rs.length <= 6/\H p=some (.lst (qco (.term x w o dd y m u))) /\
 (∀ rs',qe8 rs i x w o dd y m u=.ok rs'->∀ H' As',KeepT (d :: As.flatMap own) H H'->Frs H As As'->Sta a.cRule H' d rs' As'->Q .non H')/\∀ e,qe8 rs i x w o dd y m u=.error e->OutE a e H E
noncomputable def spRo (a:Adr):Sp:=λvs H Q E=>∃ (d p:Addr) (i:Nat) (rs:List RR) (As:List RA) (row:Rw7),vs=[.ref d,.int (i:Int),.ref p]/\Sta a.cRule H d rs As/\rs.length <= 6/\Bn 1000 rs/\H p=some (.lst (qco row)) /\
 (∀ rs',qcf rs i row=.ok rs'->∀ H' As',KeepT (d :: As.flatMap own) H H'->Frs H As As'->Sta a.cRule H' d rs' As'->Q .non H')/\∀ e,qcf rs i row=.error e->OutE a e H E
noncomputable def spSy (a:Adr):Sp:=λvs H Q E=>∃ (d:Addr) (i j:Nat) (rs:List RR) (As:List RA) (r:RR) (A:RA) (y:Str),vs=[.ref d,.ref A.p,.int (i:Int),.str y]/\Sta a.cRule H d rs As/\Bn 1000 rs/\rs[j]?=some r/\As[j]?=some A /\
 (∀ rs',qdi rs i j y=.ok rs'->∀ H',KeepT (d :: As.flatMap own) H H'->Sta a.cRule H' d rs' As->Q .non H')/\∀ e,qdi rs i j y=.error e->OutE a e H E
noncomputable def spSn (a:Adr):Sp:=λvs H Q E=>∃ (d p:Addr) (i:Nat) (rs:List RR) (As:List RA) (row:Rw7),vs=[.ref d,.int (i:Int),.ref p]/\Sta a.cRule H d rs As/\Bn 1000 rs/\H p=some (.lst (qco row))/\(qar rs (qan row)).isSome=true /\
 (∀ rs',qcp rs i row=.ok rs'->∀ H',KeepT (d :: As.flatMap own) H H'->Sta a.cRule H' d rs' As->Q .non H')/\∀ e,qcp rs i row=.error e->OutE a e H E
theorem qw6 (r:RR):(qav r).length <= 4 + r.ends.length + r.anew.length + r.longer.length:=by
 unfold qav
 simp only [Ai,Ab,An,Cg]
 have h1:r.opens.toList.length <= 1:=by cases r.opens <;> simp
 have h2:(stL r.still).length <= 2:=by cases r.still <;> simp [stL]
 lia
theorem any_map {ks B:List Str}:((ks.map λk=>B.contains k).any λb=>b)=ks.any λk=>B.contains k:=by rw [List.any_map]; rfl
theorem Sta.snoc {C:Addr} {H H':Hp} {d:Addr} {rs:List RR} {As:List RA} {r:RR} {A:RA} (s:Sta C H d rs As) (k:KeepT [d] H H') (hd:H' d=some (.dK (dcR rs As ++ [(.inr r.name,.ref A.p)]))) (x:RuX C H' A r) (nm:qar rs r.name=none) (nd:(own A).Nodup) (nf:∀ z ∈ own A,z ≠ d/\z ∉ As.flatMap own):Sta C H' d (rs ++ [r]) (As ++ [A]):=by
 have n0:=Bb.mp s.nd
 refine ⟨by rw [qkl r A s.ln]; exact hd,by rw [Ai,Ai,s.ln]; rfl,?_,?_,λi r2 B h1 h2 => ?_⟩
 .rw [Bj,Bb,A5,AY]
  have e:[A].flatMap own=own A:=by simp
  rw [e]
  exact ⟨λz=>z.elim n0.1 λq=>(nf d q).1 rfl,n0.2,nd,λa ha b hb q=>(nf b hb).2 (q ▸ ha)⟩
 .rw [Ar,AY]
  exact ⟨s.nn,by simp,λa ha b hb q=>qb9.mp nm (by rw [<- Aj.mp hb,<- q]; exact ha)⟩
 .by_cases c:i < rs.length
  .rw [AQ c] at h1
   rw [AQ (by rw [s.ln]; exact c)] at h2
   refine (s.ru i r2 B h1 h2).keep k λz hz hz2=>n0.1 ?_
   rw [<- Aj.mp hz2]
   exact B8.mpr ⟨B,Ap h2,hz⟩
  .rw [AL (by lia)] at h1
   rw [AL (by rw [s.ln]; lia),s.ln] at h2
   have l1:i - rs.length < 1:=(Ae.mp h1).1
   rw [show i - rs.length=0 by lia] at h1 h2
   cases h1
   cases h2
   exact x
theorem qhy {rs:List RR} {i:Nat} {x w o:Str} {d:Bool} {y:Str} {m:Int} {u:Str} (h:(qar rs x).isSome=true):qe8 rs i x w o d y m u=.error (.twice x):=if_pos h
theorem qeu {rs:List RR} {i:Nat} {x w o:Str} {d:Bool} {y:Str} {m:Int} {u:Str} (h:qar rs x=none) (c:rs.length=6 \/ (d=false/\o=y)):qe8 rs i x w o d y m u=.error (.unfit i):=by
 unfold qe8; rw [h,if_neg (by decide),if_pos c]
theorem qe9 {rs:List RR} {i:Nat} {x w o:Str} {d:Bool} {y:Str} {m:Int} {u:Str} (h:qar rs x=none) (c:¬ (rs.length=6 \/ (d=false/\o=y))):qe8 rs i x w o d y m u=.ok (rs ++ [qm9 x w o d y m u]):=by
 unfold qe8; rw [h,if_neg (by decide),if_neg c]
theorem qhz {rs:List RR} {i:Nat} {row:Rw7} (h:qar rs (qan row)=none):qi3 rs i row=.error (.term (qan row)):=by unfold qi3; rw [h]
theorem qgh {rs:List RR} {i j:Nat} {row:Rw7} {r:RR} (h:qar rs (qan row)=some j) (hr:rs[j]?=some r) (u:qg1 r row=true):qi3 rs i row=.error (.unfit i):=by
 unfold qi3; rw [h]; dsimp only; rw [qdw hr,if_pos u]
theorem qh0 {rs:List RR} {i j:Nat} {row:Rw7} {r:RR} (h:qar rs (qan row)=some j) (hr:rs[j]?=some r) (u:qg1 r row=false):qi3 rs i row=.ok (rs.set j (qc5 r row)):=by
 unfold qi3; rw [h]; dsimp only; rw [qdw hr,u,if_neg (by decide)]
theorem qdq {rs:List RR} {i:Nat} {row:Rw7} (h:isT row=false):qcf rs i row=qi3 rs i row:=by
 cases row with
 | term=>cases h
 | _=>rfl
theorem qfj (r:RR) (row:Rw7):(qc5 r row).name=r.name:=by cases row <;> rfl
theorem qna {As:List RA} {j:Nat} {A:RA} (h:As[j]?=some A):∀ z ∈ own A,z ∈ As.flatMap own:=λz hz=>B8.mpr ⟨A,Ap h,hz⟩
theorem qu6 {As:List RA} {j:Nat} {A:RA} (nd:(As.flatMap own).Nodup) (h:As[j]?=some A):(own A).Nodup:=by
 induction As generalizing j with
 | nil=>cases j <;> cases h
 | cons B As ih =>
  rw [Bd,AY] at nd
  cases j with
  | zero=>cases h; exact nd.1
  | succ j=>exact ih nd.2.1 h
theorem qkm {rs:List RR} {i j:Nat} {y:Str} (h:qar rs y=none):qdi rs i j y=.error (.term y):=by unfold qdi; rw [h]
theorem qfk {rs:List RR} {i j l:Nat} {y:Str} {r s:RR} (h:qar rs y=some l) (hr:rs[j]?=some r) (hs:rs[l]?=some s) (c:y=r.name \/ y ∈ r.yields \/ s.owes ≠ r.owes):qdi rs i j y=.error (.unfit i):=by
 unfold qdi; rw [h]; dsimp only; rw [qdw hr,qdw hs,if_pos c]
theorem qhe {rs:List RR} {i j l:Nat} {y:Str} {r s:RR} (h:qar rs y=some l) (hr:rs[j]?=some r) (hs:rs[l]?=some s) (c:¬ (y=r.name \/ y ∈ r.yields \/ s.owes ≠ r.owes)):qdi rs i j y=.ok (rs.set j { r with yields:=r.yields ++ [y] }):=by
 unfold qdi; rw [h]; dsimp only; rw [qdw hr,qdw hs,if_neg c]
theorem qu7 {rs:List RR} {i:Nat} {row:Rw7} (h:isT row=false) (h2:∀ x y,row ≠ .yields x y):qcp rs i row=.ok rs:=by
 cases row with
 | yields x y=>exact absurd rfl (h2 x y)
 | term=>cases h
 | _=>rfl
theorem qkn {rs:List RR} {i j:Nat} {x y:Str} (h:qar rs x=some j):qcp rs i (.yields x y)=qdi rs i j y:=by
 show (match qar rs x with | none=>_ | some j=>qdi rs i j y)=_
 rw [h]
theorem qh1 {rs:List RR} {i j:Nat} {x w o:Str} {d:Bool} {y:Str} {m:Int} {u:Str} {r:RR} (h:qar rs x=some j) (hr:rs[j]?=some r):qcp rs i (.term x w o d y m u)=match r.base with | none=>.ok rs | some y=>if (qar rs y).isSome=true then .ok rs else .error (.term y):=by
 show (match qar rs x with | none=>_ | some j=>_)=_
 rw [h]
 dsimp only
 rw [qdw hr]
noncomputable def qai:List RR->Nat->List (Option Rw7)->Except Er (List RR)
 | rs,_,[]=>.ok rs
 | rs,i,o :: t=>if i=40 then .error (.rule i) else match o with
  | none=>.error (.rule i)
  | some row=>match qcf rs i row with
   | .error e=>.error e
   | .ok rs'=>qai rs' (i + 1) t
noncomputable def qat:List RR->Nat->List Rw7->Except Er (List RR)
 | rs,_,[]=>.ok rs
 | rs,i,row :: t=>match qcp rs i row with
  | .error e=>.error e
  | .ok rs'=>qat rs' (i + 1) t
noncomputable def opR (l:Str):Option Rw7:=qgg (BY l (wS " "))
noncomputable def qh2 (ls:List Str):List (Option Rw7):=ls.map opR
noncomputable def qfa (ls:List Str):Except Er (List RR):=match qai [] 0 (qh2 ls) with
 | .error e=>.error e
 | .ok rs=>qat rs 0 ((qh2 ls).filterMap id)
theorem qbx (rs:List RR) (i:Nat) (o:Option Rw7) (t:List (Option Rw7)):qai rs i (o :: t)=if i=40 then .error (.rule i) else match o with
  | none=>.error (.rule i)
  | some row=>match qcf rs i row with
   | .error e=>.error e
   | .ok rs'=>qai rs' (i + 1) t:=rfl
theorem qea (rs:List RR) (i:Nat) (row:Rw7) (t:List Rw7):qat rs i (row :: t)=match qcp rs i row with
  | .error e=>.error e
  | .ok rs'=>qat rs' (i + 1) t:=rfl
theorem qdj:∀ (xs ys:List (Option Rw7)) (rs:List RR) (i:Nat),qai rs i (xs ++ ys)=match qai rs i xs with | .error e=>.error e | .ok rs'=>qai rs' (i + xs.length) ys
 | [],ys,rs,i=>rfl
 | o :: xs,ys,rs,i=>by
  show qai rs i (o :: (xs ++ ys))=_
  rw [qbx,qbx]
  by_cases c:i=40
  .rw [if_pos c,if_pos c]
  .rw [if_neg c,if_neg c]
   cases o with
   | none=>rfl
   | some row =>
    dsimp only
    cases qcf rs i row with
    | error e=>rfl
    | ok rs' =>
     dsimp only
     rw [qdj xs ys rs' (i + 1),An,show i + 1 + xs.length=i + (xs.length + 1) by lia]
theorem qgi:∀ (xs ys:List Rw7) (rs:List RR) (i:Nat),qat rs i (xs ++ ys)=match qat rs i xs with | .error e=>.error e | .ok rs'=>qat rs' (i + xs.length) ys
 | [],ys,rs,i=>rfl
 | row :: xs,ys,rs,i=>by
  show qat rs i (row :: (xs ++ ys))=_
  rw [qea,qea]
  cases qcp rs i row with
  | error e=>rfl
  | ok rs' =>
   dsimp only
   rw [qgi xs ys rs' (i + 1),An,show i + 1 + xs.length=i + (xs.length + 1) by lia]
theorem qi4 {os:List (Option Rw7)} {i:Nat} {rs:List RR} {o:Option Rw7} (h:qai [] 0 (os.take i)=.ok rs) (hi:os[i]?=some o):qai [] 0 os=qai rs i (o :: os.drop (i + 1))/\qai [] 0 (os.take (i + 1))=qai rs i [o]:=by
 have lt:=(Ae.mp hi).1
 have e:os=os.take i ++ (o :: os.drop (i + 1)):=by
  have:=Bv i os
  rw [Cj lt] at this
  rw [Ag lt] at hi
  cases hi
  exact this.symm
 have l:(os.take i).length=i:=by rw [A2]; lia
 constructor
 .conv=>lhs; rw [e]
  rw [qdj,h]
  dsimp only
  rw [l,CM]
 .rw [qbg hi,qdj,h]
  dsimp only
  rw [l,CM]
theorem qhf {rw:List Rw7} {i:Nat} {rs0 rs:List RR} {row:Rw7} (h:qat rs0 0 (rw.take i)=.ok rs) (hi:rw[i]?=some row):qat rs0 0 rw=qat rs i (row :: rw.drop (i + 1))/\qat rs0 0 (rw.take (i + 1))=qat rs i [row]:=by
 have lt:=(Ae.mp hi).1
 have e:rw=rw.take i ++ (row :: rw.drop (i + 1)):=by
  have:=Bv i rw
  rw [Cj lt] at this
  rw [Ag lt] at hi
  cases hi
  exact this.symm
 have l:(rw.take i).length=i:=by rw [A2]; lia
 constructor
 .conv=>lhs; rw [e]
  rw [qgi,h]
  dsimp only
  rw [l,CM]
 .rw [qbg hi,qgi,h]
  dsimp only
  rw [l,CM]
theorem qhg {rs rs':List RR} {i:Nat} {row:Rw7} (n:i ≠ 40) (h:qcf rs i row=.ok rs') (t:List (Option Rw7)):qai rs i (some row :: t)=qai rs' (i + 1) t:=by
 rw [qbx,if_neg n]; dsimp only; rw [h]
theorem qko {rs:List RR} {i:Nat} {row:Rw7} {e:Er} (n:i ≠ 40) (h:qcf rs i row=.error e) (t:List (Option Rw7)):qai rs i (some row :: t)=.error e:=by
 rw [qbx,if_neg n]; dsimp only; rw [h]
theorem qi5 {rs:List RR} {i:Nat} (n:i=40) (o:Option Rw7) (t:List (Option Rw7)):qai rs i (o :: t)=.error (.rule i):=by
 rw [qbx,if_pos n]
theorem qpw {rs:List RR} {i:Nat} (n:i ≠ 40) (t:List (Option Rw7)):qai rs i (none :: t)=.error (.rule i):=by
 rw [qbx,if_neg n]
theorem qfb {rs rs':List RR} {i:Nat} {row:Rw7} (h:qcp rs i row=.ok rs') (t:List Rw7):qat rs i (row :: t)=qat rs' (i + 1) t:=by
 rw [qea,h]
theorem qmc {rs:List RR} {i:Nat} {row:Rw7} {e:Er} (h:qcp rs i row=.error e) (t:List Rw7):qat rs i (row :: t)=.error e:=by
 rw [qea,h]
theorem qso {rs:List RR} {i:Nat} {x w o:Str} {d:Bool} {y:Str} {m:Int} {u:Str} (h:qar rs x=none):qcp rs i (.term x w o d y m u)=.ok rs:=by
 show (match qar rs x with | none=>_ | some j=>_)=_
 rw [h]
theorem qsp {rs:List RR} {i:Nat} {x y:Str} (h:qar rs x=none):qcp rs i (.yields x y)=.ok rs:=by
 show (match qar rs x with | none=>_ | some j=>_)=_
 rw [h]
theorem qby:∀ {rs rs':List RR} (x:Str),rs.map RR.name=rs'.map RR.name->qar rs x=qar rs' x
 | [],[],_,_=>rfl
 | r :: rs,[],_,h=>by cases h
 | [],r :: rs,_,h=>by cases h
 | r :: rs,r' :: rs',x,h=>by
  rw [A4,A4] at h
  injection h with h1 h2
  rw [qb8,qb8,h1,qby x h2]
theorem qh3:∀ (rs:List RR) (r:RR) (x:Str),qar (rs ++ [r]) x=match qar rs x with | some j=>some j | none=>if r.name=x then some rs.length else none
 | [],r,x=>by
  show qar [r] x=_
  rw [qb8]
  show (if r.name=x then some 0 else none)=if r.name=x then some 0 else none
  rfl
 | r' :: rs,r,x=>by
  show qar (r' :: (rs ++ [r])) x=_
  rw [qb8,qb8,qh3 rs r x]
  by_cases c:r'.name=x
  .rw [if_pos c,if_pos c]
  .rw [if_neg c,if_neg c]
   cases qar rs x with
   | some j=>rfl
   | none =>
    dsimp only
    by_cases c2:r.name=x
    .rw [if_pos c2]; show some _=if r.name=x then some _ else none; rw [if_pos c2]; rfl
    .rw [if_neg c2]; show none=if r.name=x then some _ else none; rw [if_neg c2]
theorem qgy {rs:List RR} {j:Nat} {r r':RR} (hr:rs[j]?=some r) (hn:r'.name=r.name):(rs.set j r').map RR.name=rs.map RR.name:=by
 rw [List.map_set,hn]
 apply BK
 intro i
 rw [Ce,Ak]
 by_cases c:j=i
 .subst c
  rw [if_pos rfl,hr,if_pos (by rw [Ab]; exact (Ae.mp hr).1)]; rfl
 .rw [if_neg c]
inductive RowDid (rs:List RR) (row:Rw7) (rs':List RR):Prop where
 | new (r:RR) (t:isT row=true) (n:r.name=qan row) (z:qar rs r.name=none) (e:rs'=rs ++ [r]) (l:rs.length ≠ 6) (m:r.ends=[]/\r.anew=[]/\r.longer=[]/\r.yields=[])
 | old (j:Nat) (r:RR) (t:isT row=false) (p:qar rs (qan row)=some j) (h:rs[j]?=some r) (u:qg1 r row=false) (e:rs'=rs.set j (qc5 r row))
theorem qom {rs rs':List RR} {i:Nat} {row:Rw7} (h:qcf rs i row=.ok rs'):RowDid rs row rs':=by
 cases ht:isT row with
 | true =>
  cases row with
  | term x w o d y m u =>
   have h:qe8 rs i x w o d y m u=.ok rs':=h
   cases pn:qar rs x with
   | some j=>rw [qhy (by rw [pn]; rfl)] at h; cases h
   | none =>
    by_cases c:rs.length=6 \/ (d=false/\o=y)
    .rw [qeu pn c] at h; cases h
    .rw [qe9 pn c] at h
     cases h
     exact .new (qm9 x w o d y m u) rfl rfl pn rfl (λz=>c (.inl z)) ⟨rfl,rfl,rfl,rfl⟩
  | _=>cases ht
 | false =>
  rw [qdq ht] at h
  cases pn:qar rs (qan row) with
  | none=>rw [qhz pn] at h; cases h
  | some j =>
   obtain ⟨r,hr,_⟩:=qbt pn
   cases u:qg1 r row with
   | true=>rw [qgh pn hr u] at h; cases h
   | false =>
    rw [qh0 pn hr u] at h
    cases h
    exact .old j r ht pn hr u rfl
theorem RowDid.len {rs rs':List RR} {row:Rw7} (h:RowDid rs row rs') (l:rs.length <= 6):rs'.length <= 6:=by
 cases h with
 | new r _ _ _ e n _=>rw [e,Ai]; show _ + 1 <= 6; lia
 | old j r _ _ _ _ e=>rw [e,BT]; exact l
theorem RowDid.bn {rs rs':List RR} {row:Rw7} {n:Nat} (h:RowDid rs row rs') (b:Bn n rs):Bn (n + 1) rs':=by
 have up:∀ r ∈ rs,r.ends.length <= n + 1/\r.anew.length <= n + 1/\r.longer.length <= n + 1/\r.yields.length <= n + 1:=λr hr=>by
  obtain ⟨h1,h2,h3,h4⟩:=b r hr
  exact ⟨by lia,by lia,by lia,by lia⟩
 cases h with
 | new r _ _ _ e _ m =>
  obtain ⟨m1,m2,m3,m4⟩:=m
  intro r2 h2
  rw [e] at h2
  rcases A5.mp h2 with z | z
  .exact up r2 z
  .rw [Aj.mp z,m1,m2,m3,m4]; exact ⟨B0 _,B0 _,B0 _,B0 _⟩
 | old j r t _ hr _ e =>
  intro r2 h2
  rw [e] at h2
  rcases Cz h2 with z | z
  .exact up r2 z
  .rw [z]
   obtain ⟨h1,h2,h3,h4⟩:=b r (Ap hr)
   cases row <;> (simp only [qc5,Ai,An,Cg]; lia)
theorem RowDid.has {rs rs':List RR} {row:Rw7} (h:RowDid rs row rs'):(qar rs' (qan row)).isSome=true/\∀ x,(qar rs x).isSome=true->(qar rs' x).isSome=true:=by
 cases h with
 | new r t n z e _ _ =>
  rw [e]
  refine ⟨?_,λx hx => ?_⟩
  .rw [qh3,<- n,z]; dsimp only; rw [if_pos rfl]; rfl
  .rw [qh3]
   cases p:qar rs x with
   | none=>rw [p] at hx; cases hx
   | some j=>rfl
 | old j r t p hr u e =>
  have en:=qgy hr (qfj r row)
  rw [e]
  exact ⟨by rw [qby _ en,p]; rfl,λx hx=>by rw [qby _ en]; exact hx⟩
noncomputable def qw7 (rs:List RR) (rw:List Rw7):Prop:=∀ r ∈ rs,∃ row ∈ rw,isT row=true/\qan row=r.name
theorem RowDid.hasT {rs rs':List RR} {row:Rw7} {rw:List Rw7} (h:RowDid rs row rs') (b:qw7 rs rw):qw7 rs' (rw ++ [row]):=by
 have up:∀ r ∈ rs,∃ row' ∈ rw ++ [row],isT row'=true/\qan row'=r.name:=λr hr=>by
  obtain ⟨q,h1,h2⟩:=b r hr
  exact ⟨q,Bq _ h1,h2⟩
 cases h with
 | new r t n z e _ _ =>
  intro r2 h2
  rw [e] at h2
  rcases A5.mp h2 with q | q
  .exact up r2 q
  .rw [Aj.mp q]; exact ⟨row,by simp,t,n.symm⟩
 | old j r t p hr u e =>
  intro r2 h2
  rw [e] at h2
  rcases Cz h2 with q | q
  .exact up r2 q
  .rw [q,qfj]; exact up r (Ap hr)
structure SetDid (rs rs':List RR):Prop where
 nm:rs'.map RR.name=rs.map RR.name
 ba:rs'.map RR.base=rs.map RR.base
theorem qkp {rs rs':List RR} {i:Nat} {row:Rw7} (h:qcp rs i row=.ok rs'):SetDid rs rs'/\∀ n,Bn n rs->Bn (n + 1) rs':=by
 have same:rs'=rs->SetDid rs rs'/\∀ n,Bn n rs->Bn (n + 1) rs':=λe=>by
  subst e
  exact ⟨⟨rfl,rfl⟩,λn b r hr=>by obtain ⟨h1,h2,h3,h4⟩:=b r hr; exact ⟨by lia,by lia,by lia,by lia⟩⟩
 cases row with
 | term x w o d y m u =>
  cases pn:qar rs x with
  | none =>
   rw [qso pn] at h
   cases h; exact same rfl
  | some j =>
   obtain ⟨r,hr,_⟩:=qbt pn
   rw [qh1 pn hr] at h
   cases eb:r.base with
   | none=>rw [eb] at h; cases h; exact same rfl
   | some z =>
    rw [eb] at h
    dsimp only at h
    split at h
    .cases h; exact same rfl
    .cases h
 | yields x y =>
  cases pn:qar rs x with
  | none =>
   rw [qsp pn] at h
   cases h; exact same rfl
  | some j =>
   obtain ⟨r,hr,_⟩:=qbt pn
   rw [qkn pn] at h
   cases py:qar rs y with
   | none=>rw [qkm py] at h; cases h
   | some l =>
    obtain ⟨s,hs,_⟩:=qbt py
    by_cases c:y=r.name \/ y ∈ r.yields \/ s.owes ≠ r.owes
    .rw [qfk py hr hs c] at h; cases h
    .rw [qhe py hr hs c] at h
     cases h
     refine ⟨⟨qgy hr rfl,?_⟩,λn b r2 h2 => ?_⟩
     .rw [List.map_set]
      apply BK
      intro i
      rw [Ce,Ak]
      by_cases c:j=i
      .subst c
       rw [if_pos rfl,hr,if_pos (by rw [Ab]; exact (Ae.mp hr).1)]; rfl
      .rw [if_neg c]
     .rcases Cz h2 with z | z
      .obtain ⟨h1,h2,h3,h4⟩:=b r2 z; exact ⟨by lia,by lia,by lia,by lia⟩
      .rw [z]
       obtain ⟨h1,h2,h3,h4⟩:=b r (Ap hr)
       simp only [Ai,An,Cg]
       lia
 | ends=>cases h; exact same rfl
 | anew=>cases h; exact same rfl
 | longer=>cases h; exact same rfl
 | still=>cases h; exact same rfl
theorem qon {rs rs':List RR} {i:Nat} {row:Rw7} (h:qcp rs i row=.ok rs') (t:isT row=true) {j:Nat} {r:RR} (p:qar rs (qan row)=some j) (hr:rs[j]?=some r):∀ y,r.base=some y->(qar rs y).isSome=true:=by
 cases row with
 | term x w o d y m u =>
  intro z eb
  rw [qh1 (x:=x) p hr,eb] at h
  dsimp only at h
  by_cases c:(qar rs z).isSome=true
  .exact c
  .rw [if_neg c] at h; cases h
 | _=>cases t
noncomputable def bsR (rs:List RR):List (Option Nat):=rs.map λr=>r.base.bind (qar rs)
noncomputable def qiv (rs:List RR):Prop:=∀ r ∈ rs,∀ y,r.base=some y->(qar rs y).isSome=true
theorem qw8 {rs0 rs:List RR} {rw:List Rw7} (h:qat rs0 0 rw=.ok rs) (nn:(rs0.map RR.name).Nodup) (t:qw7 rs0 rw):qiv rs:=by
 have w:∀ i,i <= rw.length->∃ ri,qat rs0 0 (rw.take i)=.ok ri/\SetDid rs0 ri/\∀ row ∈ rw.take i,isT row=true->∀ (j:Nat) (r:RR),rs0[j]?=some r->r.name=qan row->∀ y,r.base=some y->(qar rs0 y).isSome=true:=by
  intro i
  induction i with
  | zero=>exact λ_=>⟨rs0,rfl,⟨rfl,rfl⟩,λrow hr=>by rw [Da] at hr; cases hr⟩
  | succ i ih =>
   intro hi
   obtain ⟨ri,h1,h2,h3⟩:=ih (by lia)
   obtain ⟨row,hrow⟩:∃ row,rw[i]?=some row:=⟨_,Ag (by lia)⟩
   obtain ⟨e1,e2⟩:=qhf h1 hrow
   cases es:qcp ri i row with
   | error e=>rw [e1,qmc es] at h; cases h
   | ok r' =>
    rw [qfb es] at e2
    obtain ⟨d1,_⟩:=qkp es
    refine ⟨r',e2,⟨d1.nm.trans h2.nm,d1.ba.trans h2.ba⟩,λrow' hr' ht j r hj hn y hy => ?_⟩
    rw [qbg hrow] at hr'
    rcases A5.mp hr' with z | z
    .exact h3 row' z ht j r hj hn y hy
    .rw [Aj.mp z] at ht hn
     have pj:qar ri (qan row)=some j:=by rw [qby _ h2.nm,<- hn]; exact qd9 nn hj
     obtain ⟨r2,hr2,_⟩:=qbt pj
     have eb:r2.base=r.base:=by
      have q1:(ri.map RR.base)[j]?=some r2.base:=by rw [Ak,hr2]; rfl
      rw [h2.ba,Ak,hj] at q1
      exact (AG q1).symm
     have:=qon es ht pj hr2 y (by rw [eb]; exact hy)
     rw [qby _ h2.nm] at this
     exact this
 obtain ⟨ri,h1,h2,h3⟩:=w _ (Az _)
 rw [Bs] at h1 h3
 rw [h1] at h
 cases h
 intro r hr y hy
 obtain ⟨j,hj⟩:=AV hr
 have lj:j < rs0.length:=by
  have:=congrArg CF h2.nm
  rw [Ab,Ab] at this
  rw [<- this]; exact (Ae.mp hj).1
 have hj0:rs0[j]?=some rs0[j]:=Ag lj
 have en:rs0[j].name=r.name:=by
  have q1:(rs.map RR.name)[j]?=some r.name:=by rw [Ak,hj]; rfl
  rw [h2.nm,Ak,hj0] at q1
  exact AG q1
 have eb:rs0[j].base=r.base:=by
  have q1:(rs.map RR.base)[j]?=some r.base:=by rw [Ak,hj]; rfl
  rw [h2.ba,Ak,hj0] at q1
  exact AG q1
 obtain ⟨row,hrow,ht,hn⟩:=t _ (Ap hj0)
 rw [qby _ h2.nm]
 exact h3 row hrow ht j _ hj0 hn.symm y (by rw [eb]; exact hy)
theorem wr_of {rs:List RR} (nn:(rs.map RR.name).Nodup) (l:rs.length <= 6):Wr (rs.map RR.name) (bsR rs):=⟨nn,by unfold bsR; rw [Ab,Ab],by rw [Ab]; exact l,λk b e=>by
 unfold bo bsR at e
 rw [Bc,Ak] at e
 cases er:rs[k]? with
 | none=>rw [er] at e; cases e
 | some r =>
  rw [er] at e
  cases eb:r.base with
  | none=>rw [show (Option.map (λr:RR=>r.base.bind (qar rs)) (some r)).getD none=r.base.bind (qar rs) from rfl,eb] at e; cases e
  | some y =>
   rw [show (Option.map (λr:RR=>r.base.bind (qar rs)) (some r)).getD none=r.base.bind (qar rs) from rfl,eb] at e
   have e:qar rs y=some b:=e
   obtain ⟨r2,h2,_⟩:=qbt e
   rw [Ab]
   exact (Ae.mp h2).1⟩
theorem qu8 {rs:List RR} (ok:qiv rs) {k:Nat} {r:RR} (h:rs[k]?=some r):qhv (rs.map RR.name) (bo (bsR rs) k)=qd1 r.base:=by
 unfold bo bsR
 rw [Bc,Ak,h]
 show qhv _ (r.base.bind (qar rs))=_
 cases eb:r.base with
 | none=>rfl
 | some y =>
  have:=ok r (Ap h) y eb
  show qhv _ (qar rs y)=.str y
  cases ep:qar rs y with
  | none=>rw [ep] at this; cases this
  | some j =>
   obtain ⟨r2,h2,h3⟩:=qbt ep
   show V.str (nm (rs.map RR.name) j)=_
   unfold nm
   rw [Bc,Ak,h2]
   show V.str r2.name=_
   rw [h3]
theorem nm_R {rs:List RR} {k:Nat} {r:RR} (h:rs[k]?=some r):nm (rs.map RR.name) k=r.name:=by
 unfold nm
 rw [Bc,Ak,h]; rfl
structure Lng (ls:List Str):Prop where
 n:ls.length <= 100
 c:∀ l ∈ ls,l.cps.size <= 200/\10 ∉ l.cps.toList
 e:ls ≠ [wS ""]
theorem qxy {c:Nat}:∀ {ps:List (List Nat)},(∀ p ∈ ps,p.length <= 200)->(jl c ps).length <= 201 * ps.length
 | [],_=>Az _
 | [x],h=>by
  have:=h x Aq
  show x.length <= 201 * 1
  lia
 | x :: y :: r,h=>by
  have h1:=h x Aq
  have h2:=qxy (c:=c) (ps:=y :: r) λp hp=>h p (Au _ hp)
  show (x ++ c :: jl c (y :: r)).length <= 201 * (r.length + 1 + 1)
  rw [Ai,An]
  rw [An] at h2
  lia
theorem qu9 {ls:List Str} (h:Lng ls):(qew ls).cps.size <= 20100:=by
 rw [<- AN,show (qew ls).cps.toList=jl 10 (ls.map λp=>p.cps.toList) from qce 10 _]
 have:=qxy (c:=10) (ps:=ls.map λp=>p.cps.toList) λp hp=>by
  obtain ⟨l,hl,rfl⟩:=AS.mp hp
  rw [AN]; exact (h.c l hl).1
 rw [Ab] at this
 have:=h.n
 lia
theorem qw9 {ls:List Str} (h:Lng ls) (ne:ls ≠ []):(qew ls).cps.size ≠ 0:=by
 rw [<- AN,show (qew ls).cps.toList=jl 10 (ls.map λp=>p.cps.toList) from qce 10 _]
 cases ls with
 | nil=>exact absurd rfl ne
 | cons x r =>
  cases r with
  | nil =>
   intro z
   have z:x.cps.toList.length=0:=z
   exact h.e (by rw [str_ext (x:=x) (y:=wS "") (by rw [List.eq_nil_of_length_eq_zero z]; decide +kernel)])
  | cons y r =>
   show (x.cps.toList ++ 10 :: jl 10 _).length ≠ 0
   rw [Ai,An]; lia
noncomputable def spLnG:Sp:=λvs H Q _=>∃ ls:List Str,vs=[.str (qew ls)]/\Lng ls/\∀ (q:Addr) (H':Hp),H q=none->Same H H'->H' q=some (.lst (ls.map V.str))->Q (.ref q) H'
noncomputable def BkX (a:Adr) (H:Hp) (x:Addr) (rs:List RR) (As:List RA) (os:List Nat):Prop:=∃ dx po d:Addr,H x=some (.ins a.cBook dx (bfs po d))/\H po=some (.lst ((os.map (nm (rs.map RR.name))).map V.str))/\H d=some (.dK (dcR rs As))
structure BkAt (a:Adr) (H:Hp) (x:Addr) (rs:List RR) (As:List RA) (os:List Nat):Prop where
 bk:BkX a H x rs As os
 ln:As.length=rs.length
 nn:(rs.map RR.name).Nodup
 l6:rs.length <= 6
 ru:∀ (i:Nat) (r:RR) (A:RA),rs[i]?=some r->As[i]?=some A->RuX a.cRule H A r
 os:Ors (bsR rs) rs.length os
 ba:qiv rs
noncomputable def spBIG (a:Adr):Sp:=λvs H Q E=>∃ (x dx pr:Addr) (rs:List RR) (As:List RA),vs=[.ref x,.ref pr]/\H x=some (.ins a.cBook dx [])/\H pr=some (.lst (As.map λA=>.ref A.p))/\As.length=rs.length/\(rs.map RR.name).Nodup/\rs.length <= 6/\qiv rs/\(∀ (i:Nat) (r:RR) (A:RA),rs[i]?=some r->As[i]?=some A->RuX a.cRule H A r) /\
 (∀ H' os,SameBut x H H'->BkX a H' x rs As os->Ors (bsR rs) rs.length os->Q .non H')/\OutR a (rs.map RR.name) (bsR rs) H E
noncomputable def spTn (a:Adr):Sp:=λvs H Q _=>∃ (x:Addr) (rs:List RR) (As:List RA) (os:List Nat),vs=[.ref x]/\BkX a H x rs As os/\As.length=rs.length/\rs.length <= 6/\∀ (q:Addr) (H':Hp),H q=none->Same H H'->H' q=some (.lst ((rs.map RR.name).map V.str))->Q (.ref q) H'
noncomputable def spBkG (a:Adr):Sp:=λvs H Q E=>∃ ls:List Str,vs=[.str (qew ls)]/\Lng ls/\(∀ rs,qfa ls=.ok rs->(∀ (x:Addr) (H':Hp) (As:List RA) (os:List Nat),Same H H'->BkAt a H' x rs As os->Q (.ref x) H')/\OutR a (rs.map RR.name) (bsR rs) H E)/\∀ e,qfa ls=.error e->OutE a e H E
theorem Ru_of {a:Adr} {H:Hp} {A:RA} {r:RR} (h:RuX a.cRule H A r):Ru a.cRule H (.ref A.p) r.name (qd1 r.base):=by
 obtain ⟨v,us,h⟩:=h
 exact ⟨A.p,A.dx,_,rfl,h.hx,rfl,rfl⟩
theorem rus_of {a:Adr} {H:Hp} {rs:List RR} {As:List RA} (ln:As.length=rs.length) (ok:qiv rs) (ru:∀ (i:Nat) (r:RR) (A:RA),rs[i]?=some r->As[i]?=some A->RuX a.cRule H A r):Rus a.cRule H (As.map λA=>.ref A.p) (rs.map RR.name) (bsR rs):=by
 refine ⟨by rw [Ab,Ab,ln],λj y e => ?_⟩
 rw [Ak] at e
 cases eA:As[j]? with
 | none=>rw [eA] at e; cases e
 | some A =>
  rw [eA] at e
  cases e
  have lj:j < rs.length:=by rw [<- ln]; exact (Ae.mp eA).1
  have hr:rs[j]?=some rs[j]:=Ag lj
  rw [nm_R hr,qu8 ok hr]
  exact Ru_of (ru j _ A hr eA)
theorem Sta.inn {C:Addr} {H:Hp} {d:Addr} {rs:List RR} {As:List RA} (st:Sta C H d rs As):∀ z ∈ d :: As.flatMap own,H z ≠ none:=λz hz e=>by
 rcases Ao.mp hz with rfl | hz
 .rw [st.hd] at e; cases e
 .obtain ⟨A',hA',hz'⟩:=B8.mp hz
  obtain ⟨jA,hjA⟩:=AV hA'
  have lj:jA < rs.length:=by rw [<- st.ln]; exact (Ae.mp hjA).1
  obtain ⟨v',us',ry⟩:=st.ru jA _ A' (Ag lj) hjA
  simp only [own,Ao,At,or_false] at hz'
  rcases hz' with rfl | rfl | rfl | rfl | rfl
  .rw [ry.hx] at e; cases e
  .rw [ry.he] at e; cases e
  .rw [ry.ha] at e; cases e
  .rw [ry.hl] at e; cases e
  .rw [ry.hy] at e; cases e
theorem Sta.keep {C:Addr} {H H':Hp} {d:Addr} {rs:List RR} {As:List RA} {S:List Addr} (st:Sta C H d rs As) (k:KeepT S H H') (n:∀ z ∈ d :: As.flatMap own,z ∉ S):Sta C H' d rs As :=
 ⟨k _ _ (.inl (n d Aq)) st.hd,st.ln,st.nd,st.nn,λi r A h1 h2=>(st.ru i r A h1 h2).keep k λz hz=>n z (Au _ (qna h2 z hz))⟩
structure RB (a:Adr) (H0 H:Hp) (d q ql:Addr) (ls:List Str) (i:Nat) (rs:List RR) (As:List RA) (rv:List V) (rows:List Rw7):Prop where
 sm:Same H0 H
 hl:H ql=some (.lst (ls.map V.str))
 st:Sta a.cRule H d rs As
 hq:H q=some (.lst rv)
 rl:rv.length=rows.length
 rr:∀ (j:Nat) (y:V),rv[j]?=some y->∃ p row,y=.ref p/\rows[j]?=some row/\H p=some (.lst (qco row))/\p ∉ d :: As.flatMap own/\p ≠ q
 ro:(qh2 ls).take i=rows.map some
 rd:qai [] 0 ((qh2 ls).take i)=.ok rs
 bn:Bn i rs
 l6:rs.length <= 6
 ht:qw7 rs rows
 nm:∀ row ∈ rows,(qar rs (qan row)).isSome=true
 qo:q ∉ d :: As.flatMap own
 lo:ql ∉ d :: As.flatMap own
 nq:ql ≠ q
 fr:∀ z ∈ q :: d :: As.flatMap own,H0 z=none
theorem RB.same {a:Adr} {H0 H H':Hp} {d q ql:Addr} {ls:List Str} {i:Nat} {rs:List RR} {As:List RA} {rv:List V} {rows:List Rw7} (b:RB a H0 H d q ql ls i rs As rv rows) (s:Same H H'):RB a H0 H' d q ql ls i rs As rv rows :=
 ⟨b.sm.trans s,s _ _ b.hl,b.st.same s,s _ _ b.hq,b.rl,λj y e=>by obtain ⟨p,row,h1,h2,h3,h4⟩:=b.rr j y e; exact ⟨p,row,h1,h2,s _ _ h3,h4⟩,b.ro,b.rd,b.bn,b.l6,b.ht,b.nm,b.qo,b.lo,b.nq,b.fr⟩
theorem RB.next {a:Adr} {H0 J1 H2:Hp} {d q ql qr:Addr} {ls:List Str} {i:Nat} {rs rs':List RR} {As As':List RA} {rv:List V} {rows:List Rw7} {row:Rw7} (b:RB a H0 J1 d q ql ls i rs As rv rows) (hqr:J1 qr=some (.lst (qco row))) (nqr:qr ∉ d :: As.flatMap own) (nqq:qr ≠ q) (hop:(qh2 ls)[i]?=some (some row)) (n40:i ≠ 40) (rd':qcf rs i row=.ok rs')
  (k:KeepT (d :: As.flatMap own) J1 H2) (f:Frs J1 As As') (st':Sta a.cRule H2 d rs' As'):RB a H0 (upd H2 q (.lst (rv ++ [.ref qr]))) d q ql ls (i + 1) rs' As' (rv ++ [.ref qr]) (rows ++ [row]):=by
 have did:=qom rd'
 have ap:∀ z,z ∉ d :: As.flatMap own->J1 z ≠ none->z ∉ d :: As'.flatMap own:=λz hz hn h=>by
  rcases Ao.mp h with e | h
  .exact hz (by rw [e]; exact Aq)
  .rcases f z h with g | g
   .exact hz (Au _ g)
   .exact hn g
 have nq:J1 q ≠ none:=λz=>by rw [b.hq] at z; cases z
 have q2:H2 q=some (.lst rv):=k _ _ (.inl b.qo) b.hq
 have qo:=ap q b.qo nq
 have kq:KeepT [q] H2 (upd H2 q (.lst (rv ++ [.ref qr]))):=KeepT.put (Aj.mpr rfl) q2 (λ_ z=>nomatch z)
 have kl:∀ {p:Addr} {xs:List V},J1 p=some (.lst xs)->p ∉ d :: As.flatMap own->p ≠ q->upd H2 q (.lst (rv ++ [.ref qr])) p=some (.lst xs):=λh1 h2 h3=>by
  rw [zf h3]; exact k _ _ (.inl h2) h1
 refine ⟨λx o e => ?_,kl b.hl b.lo b.nq,st'.keep kq λz hz hz2=>qo (by rw [<- Aj.mp hz2]; exact hz),zb,by rw [Ai,Ai,b.rl]; rfl,λj y e => ?_,by rw [qbg hop,b.ro,Ar]; rfl,?_,did.bn b.bn,did.len b.l6,did.hasT b.ht,λr hr => ?_,qo,ap ql b.lo (λz=>by rw [b.hl] at z; cases z),b.nq,λz hz => ?_⟩
 .have nz:∀ z ∈ q :: d :: As.flatMap own,x ≠ z:=λz hz q=>by rw [q,b.fr z hz] at e; cases e
  rw [zf (nz q Aq)]
  exact k _ _ (.inl λz=>nz x (Au _ z) rfl) (b.sm _ _ e)
 .by_cases c:j < rv.length
  .rw [AQ c] at e
   obtain ⟨p,row',h1,h2,h3,h4,h5⟩:=b.rr j y e
   exact ⟨p,row',h1,by rw [AQ (by rw [<- b.rl]; exact c)]; exact h2,kl h3 h4 h5,ap p h4 (λz=>by rw [h3] at z; cases z),h5⟩
  .rw [AL (by lia)] at e
   have l1:j - rv.length < 1:=(Ae.mp e).1
   have l2:=b.rl
   rw [show j - rv.length=0 by lia] at e
   cases e
   exact ⟨qr,row,rfl,by rw [AL (by lia),show j - rows.length=0 by lia]; rfl,kl hqr nqr nqq,ap qr nqr (λz=>by rw [hqr] at z; cases z),nqq⟩
 .rw [(qi4 b.rd hop).2,qhg n40 rd' []]; rfl
 .rcases A5.mp hr with z | z
  .exact did.has.2 _ (b.nm r z)
  .rw [Aj.mp z]; exact did.has.1
 .rcases Ao.mp hz with e | hz
  .rw [e]; exact b.fr q Aq
  .rcases Ao.mp hz with e | hz
   .rw [e]; exact b.fr d (Au _ Aq)
   .rcases f z hz with g | g
    .exact b.fr z (Au _ (Au _ g))
    .exact b.sm.free g
structure SB (a:Adr) (H0 H:Hp) (d q:Addr) (i:Nat) (rs0 rs:List RR) (As:List RA) (rv:List V) (rows:List Rw7):Prop where
 sm:Same H0 H
 st:Sta a.cRule H d rs As
 hq:H q=some (.lst rv)
 rl:rv.length=rows.length
 rr:∀ (j:Nat) (y:V),rv[j]?=some y->∃ p row,y=.ref p/\rows[j]?=some row/\H p=some (.lst (qco row))/\p ∉ d :: As.flatMap own/\p ≠ q
 sd:SetDid rs0 rs
 se:qat rs0 0 (rows.take i)=.ok rs
 bn:Bn (100 + i) rs
 nm:∀ row ∈ rows,(qar rs (qan row)).isSome=true
 qo:q ∉ d :: As.flatMap own
 fr:∀ z ∈ q :: d :: As.flatMap own,H0 z=none
theorem SB.same {a:Adr} {H0 H H':Hp} {d q:Addr} {i:Nat} {rs0 rs:List RR} {As:List RA} {rv:List V} {rows:List Rw7} (b:SB a H0 H d q i rs0 rs As rv rows) (s:Same H H'):SB a H0 H' d q i rs0 rs As rv rows :=
 ⟨b.sm.trans s,b.st.same s,s _ _ b.hq,b.rl,λj y e=>by obtain ⟨p,row,h1,h2,h3,h4⟩:=b.rr j y e; exact ⟨p,row,h1,h2,s _ _ h3,h4⟩,b.sd,b.se,b.bn,b.nm,b.qo,b.fr⟩
theorem SB.next {a:Adr} {H0 H H2:Hp} {d q:Addr} {i:Nat} {rs0 rs rs':List RR} {As:List RA} {rv:List V} {rows:List Rw7} {row:Rw7} (b:SB a H0 H d q i rs0 rs As rv rows) (hi:rows[i]?=some row) (h:qcp rs i row=.ok rs') (k:KeepT (d :: As.flatMap own) H H2) (st':Sta a.cRule H2 d rs' As):SB a H0 H2 d q (i + 1) rs0 rs' As rv rows:=by
 obtain ⟨did,bn⟩:=qkp h
 refine ⟨λx o e=>k _ _ (.inl λz => ?_) (b.sm _ _ e),st',k _ _ (.inl b.qo) b.hq,b.rl,λj y e => ?_,⟨did.nm.trans b.sd.nm,did.ba.trans b.sd.ba⟩,?_,bn _ b.bn,λr hr=>by rw [qby _ did.nm]; exact b.nm r hr,b.qo,b.fr⟩
 .rw [b.fr x (Au _ z)] at e; cases e
 .obtain ⟨p,row',h1,h2,h3,h4,h5⟩:=b.rr j y e
  exact ⟨p,row',h1,h2,k _ _ (.inl h4) h3,h4,h5⟩
 .rw [(qhf b.se hi).2,qfb h []]; rfl
theorem qra {α:Type} (l:List α):(l.map some).filterMap id=l:=by
 induction l with
 | nil=>rfl
 | cons x l ih=>rw [A4,Df]; dsimp only [id]; rw [ih]
noncomputable def owA (ns:List Int) (k:Nat):Nat:=(cell ns (3 + 5 * (k:Int)) % 3).toNat
noncomputable def rkA (ns:List Int) (k:Nat):Int:=((k:Int) * (1 + cell ns 0 / 21 % 6) + cell ns 0 / 21 / 6) % 7
theorem sgn_ed {c:Int} {e i:Nat} (ee:c % 2=(e:Int)):(c / 128 + (i:Int) / (1 + c % 2)) % 26=(((sgn (c / 128) e i - 97:Nat)):Int):=by
 rw [ee]
 unfold sgn
 have:(i:Int) / (1 + (e:Int))=((i / (1 + e):Nat):Int):=by
  rw [Int.natCast_ediv]
  rfl
 rw [this]
 clear this ee
 lia
theorem sgn_26 {t:Int} {e i:Nat}:sgn t e i - 97 < 26:=by unfold sgn; lia
theorem sgn_97 {t:Int} {e i:Nat}:97 + (sgn t e i - 97)=sgn t e i:=by unfold sgn; lia
theorem md (c:Int) (m:Nat) (h:0 < m):∃ j:Nat,c % (m:Int)=(j:Int)/\j < m:=by
 have z0:=CQ c (show (m:Int) ≠ 0 by lia)
 have z1:=Cw c (show (0:Int) < (m:Int) by lia)
 exact ⟨(c % (m:Int)).toNat,by lia,by lia⟩
theorem mdl (c:Int) (m:Nat):∃ j:Nat,c % ((m + 1:Nat):Int)=(j:Int)/\j <= m:=by
 obtain ⟨j,e,h⟩:=md c (m + 1) (DY _)
 exact ⟨j,e,Nat.le_of_lt_succ h⟩
theorem num46 (c:Int):∃ z n e:Nat,1 + c % 2 + c / 2 % (8 - c % 2)=(z:Int)/\c / 16 % ((z:Int) - c % 2)=(n:Int)/\c % 2=(e:Int)/\e <= 1/\n + 1 + e <= z/\z <= 8/\0 < 8 - c % 2/\0 < (z:Int) - c % 2:=by
 have sB:=sizeB c
 obtain ⟨e,ee,he⟩:=mdl c 1
 have ee:c % 2=(e:Int):=ee
 obtain ⟨z,ez⟩:=Int.eq_ofNat_of_zero_le (a:=1 + c % 2 + c / 2 % (8 - c % 2)) (by lia)
 rw [ez] at sB |-
 obtain ⟨n,en,hn⟩:=md (c / 16) (z - e) (by lia)
 rw [show ((z - e:Nat):Int)=(z:Int) - c % 2 by lia] at en
 exact ⟨z,n,e,rfl,en,ee,he,by lia,by lia,by lia,by lia⟩
theorem cd2 {c i:Int} {e:Nat} (ee:c % 2=(e:Int)) (he:e <= 1):qvw i (1 + c % 2):=⟨by lia,by lia⟩
theorem eo1 {c:Int} {e:Nat} (ee:c % 2=(e:Int)) (h:c % 2=1):e=1:=by lia
theorem io1 {i:Nat} (h:(i:Int) % 2=1):i % 2=1:=by lia
theorem ne1 {c:Int} {e:Nat} (ee:c % 2=(e:Int)) (h:¬ c % 2=1):¬ e=1:=by lia
theorem ni1 {i:Nat} (h:¬ (i:Int) % 2=1):¬ i % 2=1:=by lia
theorem cdA {c:Int} {i g:Nat} (h:i < g) (k:g <= 2):qvw c (40 + 811 * (i:Int)):=⟨by lia,by lia⟩
theorem cdB {c:Int} {i g:Nat} (h:i < g) (k:g <= 2):qvw c (797 + 13 * (i:Int)):=⟨by lia,by lia⟩
theorem om (x:Int) {m:Int} (h:0 < m):1 <= 1 + x % m/\1 + x % m <= m:=by
 have z0:=CQ x (show m ≠ 0 by lia)
 have z1:=Cw x h
 lia
theorem qrb {ns:List Int} {k:Nat}:cell ns (3 + 5 * (k:Int)) % 3=((owA ns k:Nat):Int):=by unfold owA; lia
theorem owA_l {ns:List Int} {k:Nat}:owA ns k < 3:=by unfold owA; lia
structure YlOk (names:List Str) (ow:Nat->Nat) (k:Nat) (ys:List Str):Prop where
 nd:ys.Nodup
 ok:∀ y ∈ ys,∃ b,b < names.length/\y=nm names b/\b ≠ k/\ow b=ow k
noncomputable def spYl (K:Af):Sp:=λvs H Q _=>∃ (l pn:Addr) (ns:List Int) (k:Nat) (names:List Str),vs=[.ref l,.int (k:Int),.ref pn]/\SqL K H l (ns.map V.int)/\H pn=some (.lst (names.map V.str))/\names.Nodup/\k < names.length/\names.length <= 6/\∀ (q:Addr) (H':Hp) (ys:List Str),H q=none->Same H H'->H' q=some (.lst (ys.map V.str))->YlOk names (owA ns) k ys->Q (.ref q) H'
noncomputable def spBaL (K:Af):Sp:=λvs H Q _=>∃ (l pn:Addr) (ns:List Int) (k:Nat) (names:List Str),vs=[.ref l,.int (k:Int),.ref pn]/\SqL K H l (ns.map V.int)/\H pn=some (.lst (names.map V.str))/\k < names.length/\names.length <= 6/\∀ (H':Hp) (o:Option Nat),Same H H'->(∀ b,o=some b->b < names.length/\rkA ns b < rkA ns k)->Q (qhv names o) H'
theorem pos12 (j:Nat) (h:j < 6):∃ m:Int,atI [V.int 1,V.int 2,V.int 4,V.int 8,V.int 16,V.int 32] (j:Int)=some (.int m)/\1 <= m/\m <= 32:=by
 rcases (by lia:j=0 \/ j=1 \/ j=2 \/ j=3 \/ j=4 \/ j=5) with rfl | rfl | rfl | rfl | rfl | rfl
 .exact ⟨1,rfl,by decide,by decide⟩
 .exact ⟨2,rfl,by decide,by decide⟩
 .exact ⟨4,rfl,by decide,by decide⟩
 .exact ⟨8,rfl,by decide,by decide⟩
 .exact ⟨16,rfl,by decide,by decide⟩
 .exact ⟨32,rfl,by decide,by decide⟩
theorem qva {names:List Str} {ow:Nat->Nat} {k:Nat} {ys:List Str} (h:YlOk names ow k ys):YlOk names ow k ys.reverse:=⟨List.pairwise_reverse.mpr (h.nd.imp AX),λy hy=>h.ok y (DC.mp hy)⟩
noncomputable def qfl (r:RR) (pe pa pl:Addr) (sv:V) (py:Addr):List V:=[.str r.name,.str r.who,.str r.owes,qd1 r.opens,qd1 r.base,.int r.many,.str r.unit,.ref pe,.ref pa,.ref pl,sv,.ref py]
structure LR1 (H:Hp) (q:Addr) (r:RR) (pe pa pl py:Addr) (sv:V) (us:List V):Prop where
 hq:H q=some (.lst (qfl r pe pa pl sv py))
 he:H pe=some (.lst (r.ends.map V.str))
 ha:H pa=some (.lst (r.anew.map V.str))
 hl:H pl=some (.lst us)
 tl:Tups H us (r.longer.map qpu)
 hs:StAt H sv r.still
 hy:H py=some (.lst (r.yields.map V.str))
noncomputable def LR (H:Hp) (q:Addr) (r:RR):Prop:=∃ pe pa pl py sv us,LR1 H q r pe pa pl py sv us
theorem LR1.ne {H:Hp} {q:Addr} {r:RR} {pe pa pl py:Addr} {sv:V} {us:List V} (h:LR1 H q r pe pa pl py sv us) {q':Addr} {r':RR} {pe' pa' pl' py':Addr} {sv':V} (h':H q'=some (.lst (qfl r' pe' pa' pl' sv' py'))):pe ≠ q'/\pa ≠ q'/\pl ≠ q'/\py ≠ q':=by
 have st:∀ {p:Addr} {xs:List Str},H p=some (.lst (xs.map V.str))->p ≠ q':=λ{p xs} hp e=>by
  rw [e,h'] at hp
  injection hp with hp
  injection hp with hp
  have:=congrArg (λl=>l[5]?) hp
  rw [show (qfl r' pe' pa' pl' sv' py')[5]?=some (.int r'.many) from rfl,Ak] at this
  cases e5:xs[5]? with
  | none=>rw [e5] at this; cases this
  | some y=>rw [e5] at this; cases this
 refine ⟨st h.he,st h.ha,λe => ?_,st h.hy⟩
 have hl:=h.hl
 rw [e,h'] at hl
 injection hl with hl
 injection hl with hl
 have tl:=h.tl
 rw [<- hl] at tl
 obtain ⟨b,t,e0,_,_⟩:=tl.get' (i:=0) rfl
 cases e0
theorem LR1.upd {H:Hp} {q:Addr} {r:RR} {pe pa pl py:Addr} {sv:V} {us:List V} (h:LR1 H q r pe pa pl py sv us) {q':Addr} {r':RR} {pe' pa' pl' py':Addr} {sv':V} {o:HO} (h':H q'=some (.lst (qfl r' pe' pa' pl' sv' py'))) (n:q ≠ q'):LR1 (L2.upd H q' o) q r pe pa pl py sv us:=by
 obtain ⟨n1,n2,n3,n4⟩:=h.ne h'
 have kt:KeepT [q'] H (L2.upd H q' o):=KeepT.put (Aj.mpr rfl) h' (λ_ z=>nomatch z)
 exact ⟨(zf n).trans h.hq,(zf n1).trans h.he,(zf n2).trans h.ha,(zf n3).trans h.hl,qbs h.tl kt,h.hs.keep kt,(zf n4).trans h.hy⟩
theorem LR1.same {H H':Hp} {q:Addr} {r:RR} {pe pa pl py:Addr} {sv:V} {us:List V} (h:LR1 H q r pe pa pl py sv us) (s:Same H H'):LR1 H' q r pe pa pl py sv us:=⟨s _ _ h.hq,s _ _ h.he,s _ _ h.ha,s _ _ h.hl,h.tl.same s,h.hs.same s,s _ _ h.hy⟩
theorem LR.same {H H':Hp} {q:Addr} {r:RR} (h:LR H q r) (s:Same H H'):LR H' q r:=by
 obtain ⟨pe,pa,pl,py,sv,us,h⟩:=h
 exact ⟨pe,pa,pl,py,sv,us,h.same s⟩
noncomputable abbrev nm9:=nm
structure GR (names:List Str) (ow:Nat->Nat) (rk:Nat->Int) (kinds:List Str) (k:Nat) (r:RR):Prop where
 nm:r.name=nm names k
 wh:qa8 r.who
 os:r.owes=nm9 kinds (ow k)
 kd:(qav r).Nodup
 kn:∀ x ∈ qav r,qa8 x
 ks:∀ x ∈ qav r,x ∈ kinds.take 12
 bo:(∃ b,b < names.length/\r.base=some (nm9 names b)/\rk b < rk k/\r.opens=none) \/ (r.base=none/\∃ o,r.opens=some o)
 mn:1 <= r.many/\r.many <= 40
 un:r.unit ∈ qb7
 lg:r.longer.length <= 2/\∀ t ∈ r.longer,(1 <= t.2.1/\t.2.1 <= 20)/\1 <= t.2.2/\t.2.2 <= 3
 ln:r.ends.length <= 3/\r.anew.length <= 2
 yl:YlOk names ow k r.yields
noncomputable def spLrl (K:Af):Sp:=λvs H Q _=>∃ (l pn pk:Addr) (ns:List Int) (k:Nat) (names kinds:List Str),vs=[.ref l,.int (k:Int),.ref pn,.ref pk]/\SqL K H l (ns.map V.int)/\H pn=some (.lst (names.map V.str))/\H pk=some (.lst (kinds.map V.str))/\names.Nodup/\k < names.length/\names.length <= 6/\kinds.Nodup/\12 <= kinds.length/\kinds.length <= 60/\(∀ x ∈ kinds,qa8 x) /\
 ∀ (q:Addr) (H':Hp) (r:RR) (pe pa pl py:Addr) (sv:V) (us:List V),H q=none->H pe=none->H pa=none->H pl=none->H py=none->Same H H'->LR1 H' q r pe pa pl py sv us->GR names (owA ns) (rkA ns) kinds k r->Q (.ref q) H'
theorem eleven {M:List Str} (h:M.length=11):∃ m0 m1 m2 m3 m4 m5 m6 m7 m8 m9 m10,M=[m0,m1,m2,m3,m4,m5,m6,m7,m8,m9,m10]:=by
 match M,h with
 | [m0,m1,m2,m3,m4,m5,m6,m7,m8,m9,m10],_=>exact ⟨_,_,_,_,_,_,_,_,_,_,_,rfl⟩
theorem qxa {kinds:List Str} {o t:Nat} (nd:kinds.Nodup) (l:12 <= kinds.length) (ho:o < 3) (ht:t < 11) (nk:∀ x ∈ kinds,qa8 x):∃ M:List Str,((kinds.take o ++ (kinds.take 12).drop (o + 1)).drop t ++ (kinds.take o ++ (kinds.take 12).drop (o + 1)).take t)=M/\M.length=11/\M.Nodup/\(∀ x ∈ M,qa8 x/\x ∈ kinds.take 12)/\nm kinds o ∉ M/\nm kinds o ∈ kinds.take 12:=by
 refine ⟨_,rfl,?_,?_,?_,?_,?_⟩
 all_goals
  have lL:(kinds.take o ++ (kinds.take 12).drop (o + 1)).length=11:=by
   rw [Ai,A2,Bl,A2]; lia
  have e12:kinds.take 12=kinds.take o ++ nm kinds o :: (kinds.take 12).drop (o + 1):=by
   have e:=Bv o (kinds.take 12)
   rw [List.take_take,Nat.min_eq_left (by lia),Cj (by rw [A2]; lia)] at e
   refine e.symm.trans ?_
   have eo:(kinds.take 12)[o]'(by rw [A2]; lia)=nm kinds o:=by
    rw [List.getElem_take]
    unfold nm
    rw [Bc,Ag (by lia)]; rfl
   rw [eo]
  have nd12:(kinds.take 12).Nodup:=(BJ _ _).nodup nd
  rw [e12,AY,Bb] at nd12
  obtain ⟨n1,⟨n2,n3⟩,n4⟩:=nd12
  have ndL:(kinds.take o ++ (kinds.take 12).drop (o + 1)).Nodup:=AY.mpr ⟨n1,n3,λa ha b hb=>n4 a ha b (Au _ hb)⟩
  have pm:((kinds.take o ++ (kinds.take 12).drop (o + 1)).drop t ++ (kinds.take o ++ (kinds.take 12).drop (o + 1)).take t).Perm (kinds.take o ++ (kinds.take 12).drop (o + 1)):=by
   have:=List.perm_append_comm (l₁:=(kinds.take o ++ (kinds.take 12).drop (o + 1)).drop t) (l₂:=(kinds.take o ++ (kinds.take 12).drop (o + 1)).take t)
   rwa [Bv] at this
 .rw [pm.length_eq,lL]
 .exact pm.nodup_iff.mpr ndL
 .intro x hx
  have hx:=pm.mem_iff.mp hx
  have:x ∈ kinds.take 12:=by
   rw [e12]
   rcases A5.mp hx with z | z
   .exact Bq _ z
   .exact AD _ (Au _ z)
  exact ⟨nk x (BD this),this⟩
 .intro hx
  rcases A5.mp (pm.mem_iff.mp hx) with z | z
  .exact n4 _ z _ Aq rfl
  .exact n2 z
 .rw [e12]; exact AD _ Aq
noncomputable def qfm (c:Int):Str:=if c % 3=0 then wS "days" else if c % 3=1 then wS "weeks" else wS "court"
theorem qxb (c:Int):atI [V.str (Aa "days"),V.str (Aa "weeks"),V.str (Aa "court")] (c % 3)=some (.str (qfm c))/\qfm c ∈ qb7:=by
 unfold qfm
 rcases (by lia:c % 3=0 \/ c % 3=1 \/ c % 3=2) with e | e | e <;> rw [e]
 .exact ⟨rfl,by simp [qb7]⟩
 .exact ⟨rfl,by simp [qb7]⟩
 .exact ⟨rfl,by simp [qb7]⟩
theorem cut2 (vs:List V) (a b:Nat) (h:a <= vs.length) (h2:b <= vs.length):qgz vs (some (a:Int)) (some (b:Int))=(vs.take b).drop a:=by
 have e1:HT.sIx vs.length 0 (some (a:Int))=a:=by
  simp only [HT.sIx]
  split <;> lia
 have e2:HT.sIx vs.length vs.length (some (b:Int))=b:=by
  simp only [HT.sIx]
  split <;> lia
 unfold qgz
 rw [e1,e2]
 rw [List.drop_take]
theorem qvb {w m0 m1 m2 m3 m4 m5 m6 m7 m8 m9 m10:Str} {e a g:List Str} {o s:List Str} (nd:[m0,m1,m2,m3,m4,m5,m6,m7,m8,m9,m10].Nodup) (nw:w ∉ [m0,m1,m2,m3,m4,m5,m6,m7,m8,m9,m10]) (he:e.Sublist [m1,m2,m3]) (ha:a.Sublist [m4,m5]) (hg:g.Sublist [m6,m7]) (ho:o.Sublist [m0]) (hs:s.Sublist [m8,m9]):(([w] ++ e ++ a ++ g) ++ o ++ s).Nodup/\∀ x ∈ (([w] ++ e ++ a ++ g) ++ o ++ s),x=w \/ x ∈ [m0,m1,m2,m3,m4,m5,m6,m7,m8,m9,m10]:=by
 have sb:(([w] ++ e ++ a ++ g) ++ o ++ s).Sublist (([w] ++ [m1,m2,m3] ++ [m4,m5] ++ [m6,m7]) ++ [m0] ++ [m8,m9]):=((((((BQ _).append he).append ha).append hg).append ho).append hs)
 constructor
 .refine sb.nodup ?_
  simp only [AR,AW,Bb,Ao,At,or_false,not_or] at nd nw |-
  obtain ⟨⟨a1,a2,a3,a4,a5,a6,a7,a8,a9,a10⟩,⟨b2,b3,b4,b5,b6,b7,b8,b9,b10⟩,⟨c3,c4,c5,c6,c7,c8,c9,c10⟩,⟨d4,d5,d6,d7,d8,d9,d10⟩,⟨e5,e6,e7,e8,e9,e10⟩,⟨f6,f7,f8,f9,f10⟩,⟨g7,g8,g9,g10⟩,⟨h8,h9,h10⟩,⟨i9,i10⟩,_⟩:=nd
  obtain ⟨w0,w1,w2,w3,w4,w5,w6,w7,w8,w9,w10⟩:=nw
  exact ⟨⟨w1,w2,w3,w4,w5,w6,w7,w0,w8,w9⟩,⟨b2,b3,b4,b5,b6,b7,AX a1,b8,b9⟩,⟨c3,c4,c5,c6,c7,AX a2,c8,c9⟩,⟨d4,d5,d6,d7,AX a3,d8,d9⟩,⟨e5,e6,e7,AX a4,e8,e9⟩,⟨f6,f7,AX a5,f8,f9⟩,⟨g7,AX a6,g8,g9⟩,⟨AX a7,h8,h9⟩,⟨a8,a9⟩,i9,not_false,.nil⟩
 .intro x hx
  have:=sb.subset hx
  simp only [AR,AW,Ao,At,or_false] at this |-
  rcases this with h | h | h | h | h | h | h | h | h | h | h <;> simp [h]
theorem useV {p G:Option V->Prop} {R:Prop} (m:(∀ x,p x->G x)->R) (l:∀ x,p x->G x):R:=m l
noncomputable def off (p:Addr) (H:Hp):Hp:=λb=>if b=p then none else H b
theorem qiw {p b:Addr} {H:Hp} {o:HO} (n:b ≠ p) (h:H b=some o):off p H b=some o:=by unfold off; rw [if_neg n]; exact h
theorem qoo {p:Addr} {H:Hp}:Same (off p H) H:=λb o e=>by
 unfold off at e
 by_cases c:b=p
 .rw [if_pos c] at e; cases e
 .rw [if_neg c] at e; exact e
theorem qvc {p:Addr} {H H':Hp} (k:∀ b o,b ≠ p->H b=some o->H' b=some o):Same (off p H) (off p H'):=λb o e=>by
 unfold off at e |-
 by_cases c:b=p
 .rw [if_pos c] at e; cases e
 .rw [if_neg c] at e |-; exact k b o c e
theorem LR1.offp {H:Hp} {q:Addr} {r:RR} {pe pa pl py:Addr} {sv:V} {us:List V} (h:LR1 H q r pe pa pl py sv us) {p:Addr} {zs:List V} (hp:H p=some (.lst zs)) (n0:q ≠ p) (n1:pe ≠ p) (n2:pa ≠ p) (n3:pl ≠ p) (n4:py ≠ p):LR1 (off p H) q r pe pa pl py sv us:=by
 have tt:∀ {b:Addr} {t:List V},H b=some (.tup t)->off p H b=some (.tup t):=λ{b t} e=>qiw (λz=>by rw [z,hp] at e; cases e) e
 have tu:∀ {us:List V} {ts:List (List V)},Tups H us ts->Tups (off p H) us ts:=λ{us ts} t=>by
  induction t with
  | nil=>exact .nil
  | cons h _ ih=>exact .cons (tt h) ih
 refine ⟨qiw n0 h.hq,qiw n1 h.he,qiw n2 h.ha,qiw n3 h.hl,tu h.tl,?_,qiw n4 h.hy⟩
 have hs:=h.hs
 cases e:r.still with
 | none=>rw [e] at hs; exact hs
 | some s=>rw [e] at hs; obtain ⟨b,h1,h2⟩:=hs; exact ⟨b,h1,tt h2⟩
structure LRs (H0 H:Hp) (p:Addr) (qs:List Addr) (rs:List RR):Prop where
 sm:Same H0 H
 hp:H p=some (.lst (qs.map V.ref))
 ln:qs.length=rs.length
 nd:qs.Nodup
 np:∀ q ∈ qs,q ≠ p/\H0 q=none
 pn:H0 p=none
 lr:∀ (i:Nat) (q:Addr) (r:RR),qs[i]?=some q->rs[i]?=some r->LR H q r
theorem LRs.same {H0 H H':Hp} {p:Addr} {qs:List Addr} {rs:List RR} (b:LRs H0 H p qs rs) (s:Same H H'):LRs H0 H' p qs rs:=⟨b.sm.trans s,s _ _ b.hp,b.ln,b.nd,b.np,b.pn,λi q r h1 h2=>(b.lr i q r h1 h2).same s⟩
theorem LRs.put {H0 H:Hp} {p:Addr} {qs:List Addr} {rs:List RR} {j:Nat} {q:Addr} {r r':RR} {pe pa pl py:Addr} {sv:V} {o:HO} (b:LRs H0 H p qs rs) (hj:qs[j]?=some q) (old:H q=some (.lst (qfl r pe pa pl sv py))) (x:LR (upd H q o) q r'):LRs H0 (upd H q o) p qs (rs.set j r'):=by
 obtain ⟨np,nf⟩:=b.np q (Ap hj)
 refine ⟨qaj b.sm nf,(zf (AX np)).trans b.hp,by rw [BT]; exact b.ln,b.nd,b.np,b.pn,λi q2 r2 h1 h2 => ?_⟩
 rw [Ce] at h2
 by_cases c:j=i
 .subst c
  rw [if_pos rfl] at h2
  rw [hj] at h1
  cases h1
  split at h2
  .cases h2; exact x
  .cases h2
 .rw [if_neg c] at h2
  obtain ⟨pe',pa',pl',py',sv',us',h⟩:=b.lr i q2 r2 h1 h2
  refine ⟨pe',pa',pl',py',sv',us',h.upd old λz=>c ?_⟩
  rw [z] at h1
  have lj:=(Ae.mp hj).1
  exact (List.getElem?_inj lj b.nd).mp (hj.trans h1.symm)
noncomputable def GRs (names:List Str) (ow:Nat->Nat) (rk:Nat->Int) (kinds:List Str) (rs:List RR):Prop:=∀ (k:Nat) (r:RR),rs[k]?=some r->GR names ow rk kinds k r
structure Fewer (r r':RR):Prop where
 nm:r'.name=r.name
 wh:r'.who=r.who
 os:r'.owes=r.owes
 op:r'.opens=r.opens
 ba:r'.base=r.base
 mn:r'.many=r.many
 un:r'.unit=r.unit
 en:r'.ends.Sublist r.ends
 an:r'.anew.Sublist r.anew
 lg:r'.longer.Sublist r.longer
 st:r'.still=r.still \/ r'.still=none
 yl:r'.yields.Sublist r.yields
theorem GR.fewer {names:List Str} {ow:Nat->Nat} {rk:Nat->Int} {kinds:List Str} {k:Nat} {r r':RR} (g:GR names ow rk kinds k r) (f:Fewer r r'):GR names ow rk kinds k r':=by
 have sb:(qav r').Sublist (qav r):=by
  unfold qav
  rw [f.os,f.op]
  refine ((((((BQ _).append f.en).append f.an).append (f.lg.map _)).append (BQ _)).append ?_)
  rcases f.st with e | e
  .rw [e]; exact BQ _
  .rw [e]; exact List.nil_sublist _
 refine ⟨f.nm.trans g.nm,by rw [f.wh]; exact g.wh,f.os.trans g.os,sb.nodup g.kd,λx hx=>g.kn x (sb.subset hx),λx hx=>g.ks x (sb.subset hx),by rw [f.ba,f.op]; exact g.bo,by rw [f.mn]; exact g.mn,by rw [f.un]; exact g.un,⟨A1 f.lg.length_le g.lg.1,λt ht=>g.lg.2 t (f.lg.subset ht)⟩,⟨A1 f.en.length_le g.ln.1,A1 f.an.length_le g.ln.2⟩,⟨f.yl.nodup g.yl.nd,λy hy=>g.yl.ok y (f.yl.subset hy)⟩⟩
noncomputable def stN:Option (Str × Str)->Nat
 | none=>0
 | some _=>1
noncomputable def exR (r:RR):Nat:=r.ends.length + r.anew.length + r.longer.length + r.yields.length + stN r.still
noncomputable def qdk (t:Nat) (n:Nat) (r:RR):RR:=match t with
 | 0=>{ r with ends:=r.ends.take n }
 | 1=>{ r with anew:=r.anew.take n }
 | 2=>{ r with longer:=r.longer.take n }
 | _=>{ r with yields:=r.yields.take n }
noncomputable def qh4 (t:Nat) (r:RR):Nat:=match t with
 | 0=>r.ends.length
 | 1=>r.anew.length
 | 2=>r.longer.length
 | _=>r.yields.length
noncomputable def qnb (t:Nat) (r:RR):Nat:=match t with
 | 0=>0
 | 1=>r.ends.length
 | 2=>r.ends.length + r.anew.length
 | 3=>r.ends.length + r.anew.length + r.longer.length
 | _=>r.ends.length + r.anew.length + r.longer.length + r.yields.length
theorem qh5 (t n:Nat) (r:RR):Fewer r (qdk t n r):=by
 have R:∀ {α:Type} (l:List α),l.Sublist l:=λl=>BQ l
 match t with
 | 0=>exact ⟨rfl,rfl,rfl,rfl,rfl,rfl,rfl,BJ _ _,R _,R _,.inl rfl,R _⟩
 | 1=>exact ⟨rfl,rfl,rfl,rfl,rfl,rfl,rfl,R _,BJ _ _,R _,.inl rfl,R _⟩
 | 2=>exact ⟨rfl,rfl,rfl,rfl,rfl,rfl,rfl,R _,R _,BJ _ _,.inl rfl,R _⟩
 | t + 3=>exact ⟨rfl,rfl,rfl,rfl,rfl,rfl,rfl,R _,R _,R _,.inl rfl,BJ _ _⟩
theorem qh6 {t n:Nat} (ht:t < 4) (r:RR):qnb (t + 1) (qdk t n r)=qnb t r + qh4 t (qdk t n r)/\qh4 t (qdk t n r) <= n:=by
 rcases (by lia:t=0 \/ t=1 \/ t=2 \/ t=3) with rfl | rfl | rfl | rfl
 .exact ⟨(CM _).symm,Di _ _⟩
 .exact ⟨rfl,Di _ _⟩
 .exact ⟨rfl,Di _ _⟩
 .exact ⟨rfl,Di _ _⟩
noncomputable def spLrs (K:Af):Sp:=λvs H Q _=>∃ (l pn pk:Addr) (ns:List Int) (names kinds:List Str) (mo:Nat),vs=[.ref l,.ref pn,.ref pk,.int (mo:Int)]/\SqL K H l (ns.map V.int)/\H pn=some (.lst (names.map V.str))/\H pk=some (.lst (kinds.map V.str))/\names.Nodup/\names.length <= 6/\kinds.Nodup/\12 <= kinds.length/\kinds.length <= 60/\(∀ x ∈ kinds,qa8 x)/\6 <= mo/\mo <= 100 /\
 ∀ (p:Addr) (H':Hp) (qs:List Addr) (rs:List RR),LRs H H' p qs rs->rs.length=names.length->GRs names (owA ns) (rkA ns) kinds rs->(rs.map exR).sum + names.length <= mo->Q (.ref p) H'
theorem qkq {rs:List RR} {j:Nat} {r:RR} (h:rs[j]?=some r):((rs.take (j + 1)).map exR).sum=((rs.take j).map exR).sum + exR r:=by
 rw [qbg h,Ar,List.sum_append]; simp
theorem take_set' {rs:List RR} {j:Nat} {r:RR}:(rs.set j r).take j=rs.take j:=by
 rw [List.take_set_of_le (Az _)]
theorem qpx (vs:List V) (n:Nat):qgz vs none (some (n:Int))=vs.take n:=by
 by_cases h:n <= vs.length
 .exact qkj vs n h
 .rw [BN (by lia)]
  unfold qgz
  have e2:HT.sIx vs.length vs.length (some (n:Int))=vs.length:=by
   simp only [HT.sIx]
   split <;> lia
  rw [show HT.sIx vs.length 0 none=0 from rfl,e2]
  simp
theorem qsq {H:Hp} {us:List V} {ts:List (List V)} (t:Tups H us ts):∀ n,Tups H (us.take n) (ts.take n):=by
 induction t with
 | nil=>intro n; rw [List.take_nil,List.take_nil]; exact .nil
 | cons h _ ih =>
  intro n
  cases n with
  | zero=>exact .nil
  | succ n=>exact .cons h (ih n)
theorem qh7 {names:List Str} {ow:Nat->Nat} {rk:Nat->Int} {kinds:List Str} {rs:List RR} {j:Nat} {r r':RR} (g:GRs names ow rk kinds rs) (h:rs[j]?=some r) (f:Fewer r r'):GRs names ow rk kinds (rs.set j r'):=λk r2 h2=>by
 rw [Ce] at h2
 by_cases c:j=k
 .subst c
  rw [if_pos rfl] at h2
  split at h2
  .cases h2; exact (g j r h).fewer f
  .cases h2
 .rw [if_neg c] at h2; exact g k r2 h2
noncomputable def nS (n:Int):Str:=Aa (toString n)
noncomputable def qao:Rw7->List Str
 | .term x w o d y m u=>[wS "term",x,wS "of",w,wS "due",o,fbS d,y,nS m,u]
 | .ends x k=>[wS "ends",x,k]
 | .anew x k=>[wS "anew",x,k]
 | .longer x k u t=>[wS "longer",x,k,nS u,wS "times",nS t]
 | .still x k l=>[wS "still",x,k,l]
 | .yields x y=>[wS "yields",x,y]
noncomputable def qam (row:Rw7):Str:=DI ⟨#[32]⟩ (qao row)
noncomputable def qcz:Rw7->Prop
 | .term x w o _ y m u=>qa8 x/\qa8 w/\qa8 o/\qa8 y/\(1 <= m/\m <= 40)/\u ∈ qb7
 | .ends x k=>qa8 x/\qa8 k
 | .anew x k=>qa8 x/\qa8 k
 | .longer x k u t=>qa8 x/\qa8 k/\(1 <= u/\u <= 20)/\(1 <= t/\t <= 3)
 | .still x k l=>qa8 x/\qa8 k/\qa8 l
 | .yields x y=>qa8 x/\qa8 y
theorem nS_all:∀ n:Fin 41,1 <= n.val->due (nS (n.val:Int)) 40=true/\nv (nS (n.val:Int))=(n.val:Int)/\((nS (n.val:Int)).cps.toList.all λd=>decide (d ≠ 32) && decide (d ≠ 10))=true/\(nS (n.val:Int)).cps.size <= 2/\(n.val <= 20->due (nS (n.val:Int)) 20=true)/\(n.val <= 3->due (nS (n.val:Int)) 3=true):=by decide +kernel
theorem qh8 {m:Int} (h1:1 <= m) (h2:m <= 40):due (nS m) 40=true/\nv (nS m)=m/\(∀ c,c=32 \/ c=10->c ∉ (nS m).cps.toList)/\(nS m).cps.size <= 2/\(m <= 20->due (nS m) 20=true)/\(m <= 3->due (nS m) 3=true):=by
 have h:=nS_all ⟨m.toNat,by lia⟩ (by show 1 <= m.toNat; lia)
 have e:((m.toNat:Nat):Int)=m:=by lia
 dsimp only at h
 rw [e] at h
 obtain ⟨g1,g2,g3,g4,g5,g6⟩:=h
 refine ⟨g1,g2,λc hc z => ?_,g4,λh=>g5 (by lia),λh=>g6 (by lia)⟩
 have:=AZ.mp g3 c z
 simp only [AI,decide_eq_true_eq] at this
 rcases hc with rfl | rfl
 .exact this.1 rfl
 .exact this.2 rfl
theorem qnc {u:Str} (h:u ∈ qb7):qb7.contains u=true/\(∀ c,c=32 \/ c=10->c ∉ u.cps.toList)/\u.cps.size <= 5:=by
 have d:∀ w ∈ qb7,(w.cps.toList.all λd=>decide (d ≠ 32) && decide (d ≠ 10))=true/\w.cps.size <= 5:=by decide +kernel
 obtain ⟨d1,d2⟩:=d u h
 refine ⟨Ck.mpr h,λc hc z => ?_,d2⟩
 have:=AZ.mp d1 c z
 simp only [AI,decide_eq_true_eq] at this
 rcases hc with rfl | rfl
 .exact this.1 rfl
 .exact this.2 rfl
theorem qrc {w:Str} (h:w ∈ [wS "term",wS "of",wS "due",wS "from",wS "behind",wS "ends",wS "anew",wS "longer",wS "times",wS "still",wS "yields"]):(∀ c,c=32 \/ c=10->c ∉ w.cps.toList)/\w.cps.size <= 6:=by
 have d:∀ w ∈ [wS "term",wS "of",wS "due",wS "from",wS "behind",wS "ends",wS "anew",wS "longer",wS "times",wS "still",wS "yields"],(w.cps.toList.all λd=>decide (d ≠ 32) && decide (d ≠ 10))=true/\w.cps.size <= 6:=by decide +kernel
 obtain ⟨d1,d2⟩:=d w h
 refine ⟨λc hc z => ?_,d2⟩
 have:=AZ.mp d1 c z
 simp only [AI,decide_eq_true_eq] at this
 rcases hc with rfl | rfl
 .exact this.1 rfl
 .exact this.2 rfl
theorem qdc {x:Str} (h:qa8 x):(∀ c,c=32 \/ c=10->c ∉ x.cps.toList)/\x.cps.size <= 8:=⟨λc hc=>qw2 h (by lia),h.2.1⟩
theorem qkr {row:Rw7} (h:qcz row):∀ w ∈ qao row,(∀ c,c=32 \/ c=10->c ∉ w.cps.toList)/\w.cps.size <= 8:=by
 have kp:∀ {w:Str},w ∈ [wS "term",wS "of",wS "due",wS "from",wS "behind",wS "ends",wS "anew",wS "longer",wS "times",wS "still",wS "yields"]->(∀ c,c=32 \/ c=10->c ∉ w.cps.toList)/\w.cps.size <= 8:=λh=>⟨(qrc h).1,by have:=(qrc h).2; lia⟩
 intro w hw
 cases row with
 | term x w1 o d y m u =>
  obtain ⟨h1,h2,h3,h4,⟨h5,h6⟩,h7⟩:=h
  obtain ⟨_,_,n3,n4,_⟩:=qh8 h5 h6
  obtain ⟨_,u2,u3⟩:=qnc h7
  simp only [qao,Ao,At,or_false] at hw
  rcases hw with rfl | rfl | rfl | rfl | rfl | rfl | rfl | rfl | rfl | rfl
  .exact kp (by simp)
  .exact qdc h1
  .exact kp (by simp)
  .exact qdc h2
  .exact kp (by simp)
  .exact qdc h3
  .cases d <;> exact kp (by simp [fbS])
  .exact qdc h4
  .exact ⟨n3,by lia⟩
  .exact ⟨u2,by lia⟩
 | ends x k =>
  simp only [qao,Ao,At,or_false] at hw
  rcases hw with rfl | rfl | rfl
  .exact kp (by simp)
  .exact qdc h.1
  .exact qdc h.2
 | anew x k =>
  simp only [qao,Ao,At,or_false] at hw
  rcases hw with rfl | rfl | rfl
  .exact kp (by simp)
  .exact qdc h.1
  .exact qdc h.2
 | yields x k =>
  simp only [qao,Ao,At,or_false] at hw
  rcases hw with rfl | rfl | rfl
  .exact kp (by simp)
  .exact qdc h.1
  .exact qdc h.2
 | longer x k u t =>
  obtain ⟨h1,h2,⟨h3,h4⟩,h5,h6⟩:=h
  obtain ⟨_,_,n3,n4,_⟩:=qh8 h3 (by lia)
  obtain ⟨_,_,m3,m4,_⟩:=qh8 h5 (by lia)
  simp only [qao,Ao,At,or_false] at hw
  rcases hw with rfl | rfl | rfl | rfl | rfl | rfl
  .exact kp (by simp)
  .exact qdc h1
  .exact qdc h2
  .exact ⟨n3,by lia⟩
  .exact kp (by simp)
  .exact ⟨m3,by lia⟩
 | still x k l =>
  simp only [qao,Ao,At,or_false] at hw
  rcases hw with rfl | rfl | rfl | rfl
  .exact kp (by simp)
  .exact qdc h.1
  .exact qdc h.2.1
  .exact qdc h.2.2
theorem qvd (row:Rw7):qao row ≠ []:=by cases row <;> exact CC _ _
theorem qsr (row:Rw7):(qao row).length <= 10:=by cases row <;> simp [qao]
theorem qks {row:Rw7} (h:qcz row):BY (qam row) (wS " ")=qao row:=by
 rw [qoh]; exact qj4 32 (qvd row) λp hp=>(qkr h p hp).1 32 (.inl rfl)
theorem qpy {row:Rw7} (h:qcz row):qgg (qao row)=some row:=by
 cases row with
 | term x w1 o d y m u =>
  obtain ⟨h1,h2,h3,h4,⟨h5,h6⟩,h7⟩:=h
  obtain ⟨n1,n2,_⟩:=qh8 h5 h6
  show qgg [wS "term",x,wS "of",w1,wS "due",o,fbS d,y,nS m,u]=_
  rw [qq8,if_pos ⟨rfl,qc6.mpr h1,rfl,qc6.mpr h2,rfl,qc6.mpr h3,by cases d <;> simp [fbS],qc6.mpr h4,n1,(qnc h7).1⟩,n2]
  cases d
  .rw [show decide (fbS false=wS "behind")=false by decide +kernel]
  .rw [show decide (fbS true=wS "behind")=true by decide +kernel]
 | ends x k =>
  show qgg [wS "ends",x,k]=_
  rw [qm8,if_pos ⟨qc6.mpr h.1,qc6.mpr h.2⟩,if_pos rfl]
 | anew x k =>
  show qgg [wS "anew",x,k]=_
  rw [qm8,if_pos ⟨qc6.mpr h.1,qc6.mpr h.2⟩,if_neg (by decide +kernel),if_pos rfl]
 | yields x k =>
  show qgg [wS "yields",x,k]=_
  rw [qm8,if_pos ⟨qc6.mpr h.1,qc6.mpr h.2⟩,if_neg (by decide +kernel),if_neg (by decide +kernel),if_pos rfl]
 | longer x k u t =>
  obtain ⟨h1,h2,⟨h3,h4⟩,h5,h6⟩:=h
  obtain ⟨_,n2,_,_,n5,_⟩:=qh8 h3 (by lia)
  obtain ⟨_,m2,_,_,_,m6⟩:=qh8 h5 (by lia)
  show qgg [wS "longer",x,k,nS u,wS "times",nS t]=_
  rw [qu4,if_pos ⟨rfl,qc6.mpr h1,qc6.mpr h2,n5 h4,rfl,m6 h6⟩,n2,m2]
 | still x k l =>
  show qgg [wS "still",x,k,l]=_
  rw [qu5,if_pos ⟨rfl,qc6.mpr h.1,qc6.mpr h.2.1,qc6.mpr h.2.2⟩]
theorem qrd {row:Rw7} (h:qcz row):opR (qam row)=some row:=by
 unfold opR
 rw [qks h,qpy h]
theorem jl9 {c n:Nat}:∀ {ps:List (List Nat)},(∀ p ∈ ps,p.length <= n)->(jl c ps).length <= (n + 1) * ps.length
 | [],_=>Az _
 | [x],h=>by
  have:=h x Aq
  show x.length <= (n + 1) * 1
  lia
 | x :: y :: r,h=>by
  have h1:=h x Aq
  have h2:=jl9 (c:=c) (ps:=y :: r) λp hp=>h p (Au _ hp)
  show (x ++ c :: jl c (y :: r)).length <= (n + 1) * ((y :: r).length + 1)
  rw [Ai,An,Nat.mul_succ]
  lia
theorem qve {c d:Nat} (n:c ≠ d):∀ {ps:List (List Nat)},(∀ p ∈ ps,d ∉ p)->d ∉ jl c ps
 | [],_=>At
 | [x],h=>h x Aq
 | x :: y :: r,h=>by
  show d ∉ x ++ c :: jl c (y :: r)
  rw [A5,Ao]
  rintro (z | z | z)
  .exact h x Aq z
  .exact n z.symm
  .exact qve n (λp hp=>h p (Au _ hp)) z
theorem qnd {row:Rw7} (h:qcz row):(qam row).cps.size <= 90/\10 ∉ (qam row).cps.toList/\(qam row).cps.size ≠ 0:=by
 have e:(qam row).cps.toList=jl 32 ((qao row).map λp=>p.cps.toList):=qce 32 _
 refine ⟨?_,?_,?_⟩
 .rw [<- AN,e]
  have:=jl9 (c:=32) (n:=8) (ps:=(qao row).map λp=>p.cps.toList) λp hp=>by
   obtain ⟨w,hw,rfl⟩:=AS.mp hp
   rw [AN]; exact (qkr h w hw).2
  rw [Ab] at this
  have:=qsr row
  lia
 .rw [e]
  refine qve (by decide) λp hp => ?_
  obtain ⟨w,hw,rfl⟩:=AS.mp hp
  exact (qkr h w hw).1 10 (.inr rfl)
 .rw [<- AN,e]
  cases row <;> (simp only [qao,A4,Bu,jl,Ai,An]; lia)
noncomputable def qcc (r:RR):Rw7:=match r.base with
 | some y=>.term r.name r.who r.owes true y r.many r.unit
 | none=>.term r.name r.who r.owes false (r.opens.getD "None") r.many r.unit
noncomputable def qgj (x:Str):Option (Str × Str)->List Rw7
 | none=>[]
 | some s=>[.still x s.1 s.2]
noncomputable def qg5 (r:RR):List (List Rw7):=[[qcc r],r.ends.map (.ends r.name),r.anew.map (.anew r.name),r.longer.map (λt=>.longer r.name t.1 t.2.1 t.2.2),qgj r.name r.still,r.yields.map (.yields r.name)]
noncomputable def qcq (r:RR):List Rw7:=(qg5 r).flatten
structure RrOk (r:RR):Prop where
 nm:qa8 r.name
 wh:qa8 r.who
 kn:∀ x ∈ qav r,qa8 x
 ba:∀ y,r.base=some y->qa8 y
 bo:r.base=none->∃ o,r.opens=some o
 bn:∀ y,r.base=some y->r.opens=none
 yl:∀ y ∈ r.yields,qa8 y
 mn:1 <= r.many/\r.many <= 40
 un:r.unit ∈ qb7
 lg:∀ t ∈ r.longer,(1 <= t.2.1/\t.2.1 <= 20)/\1 <= t.2.2/\t.2.2 <= 3
 sz:r.ends.length <= 100/\r.anew.length <= 100/\r.longer.length <= 100/\r.yields.length <= 100
theorem RrOk.kin {r:RR} (h:RrOk r):qa8 r.owes/\(∀ x ∈ r.ends,qa8 x)/\(∀ x ∈ r.anew,qa8 x)/\(∀ t ∈ r.longer,qa8 t.1)/\(∀ x,r.opens=some x->qa8 x)/\∀ s,r.still=some s->qa8 s.1/\qa8 s.2:=by
 have m:∀ x,x ∈ qav r ↔ x=r.owes \/ x ∈ r.ends \/ x ∈ r.anew \/ x ∈ r.longer.map (·.1) \/ x ∈ r.opens.toList \/ x ∈ stL r.still:=λx=>by
  unfold qav
  simp only [A5,Aj,or_assoc]
 refine ⟨h.kn _ ((m _).mpr (.inl rfl)),λx hx=>h.kn _ ((m _).mpr (.inr (.inl hx))),λx hx=>h.kn _ ((m _).mpr (.inr (.inr (.inl hx)))),λt ht=>h.kn _ ((m _).mpr (.inr (.inr (.inr (.inl (AS.mpr ⟨t,ht,rfl⟩)))))),λx hx=>h.kn _ ((m _).mpr (.inr (.inr (.inr (.inr (.inl (by rw [hx]; simp))))))),λs hs => ?_⟩
 exact ⟨h.kn _ ((m _).mpr (.inr (.inr (.inr (.inr (.inr (by rw [hs]; simp [stL]))))))),h.kn _ ((m _).mpr (.inr (.inr (.inr (.inr (.inr (by rw [hs]; simp [stL])))))))⟩
theorem qxc {r:RR} (h:RrOk r):qcz (qcc r):=by
 unfold qcc
 cases eb:r.base with
 | some y=>exact ⟨h.nm,h.wh,h.kin.1,h.ba y eb,h.mn,h.un⟩
 | none =>
  obtain ⟨o,eo⟩:=h.bo eb
  dsimp only
  rw [eo]
  exact ⟨h.nm,h.wh,h.kin.1,h.kin.2.2.2.2.1 o eo,h.mn,h.un⟩
theorem qxd {r:RR} (h:RrOk r):∀ row ∈ qcq r,qcz row:=by
 obtain ⟨k1,k2,k3,k4,k5,k6⟩:=h.kin
 intro row hr
 unfold qcq qg5 at hr
 simp only [List.flatten_cons,List.flatten_nil,Be,A5,AS,Aj] at hr
 rcases hr with rfl | ⟨k,hk,rfl⟩ | ⟨k,hk,rfl⟩ | ⟨t,ht,rfl⟩ | hs | ⟨y,hy,rfl⟩
 .exact qxc h
 .exact ⟨h.nm,k2 k hk⟩
 .exact ⟨h.nm,k3 k hk⟩
 .exact ⟨h.nm,k4 t ht,(h.lg t ht).1,(h.lg t ht).2⟩
 .cases es:r.still with
  | none=>rw [es] at hs; cases hs
  | some s =>
   rw [es] at hs
   rw [Aj.mp hs]
   exact ⟨h.nm,k6 s es⟩
 .exact ⟨h.nm,h.yl y hy⟩
theorem qvf {l m:List Str} (nd:l.Nodup) (h:∀ x ∈ l,x ∈ m):l.length <= m.length:=by
 induction l generalizing m with
 | nil=>exact B0 _
 | cons a l ih =>
  rw [Bb] at nd
  have:=ih (m:=m.erase a) nd.2 λx hx=>(List.mem_erase_of_ne (show x ≠ a from λe=>nd.1 (by rw [<- e]; exact hx))).mpr (h x (Au _ hx))
  rw [List.length_erase_of_mem (h a Aq)] at this
  have:1 <= m.length:=List.length_pos_of_mem (h a Aq)
  rw [An]; lia
theorem GR.rrok {names:List Str} {ow:Nat->Nat} {rk:Nat->Int} {kinds:List Str} {k:Nat} {r:RR} (g:GR names ow rk kinds k r) (no:∀ x ∈ names,qa8 x) (hk:k < names.length) (l6:names.length <= 6):RrOk r:=by
 have nmk:∀ b,b < names.length->qa8 (nm9 names b):=λb hb=>no _ (Ap (qg4 hb))
 have yn:r.yields.length <= names.length:=by
  refine qvf g.yl.nd λy hy => ?_
  obtain ⟨b,hb,e,_⟩:=g.yl.ok y hy
  rw [e]; exact Ap (qg4 hb)
 refine ⟨by rw [g.nm]; exact nmk k hk,g.wh,g.kn,λy hy => ?_,λhb => ?_,λy hy => ?_,λy hy => ?_,g.mn,g.un,g.lg.2,⟨by have:=g.ln.1; lia,by have:=g.ln.2; lia,by have:=g.lg.1; lia,by lia⟩⟩
 .rcases g.bo with ⟨b,hb,e,_⟩ | ⟨e,_⟩
  .rw [e] at hy; cases hy; exact nmk b hb
  .rw [e] at hy; cases hy
 .rcases g.bo with ⟨b,hb',e,_⟩ | ⟨_,e⟩
  .rw [e] at hb; cases hb
  .exact e
 .rcases g.bo with ⟨b,hb',e,_,e2⟩ | ⟨e,_⟩
  .exact e2
  .rw [e] at hy; cases hy
 .obtain ⟨b,hb,e,_⟩:=g.yl.ok y hy
  rw [e]; exact nmk b hb
theorem qeb:(wS "term ").cps.toList=(wS "term").cps.toList ++ [32]/\(wS " of ").cps.toList=32 :: ((wS "of").cps.toList ++ [32])/\(wS " due ").cps.toList=32 :: ((wS "due").cps.toList ++ [32])/\(wS "from ").cps.toList=(wS "from").cps.toList ++ [32]/\(wS "behind ").cps.toList=(wS "behind").cps.toList ++ [32]/\(wS " ").cps.toList=[32]/\(wS "ends ").cps.toList=(wS "ends").cps.toList ++ [32]/\(wS "anew ").cps.toList=(wS "anew").cps.toList ++ [32]/\(wS "longer ").cps.toList=(wS "longer").cps.toList ++ [32]/\(wS " times ").cps.toList=32 :: ((wS "times").cps.toList ++ [32])/\(wS "still ").cps.toList=(wS "still").cps.toList ++ [32]/\(wS "yields ").cps.toList=(wS "yields").cps.toList ++ [32]:=by decide +kernel
theorem hl0 {a b:Str} (ha:a.length <= 50000) (hb:b.length <= 50000):a.length + b.length <= 100000:=Nat.add_le_add ha hb
theorem hl {a b:Str} {n:Nat} (ha:a.length <= n / 2) (hb:b.length <= n / 2):(a ++ b).length <= n:=by rw [qgw]; lia
theorem fz {n:Nat} (h:n <= 100000:=by first | (refine hl0 ?_ ?_ <;> (repeat' refine hl ?_ ?_) <;> first | exact A1 (by assumption) (by decide) | decide) | lia | (simp only [qgw]; lia)):n <= Ax:=qal h
theorem qkt:(Aa "term ").length=5/\(Aa " of ").length=4/\(Aa " due ").length=5/\(Aa "from ").length=5/\(Aa "behind ").length=7/\(Aa " ").length=1/\(Aa "ends ").length=5/\(Aa "anew ").length=5/\(Aa "longer ").length=7/\(Aa " times ").length=7/\(Aa "still ").length=6/\(Aa "yields ").length=7/\(Aa "None").length=4:=by decide +kernel
noncomputable def qlf (r:RR):Str:=match r.base with
 | some y=>wS "behind " ++ y
 | none=>wS "from " ++ r.opens.getD "None"
theorem qss (r:RR):wS "term " ++ r.name ++ wS " of " ++ r.who ++ wS " due " ++ r.owes ++ wS " " ++ qlf r ++ wS " " ++ nS r.many ++ wS " " ++ r.unit=qam (qcc r):=by
 obtain ⟨t1,t2,t3,t4,t5,t6,_⟩:=qeb
 refine str_ext ?_
 rw [show (qam (qcc r)).cps.toList=jl 32 ((qao (qcc r)).map λp=>p.cps.toList) from qce 32 _]
 unfold qlf qcc
 cases r.base with
 | some y =>
  dsimp only
  simp only [qcy,t1,t2,t3,t5,t6,qao,fbS,if_pos,A4,Bu,jl,AH,AR,AW]
 | none =>
  dsimp only
  simp only [qcy,t1,t2,t3,t4,t6,qao,fbS,Ct,if_false,A4,Bu,jl,AH,AR,AW]
theorem qmd (x k:Str):wS "ends " ++ x ++ wS " " ++ k=qam (.ends x k):=by
 obtain ⟨_,_,_,_,_,t6,t7,_⟩:=qeb
 refine str_ext ?_
 rw [show (qam (.ends x k)).cps.toList=jl 32 ((qao (.ends x k)).map λp=>p.cps.toList) from qce 32 _]
 simp only [qcy,t6,t7,qao,A4,Bu,jl,AH,AR,AW]
theorem qme (x k:Str):wS "anew " ++ x ++ wS " " ++ k=qam (.anew x k):=by
 obtain ⟨_,_,_,_,_,t6,_,t8,_⟩:=qeb
 refine str_ext ?_
 rw [show (qam (.anew x k)).cps.toList=jl 32 ((qao (.anew x k)).map λp=>p.cps.toList) from qce 32 _]
 simp only [qcy,t6,t8,qao,A4,Bu,jl,AH,AR,AW]
theorem qi6 (x k:Str):wS "yields " ++ x ++ wS " " ++ k=qam (.yields x k):=by
 obtain ⟨_,_,_,_,_,t6,_,_,_,_,_,t12⟩:=qeb
 refine str_ext ?_
 rw [show (qam (.yields x k)).cps.toList=jl 32 ((qao (.yields x k)).map λp=>p.cps.toList) from qce 32 _]
 simp only [qcy,t6,t12,qao,A4,Bu,jl,AH,AR,AW]
theorem qop (x k:Str) (u t:Int):wS "longer " ++ x ++ wS " " ++ k ++ wS " " ++ nS u ++ wS " times " ++ nS t=qam (.longer x k u t):=by
 obtain ⟨_,_,_,_,_,t6,_,_,t9,t10,_⟩:=qeb
 refine str_ext ?_
 rw [show (qam (.longer x k u t)).cps.toList=jl 32 ((qao (.longer x k u t)).map λp=>p.cps.toList) from qce 32 _]
 simp only [qcy,t6,t9,t10,qao,A4,Bu,jl,AH,AR,AW]
theorem qdr (x k l:Str):wS "still " ++ x ++ wS " " ++ k ++ wS " " ++ l=qam (.still x k l):=by
 obtain ⟨_,_,_,_,_,t6,_,_,_,_,t11,_⟩:=qeb
 refine str_ext ?_
 rw [show (qam (.still x k l)).cps.toList=jl 32 ((qao (.still x k l)).map λp=>p.cps.toList) from qce 32 _]
 simp only [qcy,t6,t11,qao,A4,Bu,jl,AH,AR,AW]
noncomputable def qbz (rows:List Rw7):List V:=(rows.map qam).map V.str
noncomputable def spSo:Sp:=λvs H Q _=>∃ (p:Addr) (r:RR),vs=[.ref p]/\LR H p r/\RrOk r/\∀ (q:Addr) (H':Hp) (us:List V),H q=none->Same H H'->H' q=some (.lst us)->us.length=6->(∀ (i:Nat) (v:V) (rw:List Rw7),us[i]?=some v->(qg5 r)[i]?=some rw->∃ b,v=.ref b/\H' b=some (.lst (qbz rw)))->Q (.ref q) H'
noncomputable def spRws:Sp:=λvs H Q _=>∃ (p:Addr) (r:RR),vs=[.ref p]/\LR H p r/\RrOk r/\∀ (q:Addr) (H':Hp),H q=none->Same H H'->H' q=some (.lst (qbz (qcq r)))->Q (.ref q) H'
theorem qpz {n:Int} (h:n.natAbs <= 100):n.natAbs.log2 < 1920:=Nat.lt_of_le_of_lt (Nat.log2_le_self _) (by lia)
theorem qvg {r:RR} (h:RrOk r):∀ rw ∈ qg5 r,rw.length <= 100:=by
 obtain ⟨z1,z2,z3,z4⟩:=h.sz
 intro rw hr
 simp only [qg5,Ao,At,or_false] at hr
 rcases hr with rfl | rfl | rfl | rfl | rfl | rfl
 .simp
 .rw [Ab]; exact z1
 .rw [Ab]; exact z2
 .rw [Ab]; exact z3
 .cases r.still <;> simp [qgj]
 .rw [Ab]; exact z4
noncomputable def qxe:RR->List Rw7->Prop
 | _,[]=>True
 | r,row :: t=>isT row=false/\qan row=r.name/\qg1 r row=false/\qxe (qc5 r row) t
theorem qvh {rs0:List RR} {r:RR} (h:qar rs0 r.name=none):qar (rs0 ++ [r]) r.name=some rs0.length:=by
 rw [qh3,h]; dsimp only; rw [if_pos rfl]
theorem qst {rs0:List RR} {r r':RR}:(rs0 ++ [r]).set rs0.length r'=rs0 ++ [r']:=by
 rw [List.set_append_right _ _ (Az _),Dd]; rfl
theorem qsu {rs0:List RR} {r:RR}:(rs0 ++ [r])[rs0.length]?=some r:=by
 rw [AL (Az _),Dd]; rfl
theorem qg6:∀ {rows:List Rw7} {rs0:List RR} {r:RR} {i:Nat} {t:List (Option Rw7)},qar rs0 r.name=none->qxe r rows->i + rows.length <= 40->qai (rs0 ++ [r]) i (rows.map some ++ t)=qai (rs0 ++ [rows.foldl qc5 r]) (i + rows.length) t
 | [],_,_,_,_,_,_,_=>rfl
 | row :: rows,rs0,r,i,t,hp,f,hi=>by
  obtain ⟨f1,f2,f3,f4⟩:=f
  rw [An] at hi
  have h:qcf (rs0 ++ [r]) i row=.ok (rs0 ++ [qc5 r row]):=by
   rw [qdq f1,qh0 (by rw [f2]; exact qvh hp) qsu f3,qst]
  show qai (rs0 ++ [r]) i (some row :: (rows.map some ++ t))=_
  rw [qhg (by lia) h,qg6 (by rw [qfj]; exact hp) f4 (by lia),An,show i + 1 + rows.length=i + (rows.length + 1) by lia]
  rfl
noncomputable def nLg:List Rw7->Nat
 | []=>0
 | .longer _ _ _ _ :: t=>nLg t + 1
 | _ :: t=>nLg t
noncomputable def nSt:List Rw7->Nat
 | []=>0
 | .still _ _ _ :: t=>nSt t + 1
 | _ :: t=>nSt t
theorem qmf (r:RR) {row:Rw7} (h:isT row=false) (hs:nSt [row] + stN r.still <= 1):(qav (qc5 r row)).Perm (qav r ++ kin row):=by
 refine List.perm_iff_count.mpr λx => ?_
 cases row with
 | term=>cases h
 | ends y k=>simp only [qav,qc5,kin,C3]; lia
 | anew y k=>simp only [qav,qc5,kin,C3]; lia
 | longer y k u t=>simp only [qav,qc5,kin,C3,Ar,A4,Bu]; lia
 | still y k l =>
  have e:r.still=none:=by
   cases es:r.still with
   | none=>rfl
   | some s=>rw [es] at hs; have hs:1 + 1 <= 1:=hs; lia
  simp only [qav,qc5,kin,C3,e,stL,List.count_nil]; lia
 | yields y k=>simp only [qav,qc5,kin,C3,List.count_nil]; lia
theorem qku (row:Rw7) (t:List Rw7):nLg (row :: t)=nLg [row] + nLg t:=by cases row <;> simp [nLg] <;> lia
theorem qkv (row:Rw7) (t:List Rw7):nSt (row :: t)=nSt [row] + nSt t:=by cases row <;> simp [nSt] <;> lia
theorem qxf (r:RR) (row:Rw7):(qc5 r row).longer.length=r.longer.length + nLg [row]:=by cases row <;> simp [qc5,nLg]
theorem qxg (r:RR) (row:Rw7) (h:nSt [row] + stN r.still <= 1):stN (qc5 r row).still=stN r.still + nSt [row]:=by
 cases row with
 | still y k l =>
  show 1=stN r.still + 1
  have h:1 + stN r.still <= 1:=h
  lia
 | _=>rfl
theorem qre:∀ {rows:List Rw7} {r:RR},(∀ row ∈ rows,isT row=false/\qan row=r.name)->(qav r ++ rows.flatMap kin).Nodup->r.longer.length + nLg rows <= 2->stN r.still + nSt rows <= 1->qxe r rows
 | [],_,_,_,_,_=>trivial
 | row :: rows,r,ha,nd,hl,hs=>by
  obtain ⟨a1,a2⟩:=ha row Aq
  rw [qku] at hl
  rw [qkv] at hs
  have pm:=qmf r a1 (by lia)
  rw [Bd,<- AH] at nd
  have nd1:=(AY.mp nd).1
  obtain ⟨n1,n2,n3⟩:=AY.mp nd1
  refine ⟨a1,a2,?_,qre (λrow' hr=>by rw [qfj]; exact ha row' (Au _ hr)) ?_ (by rw [qxf]; lia) (by rw [qxg r row (by lia)]; lia)⟩
  .unfold qg1
   rw [Bool.or_eq_false_iff]
   constructor
   .rw [List.any_eq_false]
    intro k hk z
    exact n3 k (Ck.mp z) k hk rfl
   .cases row with
    | still y k l =>
     show (r.still.isSome || decide (k=l))=false
     have e:r.still=none:=by
      cases es:r.still with
      | none=>rfl
      | some s=>rw [es] at hs; have hs:1 + (1 + nSt rows) <= 1:=hs; lia
     rw [e,decide_eq_false]
     .rfl
     .intro z
      rw [z] at n2
      simp [kin] at n2
    | longer y k u t =>
     show decide (r.longer.length=2)=false
     rw [decide_eq_false]
     intro z
     have hl:r.longer.length + (1 + nLg rows) <= 2:=hl
     lia
    | _=>rfl
  .exact (pm.append_right _).nodup_iff.mpr nd
noncomputable def noY (r:RR):RR:={ r with yields:=[] }
theorem qmg (x:Str):∀ (ks:List Str) (r:RR),(ks.map (.ends x)).foldl qc5 r={ r with ends:=r.ends ++ ks }
 | [],r=>by rw [Be]; rfl
 | k :: ks,r=>by
  show (ks.map (.ends x)).foldl qc5 { r with ends:=r.ends ++ [k] }=_
  rw [qmg x ks]
  simp only [AH,AR,AW]
theorem qmh (x:Str):∀ (ks:List Str) (r:RR),(ks.map (.anew x)).foldl qc5 r={ r with anew:=r.anew ++ ks }
 | [],r=>by rw [Be]; rfl
 | k :: ks,r=>by
  show (ks.map (.anew x)).foldl qc5 { r with anew:=r.anew ++ [k] }=_
  rw [qmh x ks]
  simp only [AH,AR,AW]
theorem qi7 (x:Str):∀ (ks:List (Str × Int × Int)) (r:RR),(ks.map λt=>Rw7.longer x t.1 t.2.1 t.2.2).foldl qc5 r={ r with longer:=r.longer ++ ks }
 | [],r=>by rw [Be]; rfl
 | k :: ks,r=>by
  show (ks.map λt=>Rw7.longer x t.1 t.2.1 t.2.2).foldl qc5 { r with longer:=r.longer ++ [(k.1,k.2.1,k.2.2)] }=_
  rw [qi7 x ks]
  simp only [AH,AR,AW]
theorem qi8 (x:Str):∀ (ks:List Str) (r:RR),(ks.map (.yields x)).foldl qc5 r=r
 | [],r=>rfl
 | k :: ks,r=>qi8 x ks r
theorem qp0 (x:Str) (o:Option (Str × Str)) (r:RR) (h:r.still=none):(qgj x o).foldl qc5 r={ r with still:=o }:=by
 cases o with
 | none=>show r={ r with still:=none }; rw [<- h]
 | some s=>rfl
noncomputable def qb0 (r:RR):List Rw7:=r.ends.map (.ends r.name) ++ (r.anew.map (.anew r.name) ++ (r.longer.map (λt=>.longer r.name t.1 t.2.1 t.2.2) ++ (qgj r.name r.still ++ r.yields.map (.yields r.name))))
theorem qeh (r:RR):qcq r=qcc r :: qb0 r:=by
 unfold qcq qg5 qb0
 simp only [List.flatten_cons,List.flatten_nil,Be,AR,AW]
noncomputable def qgk (r:RR):RR:=⟨r.name,r.who,r.owes,r.opens,r.base,r.many,r.unit,[],[],[],none,[]⟩
theorem qsv (r:RR):(qb0 r).foldl qc5 (qgk r)=noY r:=by
 unfold qb0
 rw [Dy,qmg,Dy,qmh,Dy,qi7,Dy,qp0 _ _ _ rfl,qi8]
 simp only [qgk,noY,AW]
theorem qrf (r:RR):∀ row ∈ qb0 r,isT row=false/\qan row=r.name:=by
 intro row h
 unfold qb0 at h
 simp only [A5,AS] at h
 rcases h with ⟨k,_,rfl⟩ | ⟨k,_,rfl⟩ | ⟨k,_,rfl⟩ | h | ⟨k,_,rfl⟩
 .exact ⟨rfl,rfl⟩
 .exact ⟨rfl,rfl⟩
 .exact ⟨rfl,rfl⟩
 .cases es:r.still with
  | none=>rw [es] at h; cases h
  | some s=>rw [es] at h; rw [Aj.mp h]; exact ⟨rfl,rfl⟩
 .exact ⟨rfl,rfl⟩
theorem qvi (r:RR):(qb0 r).flatMap kin=r.ends ++ (r.anew ++ (r.longer.map (·.1) ++ stL r.still)):=by
 have e1:∀ ks:List Str,(ks.map (Rw7.ends r.name)).flatMap kin=ks:=λks=>by induction ks with | nil=>rfl | cons k ks ih=>rw [A4,Bd,ih]; rfl
 have e2:∀ ks:List Str,(ks.map (Rw7.anew r.name)).flatMap kin=ks:=λks=>by induction ks with | nil=>rfl | cons k ks ih=>rw [A4,Bd,ih]; rfl
 have e3:∀ ks:List (Str × Int × Int),(ks.map λt=>Rw7.longer r.name t.1 t.2.1 t.2.2).flatMap kin=ks.map (·.1):=λks=>by induction ks with | nil=>rfl | cons k ks ih=>rw [A4,Bd,ih]; rfl
 have e4:∀ ks:List Str,(ks.map (Rw7.yields r.name)).flatMap kin=[]:=λks=>by induction ks with | nil=>rfl | cons k ks ih=>rw [A4,Bd,ih]; rfl
 unfold qb0
 rw [Bj,Bj,Bj,Bj,e1,e2,e3,e4,Be]
 cases r.still <;> rfl
theorem qh9:∀ a b:List Rw7,nLg (a ++ b)=nLg a + nLg b
 | [],b=>(CM _).symm
 | x :: a,b=>by rw [AR,qku,qku x a,qh9 a b]; lia
theorem qia:∀ a b:List Rw7,nSt (a ++ b)=nSt a + nSt b
 | [],b=>(CM _).symm
 | x :: a,b=>by rw [AR,qkv,qkv x a,qia a b]; lia
theorem n_rest (r:RR):nLg (qb0 r)=r.longer.length/\nSt (qb0 r)=stN r.still:=by
 have a:∀ ks:List Str,nLg (ks.map (Rw7.ends r.name))=0/\nSt (ks.map (Rw7.ends r.name))=0/\nLg (ks.map (Rw7.anew r.name))=0/\nSt (ks.map (Rw7.anew r.name))=0/\nLg (ks.map (Rw7.yields r.name))=0/\nSt (ks.map (Rw7.yields r.name))=0:=λks=>by
  induction ks with
  | nil=>exact ⟨rfl,rfl,rfl,rfl,rfl,rfl⟩
  | cons k ks ih=>exact ih
 have b:∀ ks:List (Str × Int × Int),nLg (ks.map λt=>Rw7.longer r.name t.1 t.2.1 t.2.2)=ks.length/\nSt (ks.map λt=>Rw7.longer r.name t.1 t.2.1 t.2.2)=0:=λks=>by
  induction ks with
  | nil=>exact ⟨rfl,rfl⟩
  | cons k ks ih=>exact ⟨congrArg (· + 1) ih.1,ih.2⟩
 have c:∀ o:Option (Str × Str),nLg (qgj r.name o)=0/\nSt (qgj r.name o)=stN o:=λo=>by cases o <;> exact ⟨rfl,rfl⟩
 unfold qb0
 rw [qh9,qh9,qh9,qh9,qia,qia,qia,qia,(a r.ends).1,(a r.ends).2.1,(a r.anew).2.2.1,(a r.anew).2.2.2.1,(b r.longer).1,(b r.longer).2,(c r.still).1,(c r.still).2,(a r.yields).2.2.2.2.1,(a r.yields).2.2.2.2.2]
 lia
theorem qsw {r:RR} (nd:(qav r).Nodup) (l2:r.longer.length <= 2):qxe (qgk r) (qb0 r):=by
 obtain ⟨n1,n2⟩:=n_rest r
 refine qre (qrf r) ?_ (by rw [n1]; show 0 + _ <= 2; lia) (by rw [n2]; show 0 + _ <= 1; cases r.still <;> simp [stN])
 rw [qvi]
 refine (List.Perm.nodup_iff (List.perm_iff_count.mpr λx => ?_)).mpr nd
 simp only [qav,qgk,C3,Bu,List.count_nil,stL]
 lia
theorem qoq {rs0:List RR} {r:RR} {i:Nat} (ok:RrOk r) (nd:(qav r).Nodup) (hp:qar rs0 r.name=none) (h6:rs0.length ≠ 6):qcf rs0 i (qcc r)=.ok (rs0 ++ [qgk r]):=by
 unfold qcc
 cases eb:r.base with
 | some y =>
  show qe8 rs0 i r.name r.who r.owes true y r.many r.unit=_
  rw [qe9 (d:=true) hp (λz=>z.elim h6 λz=>nomatch z.1)]
  unfold qm9 qgk
  rw [eb,ok.bn y eb]; rfl
 | none =>
  obtain ⟨o,eo⟩:=ok.bo eb
  show qe8 rs0 i r.name r.who r.owes false (r.opens.getD "None") r.many r.unit=_
  rw [eo]
  have ne:r.owes ≠ o:=λz=>by
   unfold qav at nd
   rw [eo,z] at nd
   simp at nd
  show qe8 rs0 i r.name r.who r.owes false o r.many r.unit=_
  rw [qe9 hp (λz=>z.elim h6 λz=>ne z.2)]
  unfold qm9 qgk
  rw [eb,eo]; rfl
theorem qlg {rs0:List RR} {r:RR} {i:Nat} {t:List (Option Rw7)} (ok:RrOk r) (nd:(qav r).Nodup) (l2:r.longer.length <= 2) (hp:qar rs0 r.name=none) (h6:rs0.length ≠ 6) (h40:i + (qcq r).length <= 40):qai rs0 i ((qcq r).map some ++ t)=qai (rs0 ++ [noY r]) (i + (qcq r).length) t:=by
 rw [qeh] at h40 |-
 rw [An] at h40 |-
 show qai rs0 i (some (qcc r) :: ((qb0 r).map some ++ t))=_
 rw [qhg (by lia) (qoq ok nd hp h6),qg6 (r:=qgk r) hp (qsw nd l2) (by lia),qsv,show i + 1 + (qb0 r).length=i + ((qb0 r).length + 1) by lia]
noncomputable def qac (rs:List RR):List Rw7:=rs.flatMap qcq
structure GT (rs:List RR):Prop where
 ok:∀ r ∈ rs,RrOk r
 kd:∀ r ∈ rs,(qav r).Nodup
 l2:∀ r ∈ rs,r.longer.length <= 2
 nn:(rs.map RR.name).Nodup
 l6:rs.length <= 6
 ba:qiv rs
 yl:∀ r ∈ rs,r.yields.Nodup/\∀ y ∈ r.yields,y ≠ r.name/\∃ s ∈ rs,s.name=y/\s.owes=r.owes
 ln:(qac rs).length <= 40
theorem qib:∀ {rs rs0:List RR} {i:Nat} {t:List (Option Rw7)},(∀ r ∈ rs,RrOk r/\(qav r).Nodup/\r.longer.length <= 2)->((rs0 ++ rs).map RR.name).Nodup->(rs0 ++ rs).length <= 6->i + (qac rs).length <= 40->qai rs0 i ((qac rs).map some ++ t)=qai (rs0 ++ rs.map noY) (i + (qac rs).length) t
 | [],rs0,i,t,_,_,_,_=>by
  show qai rs0 i t=qai (rs0 ++ []) (i + 0) t
  rw [Be]; rfl
 | r :: rs,rs0,i,t,ok,nn,l6,h40=>by
  have el:qac (r :: rs)=qcq r ++ qac rs:=Bd
  rw [el,Ai] at h40
  obtain ⟨o1,o2,o3⟩:=ok r Aq
  have hp:qar rs0 r.name=none:=qb9.mpr λz=>by
   rw [Ar,AY] at nn
   exact nn.2.2 _ z r.name (by simp) rfl
  have nn':(((rs0 ++ [noY r]) ++ rs).map RR.name).Nodup:=by
   rw [AH]
   have:((rs0 ++ ([noY r] ++ rs)).map RR.name)=(rs0 ++ r :: rs).map RR.name:=by simp [noY]
   rw [this]; exact nn
  rw [Ai,An] at l6
  rw [el,Ar,AH,qlg o1 o2 o3 hp (by lia) (by lia),qib (λs hs=>ok s (Au _ hs)) nn' (by rw [Ai,Ai]; show _ + 1 + _ <= 6; lia) (by lia),Ai,AH,Nat.add_assoc]
  rfl
theorem qkw {rs:List RR} (g:GT rs):qai [] 0 ((qac rs).map some)=.ok (rs.map noY):=by
 have:=qib (rs:=rs) (rs0:=[]) (i:=0) (t:=[]) (λr hr=>⟨g.ok r hr,g.kd r hr,g.l2 r hr⟩) g.nn g.l6 (by have:=g.ln; lia)
 rw [Be,AW] at this
 rw [this]; rfl
theorem qvj {xs ys:List (Option Rw7)} {rs0 rs:List RR} {i:Nat} (h:qai rs0 i (xs ++ ys)=.ok rs):∃ rs',qai rs0 i xs=.ok rs':=by
 rw [qdj] at h
 cases e:qai rs0 i xs with
 | error e'=>rw [e] at h; cases h
 | ok rs'=>exact ⟨rs',rfl⟩
theorem qi9:∀ {rows:List Rw7} {rs:List RR} {i:Nat} {t:List Rw7},(∀ row ∈ rows,isT row=false/\∀ x y,row ≠ .yields x y)->qat rs i (rows ++ t)=qat rs (i + rows.length) t
 | [],_,_,_,_=>rfl
 | row :: rows,rs,i,t,h=>by
  obtain ⟨h1,h2⟩:=h row Aq
  show qat rs i (row :: (rows ++ t))=_
  rw [qfb (qu7 h1 h2),qi9 λrow' hr=>h row' (Au _ hr),An,show i + 1 + rows.length=i + (rows.length + 1) by lia]
theorem qkx:∀ {ys:List Str} {rs:List RR} {r:RR} {i j:Nat} {t:List Rw7},(rs.map RR.name).Nodup->rs[j]?=some r->(r.yields ++ ys).Nodup->(∀ y ∈ ys,y ≠ r.name/\∃ s ∈ rs,s.name=y/\s.owes=r.owes)->qat rs i (ys.map (.yields r.name) ++ t)=qat (rs.set j { r with yields:=r.yields ++ ys }) (i + ys.length) t
 | [],rs,r,i,j,t,_,hj,_,_=>by
  show qat rs i t=qat (rs.set j { r with yields:=r.yields ++ [] }) (i + 0) t
  rw [Be]
  have:rs.set j r=rs:=by
   apply BK
   intro k
   rw [Ce]
   by_cases c:j=k
   .subst c
    rw [if_pos rfl,if_pos (Ae.mp hj).1,hj]
   .rw [if_neg c]
  rw [this]; rfl
 | y :: ys,rs,r,i,j,t,nn,hj,nd,hy=>by
  obtain ⟨y1,s,hs,sn,so⟩:=hy y Aq
  obtain ⟨l,hl⟩:=AV hs
  have pl:qar rs y=some l:=by rw [<- sn]; exact qd9 nn hl
  have ny:y ∉ r.yields:=λz=>by
   rw [AY] at nd
   exact nd.2.2 y z y Aq rfl
  have h:qcp rs i (.yields r.name y)=.ok (rs.set j { r with yields:=r.yields ++ [y] }):=by
   rw [qkn (qd9 nn hj),qhe pl hj hl λz=>z.elim y1 λz=>z.elim ny λz=>z so]
  have en:({ r with yields:=r.yields ++ [y] }:RR).name=r.name:=rfl
  show qat rs i (.yields r.name y :: (ys.map (.yields r.name) ++ t))=_
  have ih:=qkx (ys:=ys) (rs:=rs.set j { r with yields:=r.yields ++ [y] }) (r:={ r with yields:=r.yields ++ [y] }) (i:=i + 1) (j:=j) (t:=t) (by rw [qgy hj en]; exact nn) (Bp (Ae.mp hj).1) (by show ((r.yields ++ [y]) ++ ys).Nodup; rw [AH]; exact nd) (λy' hy'=>by
   obtain ⟨a1,s',hs',a2,a3⟩:=hy y' (Au _ hy')
   obtain ⟨l',hl'⟩:=AV hs'
   by_cases c:l'=j
   .subst c
    rw [hj] at hl'; cases hl'
    exact absurd a2.symm a1
   .exact ⟨a1,s',Ap (i:=l') (by rw [Ce,if_neg (AX c)]; exact hl'),a2,a3⟩)
  rw [qfb h]
  refine ih.trans ?_
  rw [List.set_set,An,show i + 1 + ys.length=i + (ys.length + 1) by lia]
  simp only [AH,AR,AW]
theorem qor (r:RR):∃ x w o d y m u,qcc r=.term x w o d y m u/\x=r.name:=by
 unfold qcc
 cases r.base with
 | some y=>exact ⟨_,_,_,_,_,_,_,rfl,rfl⟩
 | none=>exact ⟨_,_,_,_,_,_,_,rfl,rfl⟩
theorem qos {rs:List RR} {r r':RR} {i j:Nat} (nn:(rs.map RR.name).Nodup) (hj:rs[j]?=some r') (en:r'.name=r.name) (ba:∀ y,r'.base=some y->(qar rs y).isSome=true):qcp rs i (qcc r)=.ok rs:=by
 obtain ⟨x,w,o,d,y,m,u,e,ex⟩:=qor r
 rw [e,qh1 (j:=j) (r:=r') (by rw [ex,<- en]; exact qd9 nn hj) hj]
 cases eb:r'.base with
 | none=>rfl
 | some z=>dsimp only; rw [if_pos (ba z eb)]
theorem qne {rs:List RR} {r:RR} {i j:Nat} {t:List Rw7} (nn:(rs.map RR.name).Nodup) (hj:rs[j]?=some (noY r)) (ba:∀ y,r.base=some y->(qar rs y).isSome=true) (nd:r.yields.Nodup) (hy:∀ y ∈ r.yields,y ≠ r.name/\∃ s ∈ rs,s.name=y/\s.owes=r.owes):qat rs i (qcq r ++ t)=qat (rs.set j r) (i + (qcq r).length) t:=by
 have e:qcq r=qcc r :: ((r.ends.map (.ends r.name) ++ (r.anew.map (.anew r.name) ++ (r.longer.map (λt=>.longer r.name t.1 t.2.1 t.2.2) ++ qgj r.name r.still))) ++ r.yields.map (.yields r.name)):=by
  rw [qeh]; unfold qb0; simp only [AH]
 rw [e]
 show qat rs i (qcc r :: (_ ++ t))=_
 refine (qfb (qos (r:=r) (r':=noY r) nn hj rfl ba) _).trans ?_
 rw [AH]
 refine (qi9 λrow h => ?_).trans ((qkx (ys:=r.yields) (r:=noY r) nn hj nd hy).trans ?_)
 .simp only [A5,AS] at h
  rcases h with ⟨k,_,rfl⟩ | ⟨k,_,rfl⟩ | ⟨k,_,rfl⟩ | h
  .exact ⟨rfl,λ_ _ z=>nomatch z⟩
  .exact ⟨rfl,λ_ _ z=>nomatch z⟩
  .exact ⟨rfl,λ_ _ z=>nomatch z⟩
  .cases es:r.still with
   | none=>rw [es] at h; cases h
   | some s=>rw [es] at h; rw [Aj.mp h]; exact ⟨rfl,λ_ _ z=>nomatch z⟩
 .have:({ noY r with yields:=(noY r).yields ++ r.yields }:RR)=r:=rfl
  rw [this]
  congr 1
  simp only [An,Ai,Ab]
  lia
theorem qmi (rs:List RR):(rs.map noY).map RR.name=rs.map RR.name:=by rw [Bf]; rfl
theorem qot {rs:List RR} (g:GT rs):qat (rs.map noY) 0 (qac rs)=.ok rs:=by
 have w:∀ k,k <= rs.length->qat (rs.map noY) 0 (qac rs)=qat (rs.take k ++ (rs.drop k).map noY) (qac (rs.take k)).length (qac (rs.drop k)):=by
  intro k
  induction k with
  | zero=>intro _; rw [Da,List.drop_zero,AW]; rfl
  | succ k ih =>
   intro hk
   rw [ih (by lia)]
   have lk:k < rs.length:=by lia
   have hr:rs[k]?=some rs[k]:=Ag lk
   have hm:rs[k] ∈ rs:=Br lk
   have ed:rs.drop k=rs[k] :: rs.drop (k + 1):=Cj lk
   have lt:(rs.take k).length=k:=by rw [A2]; lia
   have nms:(rs.take k ++ (rs.drop k).map noY).map RR.name=rs.map RR.name:=by
    rw [Ar,qmi,<- Ar,Bv]
   have nn:((rs.take k ++ (rs.drop k).map noY).map RR.name).Nodup:=by rw [nms]; exact g.nn
   have hj:(rs.take k ++ (rs.drop k).map noY)[k]?=some (noY rs[k]):=by
    rw [AL (by lia),lt,Dd,ed]; rfl
   have ea:qac (rs.drop k)=qcq rs[k] ++ qac (rs.drop (k + 1)):=by rw [ed]; exact Bd
   rw [ea,qne nn hj (λy hy=>by rw [qby y nms]; exact g.ba _ hm y hy) (g.yl _ hm).1 (λy hy => ?_)]
   .have e1:(rs.take k ++ (rs.drop k).map noY).set k rs[k]=rs.take (k + 1) ++ (rs.drop (k + 1)).map noY:=by
     rw [List.set_append_right _ _ (by lia),lt,Dd,ed,qbg hr,AH]; rfl
    have e2:(qac (rs.take k)).length + (qcq rs[k]).length=(qac (rs.take (k + 1))).length:=by
     rw [qbg hr]; unfold qac; rw [Bj,Ai]; simp
    rw [e1,e2]
   .obtain ⟨y1,s,hs,y2,y3⟩:=(g.yl _ hm).2 y hy
    refine ⟨y1,?_⟩
    rw [<- Bv k rs] at hs
    rcases A5.mp hs with z | z
    .exact ⟨s,Bq _ z,y2,y3⟩
    .exact ⟨noY s,AD _ (AS.mpr ⟨s,z,rfl⟩),y2,y3⟩
 rw [w _ (Az _),Bs,List.drop_length]
 show qat (rs ++ []) _ []=_
 rw [Be]; rfl
theorem qmj {rows:List Rw7} (h:∀ row ∈ rows,qcz row):qh2 (rows.map qam)=rows.map some:=by
 unfold qh2
 rw [Bf]
 exact List.map_congr_left λrow hr=>qrd (h row hr)
theorem qnf {rs:List RR} (g:∀ r ∈ rs,RrOk r):∀ row ∈ qac rs,qcz row:=λrow hr=>by
 obtain ⟨r,h1,h2⟩:=B8.mp hr
 exact qxd (g r h1) row h2
theorem qmk {rs:List RR} (g:GT rs):qfa ((qac rs).map qam)=.ok rs:=by
 unfold qfa
 rw [qmj (qnf g.ok),qkw g]
 dsimp only
 rw [qra,qot g]
theorem qxh {f:Nat->Option Nat} {n:Nat} {rk:Nat->Int} (h:∀ k b,f k=some b->rk b < rk k) {r:List Nat} (rg:Rg f n r):False:=by
 have l1:1 <= r.length:=List.length_pos_iff.mpr rg.ne
 have w:∀ i,(hi:i < r.length)->rk (r[i]) + (i:Int) <= rk (r[0]'(by lia)):=by
  intro i
  induction i with
  | zero=>intro hi; lia
  | succ i ih =>
   intro hi
   have h1:=ih (by lia)
   have h2:=rg.nx i r[i] (Ag (by lia))
   rw [Nat.mod_eq_of_lt hi,Ag hi] at h2
   have:=h _ _ h2
   lia
 have h1:=w (r.length - 1) (by lia)
 have h2:=rg.nx (r.length - 1) r[r.length - 1] (Ag (by lia))
 rw [show r.length - 1 + 1=r.length by lia,Nat.mod_self,Ag (by lia)] at h2
 have:=h _ _ h2
 lia
theorem gt_of {names kinds:List Str} {ow:Nat->Nat} {rk:Nat->Int} {rs:List RR} (g:GRs names ow rk kinds rs) (ln:rs.length=names.length) (no:∀ x ∈ names,qa8 x) (nn:names.Nodup) (l6:names.length <= 6) {mo:Nat} (hm:mo <= 40) (hs:(rs.map exR).sum + names.length <= mo):GT rs:=by
 have ri:∀ r ∈ rs,∃ k,k < names.length/\rs[k]?=some r/\GR names ow rk kinds k r:=λr hr=>by
  obtain ⟨k,hk⟩:=AV hr
  exact ⟨k,by rw [<- ln]; exact (Ae.mp hk).1,hk,g k r hk⟩
 have en:rs.map RR.name=names:=by
  apply BK
  intro k
  rw [Ak]
  by_cases c:k < names.length
  .have hr:rs[k]?=some (rs[k]'(by lia)):=Ag (by lia)
   rw [hr,qg4 c]
   show some (rs[k]'(by lia)).name=_
   rw [(g k _ hr).nm]
  .rw [Bh (by lia),Bh (by lia)]; rfl
 have at_:∀ b,b < names.length->∃ s ∈ rs,s.name=nm9 names b/\s.owes=nm9 kinds (ow b):=λb hb=>by
  have hr:rs[b]?=some (rs[b]'(by lia)):=Ag (by lia)
  exact ⟨_,Ap hr,(g b _ hr).nm,(g b _ hr).os⟩
 refine ⟨λr hr => ?_,λr hr => ?_,λr hr => ?_,by rw [en]; exact nn,by lia,λr hr y hy => ?_,λr hr => ?_,?_⟩
 .obtain ⟨k,hk,_,gr⟩:=ri r hr; exact gr.rrok no hk l6
 .obtain ⟨k,hk,_,gr⟩:=ri r hr; exact gr.kd
 .obtain ⟨k,hk,_,gr⟩:=ri r hr; exact gr.lg.1
 .obtain ⟨k,hk,_,gr⟩:=ri r hr
  rcases gr.bo with ⟨b,hb,e,_⟩ | ⟨e,_⟩
  .rw [e] at hy
   cases hy
   cases ep:qar rs (nm9 names b) with
   | some j=>rfl
   | none =>
    have:=qb9.mp ep
    rw [en] at this
    exact absurd (Ap (qg4 hb)) this
  .rw [e] at hy; cases hy
 .obtain ⟨k,hk,_,gr⟩:=ri r hr
  refine ⟨gr.yl.nd,λy hy => ?_⟩
  obtain ⟨b,hb,e,bk,ob⟩:=gr.yl.ok y hy
  refine ⟨λz=>bk ?_,?_⟩
  .rw [e,gr.nm] at z
   exact qiu nn hb hk z
  .obtain ⟨s,hs1,hs2,hs3⟩:=at_ b hb
   exact ⟨s,hs1,by rw [hs2,e],by rw [hs3,ob,gr.os]⟩
 .have el:∀ l:List RR,(qac l).length=(l.map exR).sum + l.length:=by
   intro l
   induction l with
   | nil=>rfl
   | cons r l ih =>
    have:qac (r :: l)=qcq r ++ qac l:=Bd
    rw [this,Ai,ih,A4,List.sum_cons,An,qeh,An]
    have:(qb0 r).length=exR r:=by
     unfold qb0 exR
     simp only [Ai,Ab]
     have:(qgj r.name r.still).length=stN r.still:=by cases r.still <;> rfl
     lia
    lia
  rw [el,ln]; lia
theorem ranked {names kinds:List Str} {ow:Nat->Nat} {rk:Nat->Int} {rs:List RR} (g:GRs names ow rk kinds rs) (ln:rs.length=names.length) (nn:names.Nodup):∀ k b,bo (bsR rs) k=some b->rk b < rk k:=λk b e=>by
 unfold bo bsR at e
 rw [Bc,Ak] at e
 cases er:rs[k]? with
 | none=>rw [er] at e; cases e
 | some r =>
  rw [er] at e
  have e:r.base.bind (qar rs)=some b:=e
  rcases (g k r er).bo with ⟨b',hb',eb,hr,_⟩ | ⟨eb,_⟩
  .rw [eb] at e
   have e:qar rs (nm9 names b')=some b:=e
   obtain ⟨s,hs,sn⟩:=qbt e
   have:s.name=nm9 names b:=(g b s hs).nm
   have hb:b < names.length:=by rw [<- ln]; exact (Ae.mp hs).1
   have:=qiu nn hb hb' (this.symm.trans sn)
   rw [this]; exact hr
  .rw [eb] at e; cases e
theorem qgl {K:Af} {c:Value} {suite qa9:TH} {D:Ends} {σ:L2.St} {x C:Addr} {od:Option Addr} {H:Hp} (e:Ac K (.ref C) c=some true) (h:suite D σ x C od H):hCl K c suite qa9 D σ x C od H:=by
 unfold hCl; rw [e]; exact h
theorem qcm {K:Af} {c:Value} {suite qa9:TH} {D:Ends} {σ:L2.St} {x C:Addr} {od:Option Addr} {H:Hp} (e:Ac K (.ref C) c=some false) (h:qa9 D σ x C od H):hCl K c suite qa9 D σ x C od H:=by
 unfold hCl; rw [e]; exact h
noncomputable def erW:Er->Str
 | .rule _=>wS "rule"
 | .term _=>wS "term"
 | .twice _=>wS "twice"
 | .unfit _=>wS "unfit"
noncomputable def spTo (a:Adr):Sp:=λvs H Q _=>∃ ls:List Str,vs=[.str (qew ls)]/\Lng ls/\(∀ rs,qfa ls=.ok rs->(∀ (t:Addr) (H':Hp),Same H H'->H' t=some (.tup [.str (wS "read"),.non,.bl true])->Q (.ref t) H')/\∀ (t l:Addr) (H':Hp) (r:List Nat),Same H H'->H' t=some (.tup [.str (wS "ring"),.ref l,.bl true])->H' l=some (.lst ((r.map (nm (rs.map RR.name))).map V.str))->Rg (bo (bsR rs)) (rs.map RR.name).length r->Q (.ref t) H') /\
 ∀ e,qfa ls=.error e->∀ (t:Addr) (H':Hp),Same H H'->H' t=some (.tup [.str (erW e),(erF e).2,.bl true])->Q (.ref t) H'
noncomputable def spRi:Sp:=λvs H Q _=>∃ (ls:List Str) (e:Er),vs=[.str (qew ls),.str (erW e),(erF e).2]/\Lng ls/\qfa ls=.error e/\∀ H',Same H H'->Q (.bl true) H'
noncomputable def tk:Rw7->List Str
 | .term _ _ o d y _ _=>o :: (if d=true then [] else [y])
 | row=>kin row
structure Jn (rows:List Rw7) (S:List RR):Prop where
 nm:∀ x,x ∈ S.map RR.name ↔ ∃ row ∈ rows,isT row=true/\qan row=x
 nd:(S.map RR.name).Nodup
 l6:S.length <= 6
 hs:∀ row ∈ rows,qan row ∈ S.map RR.name
 kd:∀ row ∈ rows,∀ k ∈ tk row,∀ s ∈ S,s.name=qan row->k ∈ qav s
theorem tk_m {row:Rw7} (h:isT row=false):tk row=kin row:=by cases row <;> first | rfl | cases h
theorem unf_st {r:RR} {row:Rw7} (h:qg1 r row=false):nSt [row] + stN r.still <= 1:=by
 have s1:stN r.still <= 1:=by cases r.still <;> simp [stN]
 cases row with
 | still x k l =>
  unfold qg1 qoj at h
  cases e:r.still with
  | none=>simp [nSt,stN]
  | some z=>rw [e] at h; simp at h
 | _=>simp only [nSt]; lia
theorem qxi {rows:List Rw7} {S S':List RR} {i:Nat} {row:Rw7} (j:Jn rows S) (h:qcf S i row=.ok S'):Jn (rows ++ [row]) S':=by
 cases ht:isT row with
 | true =>
  cases row with
  | term x w o d y m u =>
   have h:qe8 S i x w o d y m u=.ok S':=h
   cases pn:qar S x with
   | some j=>rw [qhy (by rw [pn]; rfl)] at h; cases h
   | none =>
    by_cases c:S.length=6 \/ (d=false/\o=y)
    .rw [qeu pn c] at h; cases h
    .rw [qe9 pn c] at h
     cases h
     have nx:=qb9.mp pn
     refine ⟨λz => ?_,?_,?_,λrow hr => ?_,λrow hr k hk s hs en => ?_⟩
     .rw [Ar,A5,j.nm z]
      constructor
      .rintro (⟨row,hr,e⟩ | hz)
       .exact ⟨row,Bq _ hr,e⟩
       .exact ⟨_,AD _ (Aj.mpr rfl),rfl,(Aj.mp hz).symm⟩
      .rintro ⟨row,hr,e1,e2⟩
       rcases A5.mp hr with hr | hr
       .exact .inl ⟨row,hr,e1,e2⟩
       .cases Aj.mp hr
        exact .inr (Aj.mpr e2.symm)
     .rw [Ar]
      refine AY.mpr ⟨j.nd,Bb.mpr ⟨At,List.nodup_nil⟩,λa ha b hb e => ?_⟩
      cases Aj.mp hb
      rw [e] at ha
      exact nx ha
     .rw [Ai]; have:=j.l6; show _ + 1 <= 6; lia
     .rw [Ar]
      rcases A5.mp hr with hr | hr
      .exact Bq _ (j.hs _ hr)
      .cases Aj.mp hr; exact AD _ (Aj.mpr rfl)
     .rcases A5.mp hr with hr | hr
      .rcases A5.mp hs with hs | hs
       .exact j.kd row hr k hk s hs en
       .cases Aj.mp hs
        exact absurd (by rw [show x=qan row from en]; exact j.hs _ hr) nx
      .cases Aj.mp hr
       rcases A5.mp hs with hs | hs
       .exact absurd (by rw [show x=s.name from en.symm]; exact DT hs) nx
       .cases Aj.mp hs
        unfold tk at hk
        rcases Ao.mp hk with rfl | hk
        .unfold qav qm9; simp
        .cases d with
         | true=>simp at hk
         | false=>simp at hk; subst hk; unfold qav qm9; simp
  | _=>cases ht
 | false =>
  rw [qdq ht] at h
  cases pn:qar S (qan row) with
  | none=>rw [qhz pn] at h; cases h
  | some q =>
   obtain ⟨r,hr,en⟩:=qbt pn
   cases u:qg1 r row with
   | true=>rw [qgh pn hr u] at h; cases h
   | false =>
    rw [qh0 pn hr u] at h
    cases h
    have pm:=qmf r ht (unf_st u)
    have nms:(S.set q (qc5 r row)).map RR.name=S.map RR.name:=qgy hr (qfj r row)
    have inr:qan row ∈ S.map RR.name:=by rw [<- en]; exact DT (Ap hr)
    refine ⟨λz => ?_,by rw [nms]; exact j.nd,by rw [BT]; exact j.l6,λrow2 h2 => ?_,λrow2 h2 k hk s hs e2 => ?_⟩
    .rw [nms,j.nm z]
     constructor
     .rintro ⟨row,hr,e⟩; exact ⟨row,Bq _ hr,e⟩
     .rintro ⟨row2,hr,e1,e2⟩
      rcases A5.mp hr with hr | hr
      .exact ⟨row2,hr,e1,e2⟩
      .cases Aj.mp hr; rw [ht] at e1; cases e1
    .rw [nms]
     rcases A5.mp h2 with h2 | h2
     .exact j.hs _ h2
     .cases Aj.mp h2; exact inr
    .rcases A5.mp h2 with h2 | h2
     .rcases Cz hs with hs | rfl
      .exact j.kd row2 h2 k hk s hs e2
      .exact pm.mem_iff.mpr (Bq _ (j.kd row2 h2 k hk r (Ap hr) (by rw [<- e2,qfj])))
     .cases Aj.mp h2
      rw [tk_m ht] at hk
      obtain ⟨i,hi⟩:=AV hs
      have hp:=qd9 (by rw [nms]; exact j.nd) hi
      rw [qby s.name nms,e2,pn] at hp
      cases hp
      rw [Bp (Ae.mp hr).1] at hi
      cases hi
      exact pm.mem_iff.mpr (AD _ hk)
theorem qvk:∀ {rows rows0:List Rw7} {S0 S:List RR} {i:Nat},Jn rows0 S0->qai S0 i (rows.map some)=.ok S->Jn (rows0 ++ rows) S
 | [],rows0,S0,S,i,j,h=>by cases h; rw [Be]; exact j
 | row :: rows,rows0,S0,S,i,j,h=>by
  rw [A4,qbx] at h
  by_cases c:i=40
  .rw [if_pos c] at h; cases h
  .rw [if_neg c] at h
   dsimp only at h
   cases e:qcf S0 i row with
   | error er=>rw [e] at h; cases h
   | ok S1 =>
    rw [e] at h
    have:=qvk (qxi j e) h
    rw [AH] at this
    exact this
theorem jn_nil:Jn [] []:=⟨λx=>⟨(λh=>nomatch h),(λ⟨_,h,_⟩=>nomatch h)⟩,List.nodup_nil,(by decide),(λ_ h=>nomatch h),(λ_ h=>nomatch h)⟩
theorem qky {rs:List RR} (g:GT rs) (n:Nat):∃ S,qai [] 0 (((qac rs).take n).map some)=.ok S/\Jn ((qac rs).take n) S:=by
 have h:=qkw g
 rw [<- Bv n (qac rs),Ar] at h
 obtain ⟨S,hS⟩:=qvj h
 exact ⟨S,hS,qvk jn_nil hS⟩
theorem qou {rs:List RR} {row:Rw7} (h:row ∈ qac rs) (t:isT row=true):∃ r ∈ rs,row=qcc r:=by
 obtain ⟨r,hr,hm⟩:=B8.mp h
 rw [qeh] at hm
 rcases Ao.mp hm with e | hm
 .exact ⟨r,hr,e⟩
 .rw [(qrf r row hm).1] at t; cases t
theorem qec (r:RR):isT (qcc r)=true/\qan (qcc r)=r.name:=by
 obtain ⟨x,w,o,d,y,m,u,e,ex⟩:=qor r
 rw [e]; exact ⟨rfl,ex⟩
noncomputable def hd (rs:List RR) (k:Nat):Nat:=(qac (rs.take k)).length
theorem qkz {rs:List RR} {k:Nat} {r:RR} (h:rs[k]?=some r):qac rs=qac (rs.take k) ++ (qcc r :: (qb0 r ++ qac (rs.drop (k + 1)))):=by
 have e:rs=rs.take k ++ r :: rs.drop (k + 1):=by
  obtain ⟨hk,rfl⟩:=Ae.mp h
  rw [List.getElem_cons_drop,Bv]
 conv=>lhs; rw [e]
 unfold qac
 rw [Bj,Bd,qeh]; rfl
theorem qp1 {rs:List RR} {k n:Nat} {r:RR} (h:rs[k]?=some r) (hn:hd rs k < n):qcc r ∈ (qac rs).take n:=by
 rw [qkz h,List.take_append]
 refine AD _ ?_
 unfold hd at hn
 obtain ⟨m,hm⟩:∃ m,n - (qac (rs.take k)).length=m + 1:=⟨n - (qac (rs.take k)).length - 1,by lia⟩
 rw [hm,List.take_succ_cons]
 exact Aq
theorem qrg {rs:List RR} {k:Nat} {r:RR} (h:rs[k]?=some r):hd rs k < (qac rs).length:=by
 rw [qkz h,Ai,An]; unfold hd; lia
theorem qxj {rs:List RR} (nn:(rs.map RR.name).Nodup) {k n:Nat} {r:RR} (h:rs[k]?=some r) (hn:n <= hd rs k) {row:Rw7} (hr:row ∈ (qac rs).take n) (t:isT row=true):qan row ≠ r.name:=λe=>by
 rw [qkz h,DK hn] at hr
 obtain ⟨s,hs,rfl⟩:=qou (BD hr) t
 rw [(qec s).2] at e
 obtain ⟨i,hi⟩:=AV hs
 have hik:i < k:=by
  have:=(Ae.mp hi).1
  rw [A2] at this; lia
 rw [Dj hik] at hi
 have p1:=qd9 nn hi
 have p2:=qd9 nn h
 rw [e,p2] at p1
 cases p1; lia
theorem qp2 {rs:List RR} {x:Str} (hx:x ∉ rs.map RR.name) {n:Nat} {row:Rw7} (hr:row ∈ (qac rs).take n) (t:isT row=true):qan row ≠ x:=λe=>by
 obtain ⟨s,hs,rfl⟩:=qou (BD hr) t
 rw [(qec s).2] at e
 exact hx (e ▸ DT hs)
theorem qxz {rs:List RR} {j k:Nat} (h:j <= k):hd rs j <= hd rs k:=by
 unfold hd qac
 obtain ⟨d,rfl⟩:∃ d,k=j + d:=⟨k - j,by lia⟩
 rw [List.take_add,Bj,Ai]; lia
noncomputable def Bad (rs:List RR) (n:Nat) (row:Rw7) (e:Er):Prop:=n <= (qac rs).length/\qcz row/\∃ S,qai [] 0 (((qac rs).take n).map some)=.ok S/\qcf S n row=.error e
section
variable {rs:List RR} (g:GT rs) {n:Nat} (hn:n <= (qac rs).length)
include g hn
theorem qsx {k:Nat} {r:RR} (h:rs[k]?=some r) (hk:hd rs k < n) {w o:Str} {d:Bool} {y:Str} {m:Int} {u:Str} (ok:qcz (.term r.name w o d y m u)):Bad rs n (.term r.name w o d y m u) (.twice r.name):=by
 obtain ⟨S,hS,j⟩:=qky g n
 refine ⟨hn,ok,S,hS,qhy ?_⟩
 cases pn:qar S r.name with
 | some q=>rfl
 | none=>exact absurd ((j.nm _).mpr ⟨_,qp1 h hk,(qec r).1,(qec r).2⟩) (qb9.mp pn)
theorem qml {x w o:Str} {m:Int} {u:Str} (hx:x ∉ rs.map RR.name) (ok:qcz (.term x w o false o m u)):Bad rs n (.term x w o false o m u) (.unfit n):=by
 obtain ⟨S,hS,j⟩:=qky g n
 refine ⟨hn,ok,S,hS,qeu (qb9.mpr λh => ?_) (.inr ⟨rfl,rfl⟩)⟩
 obtain ⟨row,hr,t,e⟩:=(j.nm _).mp h
 exact qp2 hx hr t e
theorem qov {x w o y:Str} {m:Int} {u:Str} (hx:x ∉ rs.map RR.name) (l:rs.length=6) (h5:hd rs 5 < n) (ok:qcz (.term x w o false y m u)):Bad rs n (.term x w o false y m u) (.unfit n):=by
 obtain ⟨S,hS,j⟩:=qky g n
 refine ⟨hn,ok,S,hS,qeu (qb9.mpr λh => ?_) (.inl ?_)⟩
 .obtain ⟨row,hr,t,e⟩:=(j.nm _).mp h
  exact qp2 hx hr t e
 .have:(rs.map RR.name).length <= (S.map RR.name).length:=qvf g.nn λz hz=>by
   obtain ⟨r,hr,rfl⟩:=AS.mp hz
   obtain ⟨k,hk⟩:=AV hr
   have k5:=(Ae.mp hk).1
   have:=qxz (rs:=rs) (show k <= 5 by lia)
   exact (j.nm _).mpr ⟨_,qp1 hk (by lia),(qec r).1,(qec r).2⟩
  rw [Ab,Ab] at this
  have:=j.l6
  lia
theorem qp3 {row:Rw7} (t:isT row=false) (ok:qcz row) (hx:(∃ k r,rs[k]?=some r/\r.name=qan row/\n <= hd rs k) \/ qan row ∉ rs.map RR.name):Bad rs n row (.term (qan row)):=by
 obtain ⟨S,hS,j⟩:=qky g n
 refine ⟨hn,ok,S,hS,(qdq t).trans (qhz (qb9.mpr λh => ?_))⟩
 obtain ⟨row2,hr,t2,e⟩:=(j.nm _).mp h
 rcases hx with ⟨k,r,h1,h2,h3⟩ | hx
 .exact qxj g.nn h1 h3 hr t2 (e.trans h2.symm)
 .exact qp2 hx hr t2 e
noncomputable def knO (r:RR) (rows:List Rw7):List Str:=r.owes :: (r.opens.toList ++ rows.flatMap λrow=>if qan row=r.name then kin row else [])
theorem qk0 {k:Nat} {r:RR} (h:rs[k]?=some r) (hk:hd rs k < n) {row:Rw7} (t:isT row=false) (en:qan row=r.name) (ok:qcz row) (c:(∃ z ∈ kin row,z ∈ knO r ((qac rs).take n)) \/ ∀ s,qoj s row=true):Bad rs n row (.unfit n):=by
 obtain ⟨S,hS,j⟩:=qky g n
 have hm:=qp1 h hk
 cases pn:qar S r.name with
 | none=>exact absurd ((j.nm _).mpr ⟨_,hm,(qec r).1,(qec r).2⟩) (qb9.mp pn)
 | some q =>
  obtain ⟨s,hs,es⟩:=qbt pn
  refine ⟨hn,ok,S,hS,(qdq t).trans (qgh (by rw [en]; exact pn) hs ?_)⟩
  unfold qg1
  rcases c with ⟨z,hz,hz2⟩ | c
  .refine DU.mpr (.inl (D8.mpr ⟨z,hz,Ck.mpr ?_⟩))
   have sm:=Ap hs
   have tt:=j.kd _ hm
   unfold knO at hz2
   have ot:∀ z ∈ r.owes :: r.opens.toList,z ∈ tk (qcc r):=by
    intro z hz
    have rok:=g.ok r (Ap h)
    unfold qcc
    cases eb:r.base with
    | none =>
     obtain ⟨o,eo⟩:=rok.bo eb
     rw [eo] at hz |-
     simpa [tk] using hz
    | some y =>
     rw [rok.bn y eb] at hz
     simp [tk] at hz |-
     exact hz
   rw [<- AR] at hz2
   rcases A5.mp hz2 with hz2 | hz2
   .exact tt z (ot z hz2) s sm (by rw [es,(qec r).2])
   .obtain ⟨row2,h2,hz2⟩:=B8.mp hz2
    by_cases e2:qan row2=r.name
    .rw [if_pos e2] at hz2
     cases t2:isT row2 with
     | true =>
      cases row2 with
      | term _ _ _ _ _ _ _=>exact nomatch hz2
      | _=>cases t2
     | false=>exact j.kd _ h2 z (by rw [tk_m t2]; exact hz2) s sm (by rw [es,e2])
    .rw [if_neg e2] at hz2; exact nomatch hz2
  .exact DU.mpr (.inr (c s))
omit hn in
theorem qrh {k:Nat} {r:RR} (h:rs[k]?=some r) {row:Rw7} (t:isT row=false) (en:qan row=r.name) (ok:qcz row) (c:qoj (noY r) row=true):Bad rs (qac rs).length row (.unfit (qac rs).length):=by
 have rd:=qkw g
 refine ⟨Az _,ok,rs.map noY,by rw [Bs]; exact rd,(qdq t).trans (qgh (j:=k) (r:=noY r) ?_ ?_ ?_)⟩
 .rw [en,qby r.name (qmi rs)]; exact qd9 g.nn h
 .rw [Ak,h]; rfl
 .exact DU.mpr (.inr c)
end
theorem qsy {rs:List RR} (g:GT rs) (l39:(qac rs).length <= 39) {n:Nat} {row:Rw7} {e:Er} (b:Bad rs n row e):qfa (((qac rs).take n).map qam ++ [qam row] ++ ((qac rs).drop n).map qam)=.error e:=by
 obtain ⟨hn,ok,S,hS,hr⟩:=b
 have oks:=qnf g.ok
 have:qai [] 0 (qh2 (((qac rs).take n).map qam ++ [qam row] ++ ((qac rs).drop n).map qam))=.error e:=by
  unfold qh2
  rw [Ar,Ar,AH,qdj]
  rw [show (((qac rs).take n).map qam).map opR=((qac rs).take n).map some from qmj λrow h=>oks row (BD h),hS]
  dsimp only
  show qai S _ (opR (qam row) :: _)=_
  rw [qrd ok,Ab,A2,Nat.min_eq_left hn,CM]
  exact qko (by lia) hr _
 unfold qfa
 rw [this]
theorem qvl:∀ l:List RR,(qac l).length=(l.map exR).sum + l.length:=by
 intro l
 induction l with
 | nil=>rfl
 | cons r l ih =>
  have:qac (r :: l)=qcq r ++ qac l:=Bd
  rw [this,Ai,ih,A4,List.sum_cons,An,qeh,An]
  have:(qb0 r).length=exR r:=by
   unfold qb0 exR
   simp only [Ai,Ab]
   have:(qgj r.name r.still).length=stN r.still:=by cases r.still <;> rfl
   lia
  lia
theorem qsz {names kinds:List Str} {ow:Nat->Nat} {rk:Nat->Int} {rs:List RR} (g:GRs names ow rk kinds rs) (ln:rs.length=names.length):rs.map RR.name=names:=by
 apply BK
 intro k
 rw [Ak]
 by_cases c:k < names.length
 .have hr:rs[k]?=some (rs[k]'(by lia)):=Ag (by lia)
  rw [hr,qg4 c]
  show some (rs[k]'(by lia)).name=_
  rw [(g k _ hr).nm]
 .rw [Bh (by lia),Bh (by lia)]; rfl
theorem qow {ls:List Str} (h:Lng ls):JoinOk (wS "\n") ls=true/\Txt.join (wS "\n") ls=qew ls:=by
 constructor
 .unfold JoinOk
  rw [StrLaws.joinFits (B:=200) (λp hp=>(h.c p hp).1) (by
   have:=h.n
   rw [show (wS "\n").length=1 by decide +kernel]
   show ls.length * 200 + ls.length * 1 <= 16777216
   lia)]
  rfl
 .show AO.Str.glued _ _=_
  rw [StrLaws.glued_eq_join,qy8]
  rfl
theorem qmm {rows:List Rw7} (h:∀ row ∈ rows,qcz row) (n:rows.length <= 100):Lng (rows.map qam):=by
 refine ⟨by rw [Ab]; exact n,λl hl => ?_,λe => ?_⟩
 .obtain ⟨row,hr,rfl⟩:=AS.mp hl
  have:=qnd (h row hr)
  exact ⟨by lia,this.2.1⟩
 .cases rows with
  | nil=>cases e
  | cons r t =>
   rw [A4] at e
   injection e with e1 _
   have:=(qnd (h r Aq)).2.2
   rw [e1] at this
   exact this (by decide +kernel)
structure DW (rs:List RR) (x:Str) (kinds:List Str):Prop where
 gt:GT rs
 nx:x ∉ rs.map RR.name
 xo:qa8 x
 kl:kinds.length=16
 kn:kinds.Nodup
 ko:∀ z ∈ kinds,qa8 z
 l39:(qac rs).length <= 39
 rk:∃ rk:Nat->Int,∀ k b,bo (bsR rs) k=some b->rk b < rk k
noncomputable def spDr (K:Af):Sp:=λvs H Q _=>∃ (l:Addr) (ns:List Int),vs=[.ref l]/\SqL K H l (ns.map V.int)/\∀ (t p pr pk:Addr) (H':Hp) (qs:List Addr) (rs:List RR) (x:Str) (kinds:List Str),Same H H'->H' p=some (.lst (qs.map V.ref))->qs.length=rs.length->(∀ (i:Nat) (q:Addr) (r:RR),qs[i]?=some q->rs[i]?=some r->LR H' q r)->H' t=some (.tup [.ref p,.ref pr,.ref pk])->H' pr=some (.lst [.str x])->H' pk=some (.lst (kinds.map V.str))->DW rs x kinds->Q (.ref t) H'
noncomputable def RsAt (H:Hp) (p:Addr) (rs:List RR):Prop:=∃ qs:List Addr,H p=some (.lst (qs.map V.ref))/\qs.length=rs.length/\∀ (i:Nat) (q:Addr) (r:RR),qs[i]?=some q->rs[i]?=some r->LR H q r
noncomputable def spHd:Sp:=λvs H Q _=>∃ (p:Addr) (rs:List RR),vs=[.ref p]/\RsAt H p rs/\(∀ r ∈ rs,RrOk r)/\rs.length <= 6/\(qac rs).length <= 40/\∀ (q:Addr) (H':Hp),H q=none->Same H H'->H' q=some (.lst ((Ba rs.length).map λk=>V.int (hd rs k:Int)))->Q (.ref q) H'
noncomputable def spSt9:Sp:=λvs H Q _=>∃ (c:Int) (x k o:Str),vs=[.int c,.str x,.str k,.str o]/\qa8 x/\qa8 k/\qa8 o/\∀ (row:Rw7) (H':Hp),Same H H'->qcz row->isT row=false->qan row=x->k ∈ kin row->Q (.str (qam row)) H'
noncomputable def spTr9:Sp:=λvs H Q _=>∃ x o y:Str,vs=[.str x,.str o,.str y]/\qa8 x/\qa8 o/\qa8 y/\∀ H',Same H H'->Q (.str (qam (.term x (wS "who") o false y 3 (wS "court")))) H'
noncomputable def spKn9:Sp:=λvs H Q _=>∃ (p q:Addr) (r:RR) (rows:List Rw7),vs=[.ref p,.ref q]/\LR H p r/\H q=some (.lst (qbz rows))/\(∀ row ∈ rows,qcz row)/\rows.length <= 40/\∀ (q2:Addr) (H':Hp),H q2=none->Same H H'->H' q2=some (.lst ((knO r rows).map V.str))->Q (.ref q2) H'
theorem qp4:(wS " 7 times 2").cps.toList=32 :: ((nS 7).cps.toList ++ 32 :: ((wS "times").cps.toList ++ 32 :: (nS 2).cps.toList))/\(wS " 1 times 1").cps.toList=32 :: ((nS 1).cps.toList ++ 32 :: ((wS "times").cps.toList ++ 32 :: (nS 1).cps.toList))/\(wS " of who due ").cps.toList=32 :: ((wS "of").cps.toList ++ 32 :: ((wS "who").cps.toList ++ 32 :: ((wS "due").cps.toList ++ [32])))/\(wS " from ").cps.toList=32 :: ((wS "from").cps.toList ++ [32])/\(wS " 3 court").cps.toList=32 :: ((nS 3).cps.toList ++ 32 :: (wS "court").cps.toList):=by decide +kernel
theorem qp5:(Aa " 7 times 2").length=10/\(Aa " 1 times 1").length=10/\(Aa " of who due ").length=12/\(Aa " from ").length=6/\(Aa " 3 court").length=8:=by decide +kernel
theorem who_ok:qa8 (wS "who"):=by rw [<- qc6]; decide +kernel
theorem qxk (x k:Str):wS "longer " ++ x ++ wS " " ++ k ++ wS " 7 times 2" = qam (.longer x k 7 2):=by
 obtain ⟨_,_,_,_,_,t6,_,_,t9,t10,_⟩:=qeb
 obtain ⟨n1,n2,n3,n4,n5⟩:=qp4
 refine str_ext ?_
 rw [show (qam (.longer x k 7 2)).cps.toList=jl 32 ((qao (.longer x k 7 2)).map λp=>p.cps.toList) from qce 32 _]
 simp only [qcy,t6,t9,t10,n1,qao,A4,Bu,jl,AH,AR,AW]
theorem qxl (x k:Str):wS "longer " ++ x ++ wS " " ++ k ++ wS " 1 times 1" = qam (.longer x k 1 1):=by
 obtain ⟨_,_,_,_,_,t6,_,_,t9,t10,_⟩:=qeb
 obtain ⟨n1,n2,n3,n4,n5⟩:=qp4
 refine str_ext ?_
 rw [show (qam (.longer x k 1 1)).cps.toList=jl 32 ((qao (.longer x k 1 1)).map λp=>p.cps.toList) from qce 32 _]
 simp only [qcy,t6,t9,t10,n2,qao,A4,Bu,jl,AH,AR,AW]
theorem qvm (x o y:Str):wS "term " ++ x ++ wS " of who due " ++ o ++ wS " from " ++ y ++ wS " 3 court" = qam (.term x (wS "who") o false y 3 (wS "court")):=by
 obtain ⟨t1,t2,t3,t4,t5,t6,_⟩:=qeb
 obtain ⟨n1,n2,n3,n4,n5⟩:=qp4
 refine str_ext ?_
 rw [show (qam (.term x (wS "who") o false y 3 (wS "court"))).cps.toList=jl 32 ((qao (.term x (wS "who") o false y 3 (wS "court"))).map λp=>p.cps.toList) from qce 32 _]
 simp only [qcy,t1,n3,n4,n5,qao,fbS,Ct,if_false,A4,Bu,jl,AH,AR,AW]
theorem qxm (row:Rw7):(∃ w x k qa9,qao row=w :: x :: k :: qa9/\(w=wS "ends" \/ w=wS "anew" \/ w=wS "longer")/\qan row=x/\kin row=[k]) \/ (∃ x k l,qao row=[wS "still",x,k,l]/\qan row=x/\kin row=[k,l]) \/ ∃ w x qa9,qao row=w :: x :: qa9/\(w=wS "term" \/ w=wS "yields")/\qan row=x/\kin row=[]:=by
 cases row with
 | term x w o d y m u=>exact .inr (.inr ⟨_,_,_,rfl,.inl rfl,rfl,rfl⟩)
 | ends x k=>exact .inl ⟨_,_,_,_,rfl,.inl rfl,rfl,rfl⟩
 | anew x k=>exact .inl ⟨_,_,_,_,rfl,.inr (.inl rfl),rfl,rfl⟩
 | longer x k u t=>exact .inl ⟨_,_,_,_,rfl,.inr (.inr rfl),rfl,rfl⟩
 | still x k l=>exact .inr (.inl ⟨_,_,_,rfl,rfl,rfl⟩)
 | yields x y=>exact .inr (.inr ⟨_,_,_,rfl,.inr rfl,rfl,rfl⟩)
theorem qgm {r:RR} {rows:List Rw7} {i:Nat} {row:Rw7} (h:rows[i]?=some row):knO r (rows.take (i + 1))=knO r (rows.take i) ++ (if qan row=r.name then kin row else []):=by
 unfold knO
 rw [qbg h,Bj]
 simp [Bd]
theorem qri {rs:List RR} {k:Nat} {r:RR} (h:rs[k]?=some r):hd rs (k + 1)=hd rs k + (qcq r).length:=by
 unfold hd qac
 rw [qbg h,Bj,Ai]
 simp [Bd]
theorem qvn {p G:Hp->Prop} {R:Prop} (m:(∀ x,p x->G x)->R) (l:∀ x,p x->G x):R:=m l
theorem qex (z:List Rw7):(qbz z).length=z.length:=by unfold qbz; rw [Ab,Ab]
theorem lns_at {rows:List Rw7} {i:Nat} {v:V} (h:(qbz rows)[i]?=some v):∃ row,rows[i]?=some row/\v=.str (qam row):=by
 unfold qbz at h
 rw [Ak,Ak] at h
 cases e:rows[i]? with
 | none=>rw [e] at h; cases h
 | some row=>rw [e] at h; cases h; exact ⟨row,rfl,rfl⟩
theorem qrj {r:RR}:∀ rows:List Rw7,(knO r rows).length <= 2 + 2 * rows.length:=by
 intro rows
 unfold knO
 have:(rows.flatMap λrow=>if qan row=r.name then kin row else []).length <= 2 * rows.length:=by
  induction rows with
  | nil=>exact Az _
  | cons row t ih =>
   rw [Bd,Ai,An]
   have:(if qan row=r.name then kin row else []).length <= 2:=by
    split
    .cases row <;> simp [kin]
    .exact B0 _
   lia
 have o:r.opens.toList.length <= 1:=by cases r.opens <;> simp
 rw [An,Ai]; lia
noncomputable def Flt (rs:List RR) (H:Hp) (Q:VK):Prop:=∀ (t:Addr) (H':Hp) (n:Nat) (row:Rw7) (e:Er),Same H H'->H' t=some (.tup [.int (n:Int),.str (qam row),.str (erW e),(erF e).2])->Bad rs n row e->Q (.ref t) H'
noncomputable def spNt9:Sp:=λvs H Q _=>∃ (w c:Int) (pt pk:Addr) (x:Str) (n:Nat) (rs:List RR) (kinds tl:List Str),vs=[.int w,.int c,.ref pt,.str x,.ref pk,.int (n:Int)]/\DW rs x kinds/\H pk=some (.lst (kinds.map V.str))/\H pt=some (.lst (tl.map V.str))/\tl.length <= 6/\(∀ y ∈ tl,∃ k r,rs[k]?=some r/\r.name=y/\hd rs k < n)/\n <= (qac rs).length/\Flt rs H Q
noncomputable def spOr9:Sp:=λvs H Q _=>∃ (w c:Int) (q pw pk:Addr) (x:Str) (n k:Nat) (r:RR) (rs:List RR) (kinds:List Str),vs=[.int w,.int c,.ref q,.ref pw,.int (n:Int),.ref pk]/\DW rs x kinds/\LR H q r/\rs[k]?=some r/\H pk=some (.lst (kinds.map V.str))/\H pw=some (.lst (qbz (qac rs)))/\hd rs k < n/\n <= (qac rs).length/\Flt rs H Q
noncomputable def spFa9 (K:Af):Sp:=λvs H Q _=>∃ (l p pk pw:Addr) (ns:List Int) (x:Str) (rs:List RR) (kinds:List Str),vs=[.ref l,.ref p,.str x,.ref pk,.ref pw]/\SqL K H l (ns.map V.int)/\RsAt H p rs/\DW rs x kinds/\H pk=some (.lst (kinds.map V.str))/\H pw=some (.lst (qbz (qac rs)))/\Flt rs H Q
theorem knO_ok {r:RR} (ok:RrOk r) {rows:List Rw7} (h:∀ row ∈ rows,qcz row):∀ z ∈ knO r rows,qa8 z:=λz hz=>by
 unfold knO at hz
 rcases Ao.mp hz with rfl | hz
 .exact ok.kin.1
 .rcases A5.mp hz with hz | hz
  .cases eo:r.opens with
   | none=>rw [eo] at hz; exact nomatch hz
   | some o=>rw [eo] at hz; cases Aj.mp hz; exact ok.kin.2.2.2.2.1 _ eo
  .obtain ⟨row,hr,hz⟩:=B8.mp hz
   have o:=h row hr
   by_cases c:qan row=r.name
   .rw [if_pos c] at hz
    cases row with
    | term=>exact nomatch hz
    | ends x k=>cases Aj.mp hz; exact o.2
    | anew x k=>cases Aj.mp hz; exact o.2
    | longer x k u t=>cases Aj.mp hz; exact o.2.1
    | still x k l =>
     rcases Ao.mp hz with rfl | hz
     .exact o.2.1
     .cases Aj.mp hz; exact o.2.2
    | yields=>exact nomatch hz
   .rw [if_neg c] at hz; exact nomatch hz
noncomputable def pF (P:Nat->Bool):V->Bool
 | .int j=>P j.toNat
 | _=>false
noncomputable def nF (rs:List RR):V->V
 | .int j=>V.str (rs.getD j.toNat r0).name
 | _=>.non
theorem qrk (rs:List RR) (P:Nat->Bool):∃ tl:List Str,((((Ba rs.length).map λi:Nat=>V.int (0 + (i:Int))).filter (pF P)).map (nF rs))=tl.map V.str/\tl.length <= rs.length/\∀ y ∈ tl,∃ k r,rs[k]?=some r/\r.name=y/\P k=true:=by
 refine ⟨((Ba rs.length).filter P).map λk=>(rs.getD k r0).name,?_,?_,λy hy => ?_⟩
 .have:(λi:Nat=>V.int (0 + (i:Int)))=λi:Nat=>V.int (i:Int):=by funext i; rw [BU]
  rw [this,List.filter_map,Bf,Bf]
  congr 1
 .rw [Ab]
  exact A1 (List.length_filter_le _ _) (by rw [BB]; exact Az _)
 .obtain ⟨k,hk,rfl⟩:=AS.mp hy
  obtain ⟨h1,h2⟩:=DL.mp hk
  have hr:rs[k]?=some (rs[k]'(Cb.mp h1)):=Ag (Cb.mp h1)
  exact ⟨k,_,hr,by rw [qdw hr],h2⟩
theorem DW.two {rs:List RR} {x:Str} {kinds:List Str} (d:DW rs x kinds):∃ a b:Str,atI (kinds.map V.str) 14=some (.str a)/\atI (kinds.map V.str) 15=some (.str b)/\qa8 a/\qa8 b:=by
 have e14:kinds[14]?=some (kinds[14]'(by rw [d.kl]; decide)):=Ag (by rw [d.kl]; decide)
 have e15:kinds[15]?=some (kinds[15]'(by rw [d.kl]; decide)):=Ag (by rw [d.kl]; decide)
 exact ⟨_,_,qaz (j:=14) (by rw [Ak,e14]; rfl),qaz (j:=15) (by rw [Ak,e15]; rfl),d.ko _ (Ap e14),d.ko _ (Ap e15)⟩
theorem DW.odd {rs:List RR} {x:Str} {kinds:List Str} (d:DW rs x kinds) (c:Int):∃ b:Str,atI (kinds.map V.str) (14 + c % 2)=some (.str b)/\qa8 b:=by
 obtain ⟨a,b,h1,h2,h3,h4⟩:=d.two
 rcases (by lia:c % 2=0 \/ c % 2=1) with z | z <;> rw [z]
 .exact ⟨a,h1,h3⟩
 .exact ⟨b,h2,h4⟩
theorem qjn {x o y:Str} (hx:qa8 x) (ho:qa8 o) (hy:qa8 y):qcz (.term x (wS "who") o false y 3 (wS "court")):=⟨hx,who_ok,ho,hy,by decide,by decide +kernel⟩
theorem qp6 {ys:List Str} {j:Nat} (h:j < ys.length):atI (ys.map V.str) (j:Int)=some (.str ys[j]):=qaz (by rw [Ak,Ag h]; rfl)
theorem useAB {p G p' G':Hp->Prop} {R:Prop} (m:(∀ x,p x->G x)->(∀ x,p' x->G' x)->R) (l:∀ x,p x->G x) (l':∀ x,p' x->G' x):R:=m l l'
theorem qox (rs:List RR) {j:Nat} (h:j < rs.length):atI ((Ba rs.length).map λk=>V.int (hd rs k:Int)) (j:Int)=some (.int (hd rs j:Int)):=qaz (by rw [Ak,Dh h]; rfl)
theorem qk1 (c:Int) {m:Nat} (h:1 <= m):∃ j:Nat,c % (m:Int)=(j:Int)/\j < m:=by
 have z0:=CQ c (show (m:Int) ≠ 0 by lia)
 have z1:=Cw c (show (0:Int) < (m:Int) by lia)
 exact ⟨(c % (m:Int)).toNat,by lia,by lia⟩
theorem qrl (c:Int) {h m:Nat} (g:h < m):∃ n:Nat,(h:Int) + 1 + c % ((m:Int) - (h:Int))=(n:Int)/\h < n/\n <= m:=by
 obtain ⟨j,e,l⟩:=qk1 c (m:=m - h) (by lia)
 rw [show ((m - h:Nat):Int)=(m:Int) - (h:Int) by lia] at e
 exact ⟨h + 1 + j,by rw [e]; lia,by lia,by lia⟩
noncomputable def hdV (H:Hp):V->V
 | .ref q=>match H q with
  | some (.lst (v :: _))=>v
  | _=>.non
 | _=>.non
theorem qvo (rows:List Rw7) (n:Nat) (y:Str):((rows.take n).map qam ++ [y] ++ (rows.drop n).map qam).map V.str=(qbz rows).take n ++ [V.str y] ++ (qbz rows).drop n:=by
 unfold qbz
 rw [Ar,Ar,BM,BM,C7,C7]; rfl
theorem qxn {rs:List RR} {n:Nat} {row:Rw7} {e:Er} (ok:∀ row ∈ qac rs,qcz row) (l:(qac rs).length <= 39) (b:Bad rs n row e):Lng (((qac rs).take n).map qam ++ [qam row] ++ ((qac rs).drop n).map qam):=by
 have:((qac rs).take n).map qam ++ [qam row] ++ ((qac rs).drop n).map qam=((qac rs).take n ++ [row] ++ (qac rs).drop n).map qam:=by rw [Ar,Ar]; rfl
 rw [this]
 refine qmm (λr hr => ?_) ?_
 .rcases A5.mp hr with hr | hr
  .rcases A5.mp hr with hr | hr
   .exact ok r (BD hr)
   .cases Aj.mp hr; exact b.2.1
  .exact ok r (DJ hr)
 .rw [Ai,Ai,A2,Bl]; show _ + 1 + _ <= _; lia
section
variable {P:AM} {w:World} {K:Af} {mg:Str->Option Value} {base:Heap} {a:Adr}
set_option maxHeartbeats 4000000
theorem qp7 (T:Txt K mg a):FnOk P w K mg base CX0 1 a.fIsFigure a.gIsFigure ["sign"] spFig:=by
 refine T.dIsFigure.fn.ok qpo (λvs H Q E h => ?_) (λcdv A outer s H vs Q E hr h => ?_)
 .obtain ⟨_,rfl,_⟩:=h
  all_goals rfl
 .obtain ⟨c,rfl,k⟩:=h
  refine ⟨_,(qz (zd (qnk qgq qgq zq (pv 0) zq))),?_⟩
  refine ⟨_,rfl,_,_,rfl,rfl,_,rfl,?_⟩
  have k':Q (.bl (fig c)) H:=k
  unfold fig at k'
  show if (!decide ((⟨#[c]⟩:Str).cps.toList < (Aa "0").cps.toList))=true then _ else _
  rw [le_0]
  by_cases h1:48 <= c
  .rw [decide_eq_true h1,CU] at k'
   rw [decide_eq_true h1]
   refine qct ⟨_,_,rfl,rfl,?_⟩
   show Q (.bl (!decide ((Aa "9").cps.toList < (⟨#[c]⟩:Str).cps.toList))) H
   rw [le_9]; exact k'
  .rw [decide_eq_false h1,Cm] at k'
   rw [decide_eq_false h1]
   exact qbo k'
theorem qic (T:Txt K mg a):FnOk P w K mg base CX0 2 a.fIsWrittenNumber a.gIsWrittenNumber ["text", "most_figures"] spWn:=by
 refine T.dIsWrittenNumber.fn.ok qht (λvs H Q E h => ?_) (λcdv A outer s H vs Q E hr h => ?_)
 .obtain ⟨_,_,rfl,_⟩:=h
  all_goals rfl
 .obtain ⟨x,m,rfl,hx,k⟩:=h
  refine ⟨_,(qp (zm (qid (qjs qll qll qu (zo qaq (by rfl) T.n_len qap (qj (pv 0) qt qm)) (pv 1))) (qz (zd qg2)) qag)
   (qp (zm (qid (zp (zo (qlz rfl) (by rfl) T.n_all qoc (qj (qgp (N:=["sign"]) (js:=[none]) (XN:=["text", "most_figures"]) (xs:=qab qc4) rfl rfl rfl (by decide +kernel) (qqu (pv 0)) (λ_ _ _ _ _ _=>(qak (i:=0) (show BW (["sign"]:List Str) from by decide +kernel) rfl (Aw rfl) (Cq rfl))) (λ_ _ _ _ _ _=>qdf) (λ_ _ _ _ _ _=>(zn (qp7 T) (hr.mono (by decide)) rfl T.dIsFigure.mgx T.dIsFigure.fn.kp T.dIsFigure.bd .nil qau (qj (pv 0) qt qm)))) qt qj0)))) (qz (zd qg2)) qag)
   (qz (zd (qxp (qdu qay (pv 0) zq (qad _)) (qey (qjq (qcb Cf PySem.F.slot_str_startswith PySem.F.type_str_startswith qla (pv 0) (qj zq qt zc))))))))),?_⟩
  have hz:x.length <= Ax:=qal (by lia)
  refine ⟨_,rfl,_,_,rfl,⟨hz,rfl⟩,_,_,rfl,rfl,_,rfl,?_⟩
  have k0:=k H (Same.refl H)
  unfold wnm at k0
  refine qb4 (λc => ?_) (λc => ?_)
  .have c':1 <= (x.cps.size:Int):=of_decide_eq_true c
   refine ⟨_,rfl,_,_,rfl,rfl,_,rfl,?_⟩
   refine qb4 (λd => ?_) (λd => ?_)
   .have d1:decide ((x.cps.size:Int) <= m)=false:=nbF d
    have d':=of_decide_eq_false d1
    rw [decide_eq_false d',CV,Cm] at k0
    exact k0
   .have d1:decide ((x.cps.size:Int) <= m)=true:=nbT d
    have d':=of_decide_eq_true d1
    refine ⟨_,rfl,_,rfl,?_⟩
    refine qc1 (λv=>match v with | .str y=>.bl (fig (y.cps.getD 0 0)) | _=>.non) (λσ'=>∃ v,σ'=[v]) qjz ?_ ?_ (λv σ' H' R hv sm s1 q => ?_) qc2 λp hp => ?_
    .rw [Ab,AN]; exact hz
    .exact ⟨none,rfl⟩
    .obtain ⟨c,hc,rfl⟩:=AS.mp hv
     obtain ⟨v0,rfl⟩:=s1
     exact ⟨_,rfl,c,rfl,q _ ⟨_,rfl⟩⟩
    refine ⟨p,x.cps.toList.map fig,rfl,SqL.of (by rw [zb,Bf,Bf]; rfl),_,rfl,?_⟩
    have k1:=k _ (zj (o:=.lst ((x.cps.toList.map λc=>V.str ⟨#[c]⟩).map λv=>match v with | .str y=>.bl (fig (y.cps.getD 0 0)) | _=>.non)) hp)
    unfold wnm at k1
    rw [decide_eq_true (show 1 <= x.cps.size by lia),decide_eq_true d',CU,CU] at k1
    show if (!((x.cps.toList.map fig).all λb=>b))=true then _ else _
    rw [CJ]
    show if (!(x.cps.toList.all fig))=true then _ else _
    cases e:x.cps.toList.all fig with
    | false =>
     rw [e] at k1
     exact qct k1
    | true =>
     rw [e,CU] at k1
     refine qbo ⟨_,rfl,rfl,_,rfl,?_⟩
     show if decide (V.str x=V.str (Aa "0"))=true then _ else _
     unfold Wri.plain at k1
     by_cases h0:x=Aa "0"
     .rw [decide_eq_true h0,Bool.true_or] at k1
      rw [decide_eq_true (congrArg V.str h0)]
      exact qct k1
     .rw [decide_eq_false h0,Bool.false_or] at k1
      rw [decide_eq_false λz=>h0 (V.str.inj z)]
      refine qbo ⟨_,rfl,rfl,_,_,rfl,rfl,_,rfl,?_⟩
      show Q (.bl (!Txt.startswith x (Aa "0"))) _
      rw [qw1]
      exact k1
  .have c':¬ 1 <= (x.cps.size:Int):=λz=>c (decide_eq_true z)
   rw [decide_eq_false (show ¬ 1 <= x.cps.size by lia),Cm,Cm] at k0
   exact ⟨_,rfl,qct k0⟩
theorem qvp (T:Txt K mg a):FnOk P w K mg base CX0 3 a.fNumber a.gNumber ["text", "most"] quy:=by
 refine T.dNumber.fn.ok qod (λvs H Q E h => ?_) (λcdv A outer s H vs Q E hr h => ?_)
 .obtain ⟨_,_,rfl,_⟩:=h
  all_goals rfl
 .obtain ⟨x,m,rfl,hx,m1,m2,k,kn⟩:=h
  refine ⟨_,(qp (zm (qid (zp (zn (qic T) (hr.mono (by decide)) rfl T.dIsWrittenNumber.mgx T.dIsWrittenNumber.fn.kp T.dIsWrittenNumber.bd .nil qau (qj (pv 0) (qj (zo qaq (by rfl) T.n_len qap (qj (qb3 qd5 (by rfl) T.n_str qeo (qj (pv 1) qt qm)) qt zu)) qt zu) qm)))) (qz (zd qbk)) qag)
   (qp (zh (i:=2) qod.nd rfl (Aw rfl) (qb3 qr6 (by rfl) T.n_int qgd (qj (pv 0) qt qm)))
   (qz (zd (qdx (qjs qll qll qu (pv 2) (pv 1)) (pv 2) qbk))))),?_⟩
  have hL:(ts m).length <= 62:=qy7 (by lia) (by decide) m2
  refine ⟨_,rfl,_,rfl,_,rfl,qy6 62 (by decide +kernel) (by lia) m2,_,_,rfl,⟨qal (A1 hL (by decide)),rfl⟩,x,_,rfl,by lia,λH1 s1 => ?_⟩
  refine ⟨_,rfl,?_⟩
  show if (!wnm x ((ts m).length:Nat))=true then _ else _
  cases e:wnm x ((ts m).length:Nat) with
  | false=>exact qct (kn (by unfold due; rw [e]; rfl) H1 s1)
  | true =>
   have e':=e
   unfold wnm at e'
   simp only [AI,decide_eq_true_eq] at e'
   obtain ⟨⟨g1,g2⟩,g3,g4⟩:=e'
   refine qbo ⟨_,rfl,_,_,rfl,qyr g3 g1 (by lia),(by show x.cps.size <= 640; lia),_,rfl,_,_,rfl,rfl,_,rfl,?_⟩
   refine qb4 (λc1 => ?_) (λc1 => ?_)
   .refine ⟨_,rfl,_,_,rfl,rfl,_,rfl,?_⟩
    refine qb4 (λc2 => ?_) (λc2 => ?_)
    .exact ⟨_,rfl,k (by unfold due; rw [e,c1,c2]; rfl) H1 s1⟩
    .exact kn (by unfold due; rw [e,c1,Ei.mpr c2]; rfl) H1 s1
   .exact ⟨_,rfl,qbo (kn (by unfold due; rw [e,Ei.mpr c1]; rfl) H1 s1)⟩
theorem qp8 (T:Txt K mg a):FnOk P w K mg base CX0 1 a.fRingInit a.gRingInit ["self", "names"] (spIL K):=by
 refine T.dRingInit.fn.ok qpp (λvs H Q E h => ?_) (λcdv A outer s H vs Q E hr h => ?_)
 .obtain ⟨_,_,_,_,_,rfl,_⟩:=h
  all_goals rfl
 .obtain ⟨x,C,l,zs,ini,rfl,hx,hl,xa,n1,k⟩:=h
  refine ⟨_,(qp (zk (qf5 T.b_CourtError rfl T.m_CourtError (qj (pv 0) (qj (qb3 qhk (by rfl) T.n_list qef (qj (pv 1) qt qm)) qt zu) qm)))
   (qz (qho (pv 0) (qb3 qhk (by rfl) T.n_list qef (qj (pv 1) qt qm)) rfl))),?_⟩
  have nl:∀ {p:Addr},H p=none->p ≠ x:=λhp z=>by rw [z,hx] at hp; cases hp
  refine ⟨_,rfl,_,rfl,l,zs,rfl,.inl hl,λp1 h1 => ?_⟩
  have hx1:upd H p1 (.lst zs) x=some (exO x C none true):=by rw [zf (AX (nl h1))]; exact hx
  refine ⟨x,C,none,[.ref p1],ini,rfl,hx1,xa.xc,qal (show 1 <= 100000 by decide),?_⟩
  have hl2:SqL K (upd H p1 (.lst zs)) l zs:=(zj h1).seq hl
  refine ⟨_,rfl,l,zs,rfl,.inl hl2,λp3 h3 => ?_⟩
  have h30:H p3=none:=(zj h1).free h3
  have n31:p3 ≠ p1:=λz=>by rw [z,zb] at h3; cases h3
  have hx3:upd (upd H p1 (.lst zs)) p3 (.lst zs) x=some (exO x C none true):=by rw [zf (AX (nl h30))]; exact hx1
  refine ⟨_,rfl,x,C,true,rfl,xa.set n1,.inl ⟨hx3,λdx hd => ?_⟩⟩
  have hd0:H dx=none:=((zj h1).trans (zj h3)).free hd
  have nd3:p3 ≠ dx:=λz=>by rw [<- z,zb] at hd; cases hd
  exact k dx p3 _ hd0 h30 (λb o hb e=>by rw [zf hb,zf (qae e hd0),zf (qae e h30),zf (qae e h1)]; exact e) zb (by rw [zf (nl hd0)]; exact zb) (by rw [zf (nl h30),zf nd3]; exact zb)
theorem qs0 (T:Txt K mg a):FnOk P w K mg base (CX1 P w) 3 a.fUntaken a.gUntaken ["name", "bases", "taken"] (spUn7 a):=by
 refine okX T.dUntaken.fn qgt (λvs H Q E h => ?_) (λcdv A outer s H vs Q E hr h => ?_)
 .obtain ⟨_,_,_,_,_,_,_,rfl,_⟩:=h
  all_goals rfl
 .obtain ⟨d,t,kvs,nms,bs,os,k0,rfl,hd,ht,wr,lto,hk,dic,k,kx⟩:=h
  refine ⟨_,(qp (zh (i:=3) qgt.nd rfl (Aw rfl) (zr qt))
   (qp (zh (i:=4) qgt.nd rfl (Aw rfl) (pv 0))
   (qp (qtb BE.leaving (PW.pt (qd3 (zg qdd (pv 4) qbk (qad _)) (qdt (zg qhj (pv 4) (pv 2) (by with_unfolding_all rfl))))) (qp (zm (zg qed (pv 4) (pv 3) (by with_unfolding_all rfl)) (qz (qdg rfl (Takes.at qbl) (qd7 T.x_Ring.xc T.dRingInit.ty (qp8 T) (hr.mono (by decide)) rfl T.m_Ring T.x_Ring.kp T.dRingInit.bd .nil qau (qj (qbb qb2 (pv 3) (qa5 (qcb A9 PySem.F.slot_list_index PySem.F.type_list_index qse (pv 3) (qj (pv 4) qt qm))) qc0) qt zx)))) qag)
   (qp (zk (qcb A9 AE AF qa0 (pv 3) (qj (pv 4) qt qm)))
   (qz (zh (i:=4) qgt.nd rfl (Aw rfl) (qji (qfw hr) (pv 1) (pv 4) (λ_ _=>rfl)))))))
   (qz (zd (pv 3)))))),?_⟩
  refine ⟨qe3,λq hq => ?_⟩
  obtain ⟨s0,h0⟩:=alc (o:=.lst []) hq
  generalize upd H q _=H0 at s0 h0 |-
  refine ⟨_,rfl,?_⟩
  refine ⟨λm σ' H'=>Same H H'/\∃ (is:List Nat) (o:Option Nat),σ'=[some (.str (nm nms k0)),some (.ref d),some (.ref t),some (.ref q),some (qhv nms o)]/\H' q=some (.lst ((is.map (nm nms)).map V.str))/\Ch (bo bs) is o/\is.Nodup/\(∀ j ∈ is,j < nms.length/\j ∉ os)/\(∀ j,o=some j->j < nms.length)/\(is ++ o.toList)[0]?=some k0/\m + is.length=7,⟨7,s0,[],some k0,rfl,h0,(λi k e=>by cases e),.nil,(λj hj=>absurd hj At),(λj e=>by cases e; exact hk),rfl,rfl⟩,?_⟩
  rintro m σ' H' ⟨s1,is,o,rfl,h1,ch,nd,lt,lo,st,hm⟩
  cases o with
  | none=>exact ⟨_,rfl,rfl,_,rfl,qdl rfl (qbo ⟨_,rfl,k q H' is none hq s1 h1 ch nd lt st (λj z=>nomatch z)⟩)⟩
  | some j =>
   have hj:=lo j rfl
   dsimp only [qhv]
   refine ⟨_,rfl,rfl,_,rfl,qe7 (λz=>nomatch z) ⟨_,rfl,_,rfl,_,_,rfl,.inl (SqL.of (s1 _ _ ht)),rfl,qgv _,_,rfl,?_⟩⟩
   show if (!inV (.str (nm nms j)) ((os.map (nm nms)).map V.str))=true then _ else _
   rw [qgf]
   cases ec:(os.map (nm nms)).contains (nm nms j) with
   | true=>exact qbo ⟨_,rfl,k q H' is (some j) hq s1 h1 ch nd lt st (λi z=>by cases z; exact (qm7 wr.nd lto hj).mp ec)⟩
   | false =>
    have nj:j ∉ os:=λz=>by rw [(qm7 wr.nd lto hj).mpr z] at ec; cases ec
    have ln:=qux nd λk hk=>(lt k hk).1
    have sm:=wr.sm
    obtain ⟨m,rfl⟩:∃ f,m=f + 1:=⟨m - 1,by lia⟩
    have lti:∀ k ∈ is,k < nms.length:=λk hk=>(lt k hk).1
    refine qct ⟨λσ' H'=>Same H H'/\∃ (is:List Nat) (o:Option Nat),σ'=[some (.str (nm nms k0)),some (.ref d),some (.ref t),some (.ref q),some (qhv nms o)]/\H' q=some (.lst ((is.map (nm nms)).map V.str))/\Ch (bo bs) is o/\is.Nodup/\(∀ j ∈ is,j < nms.length/\j ∉ os)/\(∀ j,o=some j->j < nms.length)/\(is ++ o.toList)[0]?=some k0/\m + is.length=7,λσ2 H2 z=>⟨m,CA m,z⟩,?_⟩
    refine ⟨_,rfl,_,rfl,_,_,rfl,.inl (SqL.of h1),rfl,qgv _,_,rfl,?_⟩
    show if (inV (.str (nm nms j)) ((is.map (nm nms)).map V.str))=true then _ else _
    rw [qgf]
    cases ep:(is.map (nm nms)).contains (nm nms j) with
    | true =>
     have mj:=(qm7 wr.nd lti hj).mp ep
     obtain ⟨i0,g1,g2,g3⟩:=nm_ix wr.nd lti hj nd mj
     have ld:((is.map (nm nms)).map V.str).drop i0=((is.drop i0).map (nm nms)).map V.str:=by rw [C7,C7]
     refine qct ⟨_,rfl,_,rfl,.inl ⟨rfl,_,SqL.of h1⟩,_,rfl,q,_,_,i0,rfl,rfl,h1,g2,g3,_,rfl,_,_,rfl,SqL.of h1,λp5 h5 => ?_⟩
     have li:i0 < is.length:=(Ae.mp g1).1
     rw [qhu _ _ (by rw [Ab,Ab]; lia),ld]
     obtain ⟨s5,e5⟩:=alc (o:=.lst (((is.drop i0).map (nm nms)).map V.str)) h5
     generalize upd H' p5 _=H5 at s5 e5 |-
     refine ⟨qal (show 1 <= 100000 by decide),λx1 n1=>⟨x1,a.cRing,p5,_,_,rfl,zb,SqL.of (zj n1 _ _ e5),T.x_Ring,ze T.n_Ring (by decide),λd1 l1 H6 hd1 hl1 kp o1 od1 ol1=>⟨rfl,?_⟩⟩⟩
     have s6:Same H5 H6:=qbh n1 kp
     have nx1:d1 ≠ x1:=λz=>by rw [z,zb] at hd1; cases hd1
     have nl1:l1 ≠ x1:=λz=>by rw [z,zb] at hl1; cases hl1
     exact ⟨x1,_,some d1,rfl,o1,⟨_,od1⟩,T.r_Ring,kx x1 d1 l1 _ _ (qaj (s1.trans (s5.trans s6)) ((s1.trans s5).free n1)) zb ((zf nx1).trans od1) ((zf nl1).trans ol1) (ch_rg ch nd lti g1)⟩
    | false =>
     have mj:j ∉ is:=λz=>by rw [(qm7 wr.nd lti hj).mpr z] at ep; cases ep
     have lz:((is.map (nm nms)).map V.str).length <= 90000:=by rw [Ab,Ab]; lia
     refine qbo ⟨_,rfl,.inl ⟨rfl,_,SqL.of h1⟩,_,rfl,_,_,_,rfl,rfl,h1,qb6 lz,?_⟩
     have s2:Same H (upd H' q (.lst ((is.map (nm nms)).map V.str ++ [V.str (nm nms j)]))):=qaj s1 hq
     have h2:upd H' q (.lst ((is.map (nm nms)).map V.str ++ [V.str (nm nms j)])) q=some (.lst (((is ++ [j]).map (nm nms)).map V.str)):=by rw [zb,Ar,Ar]; rfl
     generalize upd H' q _=H2 at s2 h2 |-
     refine ⟨_,rfl,_,rfl,d,_,rfl,(dic j hj) ▸ DGet.k (k:=.inr (nm nms j)) (s2 _ _ hd),?_⟩
     refine ⟨s2,is ++ [j],bo bs j,rfl,h2,ch.snoc,?_,λi hi => ?_,λi e=>wr.ok j i e,?_,by rw [Ai,B3]; lia⟩
     .rw [AY]
      exact ⟨nd,Bb.mpr ⟨At,.nil⟩,λa ha b hb e=>mj (by rw [<- Aj.mp hb,<- e]; exact ha)⟩
     .rcases A5.mp hi with z | z
      .exact lt i z
      .rw [Aj.mp z]; exact ⟨hj,nj⟩
     .have e:(is ++ [j])[0]?=some k0:=st
      rw [AQ (by rw [Ai,B3]; lia)]
      exact e
theorem qk2 (T:Txt K mg a):FnOk P w K mg base (CX1 P w) 4 a.fHangingOrder a.gHangingOrder ["rules"] (spHa7 a):=by
 refine okX T.dHangingOrder.fn qb5 (λvs H Q E h => ?_) (λcdv A outer s H vs Q E hr h => ?_)
 .obtain ⟨_,_,_,_,rfl,_⟩:=h
  all_goals rfl
 .obtain ⟨pr,us,nms,bs,rfl,hp,hrl,wr,k,kx⟩:=h
  refine ⟨_,(qp (zh (i:=1) qb5.nd rfl (Aw rfl) qjw)
   (qp (qcn BE.leaving rfl (qb1 (pv 0)) (qak (i:=2) qb5.nd rfl (Aw rfl)) (qz (qmv (qfw hr) (pv 1) (qba (pv 2) rfl) (qba (pv 2) rfl) rfl)))
   (qp (zh (i:=3) qb5.nd rfl (Aw rfl) (zr qt))
   (qp (qcn BE.leaving rfl (qb1 (pv 0)) (qak (i:=2) qb5.nd rfl (Aw rfl)) (qz (qx7 (i:=3) qb5.nd rfl (Aw rfl) (qj5 rfl (by rfl) T.n_list (by rfl) T.n_reversed qef (qj (qdz (qs0 T) (hr.mono (by decide)) rfl T.dUntaken.mgx T.dUntaken.fn.kp T.dUntaken.bd .nil (Takes.at qbl) (qj (qba (pv 2) rfl) (qj (pv 1) (qj (pv 3) qt qm) qm) qci)) qt zu)) qyu)))
   (qz (zd (pv 3))))))),?_⟩
  refine λd hd => ?_
  obtain ⟨s0,h0⟩:=alc (o:=.dK []) hd
  generalize upd H d _=H0 at s0 h0 |-
  have sm:=wr.sm
  refine ⟨_,rfl,_,rfl,⟨_,SqL.of (s0 _ _ hp)⟩,qc7 (K:=K) (a:=pr) (xs:=us) (λi σ H'=>Same H H'/\∃ (v2:Option V) (kvs:List (Key × V)),σ=[some (.ref pr),some (.ref d),v2,none]/\H' d=some (.dK kvs)/\kvs.length <= i/\∀ k < i,qdn kvs (.inr (nm nms k))=some (qhv nms (bo bs k)))
   ⟨s0,none,[],rfl,h0,Az _,λk hk=>absurd hk (DP _)⟩ (λi σ H' _ h=>SqL.of (h.1 _ _ hp)) ?_ ?_⟩
  .rintro i x σ H' hx ⟨s1,v2,kvs,rfl,h1,hl,hv⟩
   have hi:i < nms.length:=by rw [<- hrl.1]; exact (Ae.mp hx).1
   obtain ⟨p,dx,fs,rfl,r1,r2,r3⟩:=(hrl.2 i x hx).same s1
   refine ⟨_,rfl,_,_,_,_,_,rfl,r1,T.c_Rule,ze T.n_Rule (by decide),r3,_,rfl,_,rfl,_,_,_,_,_,rfl,r1,T.c_Rule,ze T.n_Rule (by decide),r2,d,_,rfl,DPut.k (k:=.inr (nm nms i)) h1 (by rw [Bi]; lia),?_⟩
   exact ⟨qaj s1 hd,_,_,rfl,zb,A1 (qfy _ _ _) (De hl),qwv wr.nd hi hv⟩
  .rintro σ H1 ⟨s1,v2,kvs,rfl,h1,hl,hv⟩
   rw [hrl.1] at hv
   refine ⟨qe3,λt ht => ?_⟩
   have s2:=s1.trans (zj (o:=.lst []) ht)
   have h2:=zj (o:=.lst []) ht _ _ h1
   have h3:=zb (H:=H1) (a:=t) (o:=.lst [])
   have nt:=s1.free ht
   have ntd:d ≠ t:=λz=>by rw [<- z,h1] at ht; cases ht
   generalize upd H1 t _=H2 at s2 h2 h3 |-
   refine ⟨_,rfl,_,rfl,⟨_,SqL.of (s2 _ _ hp)⟩,qc7 (K:=K) (a:=pr) (xs:=us) (λi σ H'=>Same H H'/\H' d=some (.dK kvs)/\(∃ os:List Nat,H' t=some (.lst ((os.map (nm nms)).map V.str))/\os.Nodup/\(∀ j ∈ os,j < nms.length)/\Od (bo bs) os/\∀ j,j < i->j ∈ os)/\∃ v2:Option V,σ=[some (.ref pr),some (.ref d),v2,some (.ref t)])
    ⟨s2,h2,⟨[],h3,.nil,(λj hj=>absurd hj At),(λp k e=>by cases e),λj hj=>absurd hj (DP _)⟩,_,rfl⟩ (λi σ H' _ h=>SqL.of (h.1 _ _ hp)) ?_ ?_⟩
   .rintro i x σ H' hx ⟨s1,h1,⟨os,h3,nd,lto,od,al⟩,v2,rfl⟩
    have hi:i < nms.length:=by rw [<- hrl.1]; exact (Ae.mp hx).1
    obtain ⟨p,dx,fs,rfl,r1,r2,r3⟩:=(hrl.2 i x hx).same s1
    refine ⟨_,rfl,_,rfl,_,_,_,_,_,rfl,r1,T.c_Rule,ze T.n_Rule (by decide),r2,_,rfl,_,rfl,_,_,_,nms,bs,os,i,rfl,h1,h3,wr,lto,hi,hv,λq1 H3 is o n1 z1 e1 ch nd1 lt1 st1 ho => ?_,kx.same s1⟩
    refine ⟨_,_,rfl,SqL.of e1,λq2 hq2 => ?_⟩
    have er:((is.map (nm nms)).map V.str).reverse=((is.reverse.map (nm nms)).map V.str):=by rw [List.map_reverse,List.map_reverse]
    rw [er]
    have z2:=z1.trans (zj (o:=.lst ((is.reverse.map (nm nms)).map V.str)) hq2)
    have e2:=zb (H:=H3) (a:=q2) (o:=.lst ((is.reverse.map (nm nms)).map V.str))
    generalize upd H3 q2 _=H4 at z2 e2 |-
    have lo:=qux nd lto
    have li:=qux nd1 λk hk=>(lt1 k hk).1
    refine ⟨_,_,_,_,rfl,rfl,z2 _ _ h3,e2,qal (by rw [Ab,Ab,Ab,Ab,Dg]; lia),?_⟩
    refine ⟨qaj (s1.trans z2) nt,(zf ntd).trans (z2 _ _ h1),⟨os ++ is.reverse,?_,?_,λj hj => ?_,qy4 od ch ho,λj hj => ?_⟩,_,rfl⟩
    .rw [zb,Ar,Ar]
    .rw [AY]
     exact ⟨nd,List.pairwise_reverse.mpr (nd1.imp AX),λa ha b hb e=>(lt1 b (DC.mp hb)).2 (e ▸ ha)⟩
    .rcases A5.mp hj with z | z
     .exact lto j z
     .exact (lt1 j (DC.mp z)).1
    .by_cases c:j=i
     .rw [c]; exact ch_hd st1 ho
     .exact A5.mpr (.inl (al j (by lia)))
   .rintro σ H' ⟨s1,h1,⟨os,h3,nd,lto,od,al⟩,v2,rfl⟩
    rw [hrl.1] at al
    exact ⟨_,rfl,k t H' os nt s1 h3 nd lto od al⟩
theorem qjf (T:Txt K mg a):FnOk P w K mg base CX0 1 a.fIsSmallLetter a.gIsSmallLetter ["sign"] spLow:=by
 refine T.dIsSmallLetter.fn.ok qjd (λvs H Q E h => ?_) (λcdv A outer s H vs Q E hr h => ?_)
 .obtain ⟨_,rfl,_⟩:=h
  all_goals rfl
 .obtain ⟨c,rfl,k⟩:=h
  refine ⟨_,(qz (zd (qnk qgq qgq zq (pv 0) zq))),?_⟩
  refine ⟨_,rfl,_,_,rfl,rfl,_,rfl,?_⟩
  have k':Q (.bl (low c)) H:=k
  unfold low at k'
  show if (!decide ((⟨#[c]⟩:Str).cps.toList < (Aa "a").cps.toList))=true then _ else _
  rw [le_a]
  by_cases h1:97 <= c
  .rw [decide_eq_true h1,CU] at k'
   rw [decide_eq_true h1]
   refine qct ⟨_,_,rfl,rfl,?_⟩
   show Q (.bl (!decide ((Aa "z").cps.toList < (⟨#[c]⟩:Str).cps.toList))) H
   rw [le_z]; exact k'
  .rw [decide_eq_false h1,Cm] at k'
   rw [decide_eq_false h1]
   exact qbo k'
theorem qvq (T:Txt K mg a):FnOk P w K mg base CX0 2 a.fIsName a.gIsName ["thing"] spNmG:=by
 refine T.dIsName.fn.ok quu (λvs H Q E h => ?_) (λcdv A outer s H vs Q E hr h => ?_)
 .obtain ⟨_,rfl,_⟩:=h
  all_goals rfl
 .obtain ⟨x,rfl,hx,k⟩:=h
  refine ⟨_,(qp (zm (qid (zp (zo qf0 (by rfl) T.n_isinstance qah (qj (pv 0) (qj (qds (v:=.ty "str") rfl T.n_str qeo rfl) qt qm) qm)))) (qz (zd qg2)) qag)
   (qp (zm (qid (qjs qll qll qu (zo qaq (by rfl) T.n_len qap (qj (pv 0) qt qm)) (qbj (v:=.int 8) rfl T.g_LONGEST_NAME.choose_spec ⟨_,rfl⟩))) (qz (zd qg2)) qag)
   (qz (zd (zo (qlz rfl) (by rfl) T.n_all qoc (qj (qgp (N:=["sign"]) (js:=[none]) (XN:=["thing"]) (xs:=qab qjk) rfl rfl rfl (by decide +kernel) (qqu (pv 0)) (λ_ _ _ _ _ _=>(qak (i:=0) (show BW (["sign"]:List Str) from by decide +kernel) rfl (Aw rfl) (Cq rfl))) (λ_ _ _ _ _ _=>qdf) (λ_ _ _ _ _ _=>(zn (qjf T) (hr.mono (by decide)) rfl T.dIsSmallLetter.mgx T.dIsSmallLetter.fn.kp T.dIsSmallLetter.bd .nil qau (qj (pv 0) qt qm)))) qt qj0)))))),?_⟩
  have hz:x.length <= Ax:=qal (A1 hx (by decide))
  refine ⟨_,rfl,_,_,_,_,rfl,.str _,qf2,_,rfl,qbo ?_⟩
  refine ⟨_,rfl,_,_,rfl,⟨hz,rfl⟩,_,_,rfl,rfl,_,rfl,?_⟩
  have k0:=k H (Same.refl H)
  unfold nmB at k0
  refine qb4 (λc => ?_) (λc => ?_)
  .have c':1 <= (x.cps.size:Int):=of_decide_eq_true c
   refine ⟨_,_,rfl,rfl,_,rfl,?_⟩
   refine qb4 (λd => ?_) (λd => ?_)
   .have d1:decide ((x.cps.size:Int) <= 8)=false:=by
     cases q:decide ((x.cps.size:Int) <= 8) with
     | false=>rfl
     | true =>
      have d2:(!decide ((x.cps.size:Int) <= 8))=true:=d
      rw [q] at d2; cases d2
    have d':=of_decide_eq_false d1
    rw [decide_eq_false (show ¬ x.cps.size <= 8 by lia),CV,Cm] at k0
    exact k0
   .have d1:decide ((x.cps.size:Int) <= 8)=true:=by
     cases q:decide ((x.cps.size:Int) <= 8) with
     | true=>rfl
     | false =>
      have d2:¬ (!decide ((x.cps.size:Int) <= 8))=true:=d
      rw [q] at d2; exact absurd rfl d2
    have d':=of_decide_eq_true d1
    refine ⟨_,rfl,_,rfl,?_⟩
    refine qc1 (λv=>match v with | .str y=>.bl (low (y.cps.getD 0 0)) | _=>.non) (λσ'=>∃ v,σ'=[v]) qjz ?_ ?_ (λv σ' H' R hv sm s1 q => ?_) qc2 λp hp => ?_
    .rw [Ab,AN]; exact hz
    .exact ⟨none,rfl⟩
    .obtain ⟨c,hc,rfl⟩:=AS.mp hv
     obtain ⟨v0,rfl⟩:=s1
     exact ⟨_,rfl,c,rfl,q _ ⟨_,rfl⟩⟩
    refine ⟨p,x.cps.toList.map low,rfl,SqL.of (by rw [zb,Bf,Bf]; rfl),?_⟩
    have k1:=k _ (zj (o:=.lst ((x.cps.toList.map λc=>V.str ⟨#[c]⟩).map λv=>match v with | .str y=>.bl (low (y.cps.getD 0 0)) | _=>.non)) hp)
    unfold nmB at k1
    rw [decide_eq_true (show 1 <= x.cps.size by lia),decide_eq_true (show x.cps.size <= 8 by lia),CU,CU] at k1
    show Q (.bl ((x.cps.toList.map low).all λb=>b)) _
    rw [CJ]
    exact k1
  .have c':¬ 1 <= (x.cps.size:Int):=λz=>c (decide_eq_true z)
   rw [decide_eq_false (show ¬ 1 <= x.cps.size by lia),Cm,Cm] at k0
   exact ⟨_,rfl,qct k0⟩
theorem qp9 (T:Txt K mg a):FnOk P w K mg base (CX1 P w) 5 a.fBookInit a.gBookInit ["self", "rules"] (spBIG a):=by
 refine okX T.dBookInit.fn qkf (λvs H Q E h => ?_) (λcdv A outer s H vs Q E hr h => ?_)
 .obtain ⟨_,_,_,_,_,rfl,_⟩:=h
  all_goals rfl
 .obtain ⟨x,dx,pr,rs,As,rfl,hx,hp,ln,nn,l6,bok,ru,k,kx⟩:=h
  refine ⟨_,(qp (qda (pv 0) (qdz (qk2 T) (hr.mono (by decide)) rfl T.dHangingOrder.mgx T.dHangingOrder.fn.kp T.dHangingOrder.bd .nil (Takes.at qbl) (qj (pv 1) qt qm)) rfl)
   (qp (qda (pv 0) qjw rfl)
   (qz (qcn BE.leaving rfl (qb1 (pv 1)) (qak (i:=2) qkf.nd rfl (Aw rfl)) (qz (qmv (qfw hr) (qba (pv 0) rfl) (qba (pv 2) rfl) (pv 2) rfl)))))),?_⟩
  have wr:=wr_of nn l6
  have sm:=l6
  have hrl:=rus_of ln bok ru
  refine ⟨_,rfl,_,_,_,_,rfl,hp,hrl,wr,λpo H1 os no s1 e1 nd lto od al => ?_,kx⟩
  have x1:=s1 _ _ hx
  refine ⟨_,rfl,_,_,_,_,rfl,x1,T.c_Book,ze T.n_Book (by decide),by decide,?_⟩
  rw [put1]
  have npo:po ≠ x:=λz=>by rw [z,hx] at no; cases no
  have b2:SameBut x H (upd H1 x (.ins a.cBook dx [(Aa "order",.ref po)])):=(SameBut.of s1).set
  have x2:=zb (H:=H1) (a:=x) (o:=.ins a.cBook dx [(Aa "order",.ref po)])
  have o2:=(zf (o:=.ins a.cBook dx [(Aa "order",.ref po)]) npo).trans e1
  generalize upd H1 x _=H2 at b2 x2 o2 |-
  refine λd hd => ?_
  obtain ⟨s3,d3⟩:=alc (o:=.dK []) hd
  have x3:=s3 _ _ x2
  have ndx:d ≠ x:=λz=>by rw [z,x2] at hd; cases hd
  have ndo:po ≠ d:=λz=>by rw [<- z,o2] at hd; cases hd
  have ndH:=b2.free ndx hd
  refine ⟨_,rfl,_,_,_,_,rfl,x3,T.c_Book,ze T.n_Book (by decide),(show 1 < 1000 by decide),?_⟩
  rw [put2 _ _ (by decide +kernel)]
  have b4:SameBut x H (upd (upd H2 d (.dK [])) x (.ins a.cBook dx (bfs po d))):=(b2.trans (SameBut.of s3)).set
  have x4:=zb (H:=upd H2 d (.dK [])) (a:=x) (o:=.ins a.cBook dx (bfs po d))
  have o4:=(zf (o:=.ins a.cBook dx (bfs po d)) npo).trans (s3 _ _ o2)
  have d4:=(zf (o:=.ins a.cBook dx (bfs po d)) ndx).trans d3
  generalize upd (upd H2 d (.dK [])) x _=H4 at b4 x4 o4 d4 |-
  have npx:pr ≠ x:=λz=>by rw [z,hx] at hp; cases hp
  have rule:∀ {H':Hp} {i:Nat} {y:V},SameBut x H H'->(As.map λA=>V.ref A.p)[i]?=some y->∃ r A,rs[i]?=some r/\As[i]?=some A/\y=.ref A.p/\∃ v,H' A.p=some (.ins a.cRule A.dx (rlR A r v)):=λ{H' i y} b e=>by
   rw [Ak] at e
   cases eA:As[i]? with
   | none=>rw [eA] at e; cases e
   | some A =>
    rw [eA] at e
    cases e
    have lj:=(Ae.mp eA).1
    rw [ln] at lj
    obtain ⟨v,us,h⟩:=ru _ _ A (Ag lj) eA
    refine ⟨_,A,Ag lj,rfl,rfl,v,b _ _ (λz => ?_) h.hx⟩
    have h1:=h.hx
    rw [z,hx] at h1
    injection h1 with h1
    injection h1 with _ _ h5
    cases h5
  refine ⟨_,rfl,_,rfl,⟨_,SqL.of (b4 _ _ npx hp)⟩,qc7 (K:=K) (a:=pr) (xs:=As.map λA=>.ref A.p) (λi σ H'=>SameBut x H H'/\H' x=some (.ins a.cBook dx (bfs po d))/\H' po=some (.lst ((os.map (nm (rs.map RR.name))).map V.str))/\H' d=some (.dK (dcR (rs.take i) (As.take i)))/\∃ v2:Option V,σ=[some (.ref x),some (.ref pr),v2])
   ⟨b4,x4,o4,(by rw [Da,Da]; exact d4),none,rfl⟩ (λi σ H' _ h=>SqL.of (h.1 _ _ npx hp)) ?_ ?_⟩
  .rintro i y σ H' hy ⟨b5,x5,o5,d5,v2,rfl⟩
   obtain ⟨r,A,hr',hA,rfl,v,r1⟩:=rule b5 hy
   have hi:i < rs.length:=(Ae.mp hr').1
   have lt:(As.take i).length=(rs.take i).length:=by rw [A2,A2,ln]
   have ep:qfe (dcR (rs.take i) (As.take i)) (.inr r.name) (.ref A.p)=dcR (rs.take (i + 1)) (As.take (i + 1)):=by
    rw [qbg hr',qbg hA,qkl r A lt]
    refine qju _ ?_
    rw [qgx _ lt,qb9.mpr]
    .rfl
    .intro z
     rw [BM] at z
     have nd2:=nn
     rw [<- Bv i (rs.map RR.name),AY] at nd2
     refine nd2.2.2 _ z r.name ?_ rfl
     rw [<- C7,Cj hi,A4]
     rw [Ag hi] at hr'
     cases hr'
     exact Aq
   refine ⟨_,rfl,_,rfl,_,_,_,_,_,rfl,x5,T.c_Book,ze T.n_Book (by decide),rfl,_,rfl,_,_,_,_,_,rfl,r1,T.c_Rule,ze T.n_Rule (by decide),rfl,d,_,rfl,DPut.k (k:=.inr r.name) d5 (by rw [Bi,qjm lt,A2]; lia),?_⟩
   rw [ep]
   exact ⟨λb o n e=>by rw [zf (qae e ndH)]; exact b5 b o n e,(zf ndx.symm).trans x5,(zf ndo).trans o5,zb,_,rfl⟩
  .rintro σ H' ⟨b5,x5,o5,d5,v2,rfl⟩
   rw [Ab,ln,Bs,BN (BS ln)] at d5
   rw [Ab] at lto
   exact k H' os b5 ⟨dx,po,d,x5,o5,d5⟩ ⟨nd,lto,od,by rw [Ab] at al; exact al⟩
theorem qs1 (T:Txt K mg a):FnOk P w K mg base CX0 1 a.fLinesOf a.gLinesOf ["text"] spLnG:=by
 refine T.dLinesOf.fn.ok qsk (λvs H Q E h => ?_) (λcdv A outer s H vs Q E hr h => ?_)
 .obtain ⟨_,rfl,_⟩:=h
  all_goals rfl
 .obtain ⟨ls,rfl,hl,k⟩:=h
  refine ⟨_,(qz (zd (qdx (qwt (pv 0)) (qcb Cf Dz D0 qj2 (pv 0) (qj zq qt zc)) (zr qt)))),?_⟩
  have ll:(qew ls).length <= 20100:=qu9 hl
  refine ⟨_,rfl,_,rfl,qal (by lia),?_⟩
  by_cases c:ls=[]
  .subst c
   refine iteF' (by decide +kernel) ⟨qe3,λq hq => ?_⟩
   exact k q _ hq (zj hq) zb
  .have es:BY (qew ls) (wS "\n")=ls:=by rw [qy8]; exact qj4 10 c λp hp=>(hl.c p hp).2
   have eb:=qf8 (qew ls) 10
   rw [<- qy8] at eb
   have hn:=hl.n
   refine iteT' (decide_eq_true (qw9 hl c)) ⟨_,rfl,rfl,_,_,rfl,rfl,rfl,qal (by lia),qal (by rw [es]; lia),qal (A1 eb (by lia)),λp hp => ?_⟩
   rw [es]
   exact k p _ hp (zj hp) zb
theorem qs2 (T:Txt K mg a):FnOk P w K mg base CX0 4 a.fValueOf a.gValueOf ["word", "asked"] qza:=by
 refine T.dValueOf.fn.ok qsl (λvs H Q E h => ?_) (λcdv A outer s H vs Q E hr h => ?_)
 .obtain ⟨_,_,rfl,_⟩:=h
  all_goals rfl
 .obtain ⟨w1,q,rfl,ok,hw,k⟩:=h
  refine ⟨_,(qp (zm (zp (zo qf0 (by rfl) T.n_isinstance qah (qj (pv 1) (qj (qds (v:=.ty "int") rfl T.n_int qgd rfl) qt qm) qm))) (qz (zd (zn (qvp T) (hr.mono (by decide)) rfl T.dNumber.mgx T.dNumber.fn.kp T.dNumber.bd .nil qau (qj (pv 0) (qj (pv 1) qt qm) qm)))) qag)
   (qp (zm (zg qay (pv 1) zq (qad _)) (qz (zd (qdx (zp (zn (qvq T) (hr.mono (by decide)) rfl T.dIsName.mgx T.dIsName.fn.kp T.dIsName.bd .nil qau (qj (pv 0) qt qm))) (pv 0) qbk))) qag)
   (qp (zm (zg qay (pv 1) zq (qad _)) (qz (zd (qdx (zg qed (pv 0) (qbj (v:=.ref a.tUNITS) rfl T.g_UNITS rfl) (by with_unfolding_all rfl)) (pv 0) qbk))) qag)
   (qz (zd (qdx (zg qay (pv 0) (pv 1) (qad _)) (pv 0) qbk)))))),?_⟩
  cases q with
  | num m =>
   obtain ⟨m1,m2⟩:=ok
   unfold qc9 at k
   dsimp only at k
   refine ⟨_,rfl,_,_,_,_,rfl,.int _,qfz,_,rfl,qct ⟨_,rfl,_,rfl,_,_,rfl,A1 hw (by decide),m1,m2,λe H1 s1 => ?_,λe H1 s1 => ?_⟩⟩
   .have:=k H1 s1
    rw [if_pos e] at this
    exact this
   .have:=k H1 s1
    rw [if_neg (by rw [e]; decide)] at this
    exact this
  | name =>
   unfold qc9 at k
   dsimp only at k
   refine ⟨_,rfl,_,_,_,_,rfl,.str _,qf3,_,rfl,qbo ⟨_,rfl,rfl,_,rfl,qe2 rfl ?_⟩⟩
   refine ⟨_,rfl,_,rfl,hw,λH1 s1=>⟨_,rfl,?_⟩⟩
   have:=k H1 s1
   refine qb4 (λc => ?_) (λc => ?_)
   .rw [if_pos c] at this
    exact ⟨_,rfl,this⟩
   .rw [if_neg c] at this
    exact this
  | unit =>
   unfold qc9 at k
   dsimp only at k
   refine ⟨_,rfl,_,_,_,_,rfl,.str _,qf3,_,rfl,qbo ⟨_,rfl,rfl,_,rfl,qax (by decide +kernel) ⟨_,rfl,rfl,_,rfl,qe2 rfl ⟨_,rfl,_,_,rfl,.inr (T.s_UNITS H),rfl,rfl,_,rfl,?_⟩⟩⟩⟩
   show if inV (.str w1) (qb7.map V.str)=true then _ else _
   rw [qgf]
   have:=k H (Same.refl H)
   refine qb4 (λc => ?_) (λc => ?_)
   .rw [if_pos c] at this
    exact ⟨_,rfl,this⟩
   .rw [if_neg c] at this
    exact this
  | lit c =>
   obtain ⟨h1,h2⟩:=ok
   unfold qc9 at k
   dsimp only at k
   refine ⟨_,rfl,_,_,_,_,rfl,.str _,qf3,_,rfl,qbo ⟨_,rfl,rfl,_,rfl,qax (λz=>h1 (V.str.inj z)) ⟨_,rfl,rfl,_,rfl,qax (λz=>h2 (V.str.inj z)) ?_⟩⟩⟩
   have:=k H (Same.refl H)
   refine ⟨_,rfl,_,rfl,rfl,_,rfl,qb4 (λc1 => ?_) (λc1 => ?_)⟩
   .rw [if_pos (V.str.inj (of_decide_eq_true c1))] at this
    exact ⟨_,rfl,this⟩
   .rw [if_neg (λz=>c1 (decide_eq_true (by rw [z]; rfl)))] at this
    exact this
theorem qxo (T:Txt K mg a):FnOk P w K mg base CX0 5 a.fRowOf a.gRowOf ["line"] qzb:=by
 refine T.dRowOf.fn.ok qjl (λvs H Q E h => ?_) (λcdv A outer s H vs Q E hr h => ?_)
 .obtain ⟨_,rfl,_⟩:=h
  all_goals rfl
 .obtain ⟨l,rfl,hl,k,kn⟩:=h
  refine ⟨_,(qp (zh (i:=1) qjl.nd rfl (Aw rfl) (qcb Cf Dz D0 qj2 (pv 0) (qj zq qt zc)))
   (qp (qcn B4 rfl (qx9 (qbj (v:=.ref a.tFORMS) rfl T.g_FORMS rfl)) (qak (i:=2) qjl.nd rfl (Aw rfl)) (qz (zm (zg qay (zo qaq (by rfl) T.n_len qap (qj (pv 1) qt qm)) (zo qaq (by rfl) T.n_len qap (qj (pv 2) qt qm)) (qad _)) (qp (qcu (i:=3) qjl.nd rfl rfl (N:=["word", "asked"]) (js:=[none,none]) (XN:=["line", "words", "form", "row"]) (xs:=qab qm2) rfl rfl rfl (by decide +kernel) (qyx rfl T.n_zip (qj (pv 1) (qj (pv 2) qt qm) qm)) (λ_ _ _ _ _ _=>(qwk (K:=K) rfl (n:=2) rfl (qbn (qak (i:=0) (show BW (["word", "asked"]:List Str) from by decide +kernel) rfl (Aw rfl) (Cq rfl)) (qbn (qak (i:=1) (show BW (["word", "asked"]:List Str) from by decide +kernel) rfl (Aw rfl) (Cq rfl)) qgo)))) (λ_ _ _ _ _ _=>qdf) (λ_ _ _ _ _ _=>(zn (qs2 T) (hr.mono (by decide)) rfl T.dValueOf.mgx T.dValueOf.fn.kp T.dValueOf.bd .nil qau (qj (pv 0) (qj (pv 1) qt qm) qm))))
   (qz (zm (zg qhj qbk (pv 3) (by with_unfolding_all rfl)) (qz (zd (pv 3))) qag))) qag)))
   (qz (zd qbk)))),?_⟩
  obtain ⟨sl1,sl2⟩:=ql5 l 32
  rw [<- qoh] at sl1 sl2
  have eb:=qf8 l 32
  rw [<- qoh] at eb
  refine ⟨_,rfl,rfl,_,_,rfl,rfl,rfl,qal (A1 hl (by decide)),qal (A1 sl1 (by lia)),qal (A1 eb (by lia)),λp hp => ?_⟩
  generalize BY l (wS " ")=ws at sl1 sl2 k kn hp |-
  obtain ⟨s1,e1⟩:=alc (o:=.lst (ws.map V.str)) hp
  generalize upd H p _=H1 at s1 e1 |-
  have ft:∀ (i:Nat) (v:V),[.ref a.tFORMS_0,.ref a.tFORMS_1,.ref a.tFORMS_2,.ref a.tFORMS_3,.ref a.tFORMS_4,.ref a.tFORMS_5,.ref a.tFORMS_6][i]?=some v->∃ (f:List Ask) (t:Addr),qkk[i]?=some f/\v=.ref t/\∀ H,SqT K H t (f.map askV):=λi v e=>by
   have hi:i < 7:=(Ae.mp e).1
   rcases (by lia:i=0 \/ i=1 \/ i=2 \/ i=3 \/ i=4 \/ i=5 \/ i=6) with rfl | rfl | rfl | rfl | rfl | rfl | rfl
   .cases e; exact ⟨_,_,rfl,rfl,λH=>T.s_FORMS_0 H⟩
   .cases e; exact ⟨_,_,rfl,rfl,λH=>T.s_FORMS_1 H⟩
   .cases e; exact ⟨_,_,rfl,rfl,λH=>T.s_FORMS_2 H⟩
   .cases e; exact ⟨_,_,rfl,rfl,λH=>T.s_FORMS_3 H⟩
   .cases e; exact ⟨_,_,rfl,rfl,λH=>T.s_FORMS_4 H⟩
   .cases e; exact ⟨_,_,rfl,rfl,λH=>T.s_FORMS_5 H⟩
   .cases e; exact ⟨_,_,rfl,rfl,λH=>T.s_FORMS_6 H⟩
  refine ⟨_,rfl,⟨_,T.s_FORMS _⟩,qvu (K:=K) (a:=a.tFORMS) (xs:=[.ref a.tFORMS_0,.ref a.tFORMS_1,.ref a.tFORMS_2,.ref a.tFORMS_3,.ref a.tFORMS_4,.ref a.tFORMS_5,.ref a.tFORMS_6]) (λi σ H'=>Same H1 H'/\(∀ j f,j < i->qkk[j]?=some f->qca ws f=none)/\∃ v2 v3:Option V,σ=[some (.str l),some (.ref p),v2,v3]) ⟨Same.refl H1,λj f hj=>absurd hj (DP _),none,none,rfl⟩ (λi σ H' _ h=>T.s_FORMS _) ?_ ?_⟩
  .rintro i v σ H' hv ⟨sH,al,v2,v3,rfl⟩
   obtain ⟨f,t,hf,rfl,ht⟩:=ft i v hv
   have e2:=sH _ _ e1
   have next:qca ws f=none->∀ j g,j < i + 1->qkk[j]?=some g->qca ws g=none:=λe j g hj hg=>by
    by_cases c:j=i
    .rw [c,hf] at hg; cases hg; exact e
    .exact al j g (by lia) hg
   refine ⟨_,rfl,_,_,rfl,.inl ⟨_,SqL.of e2,rfl⟩,_,rfl,_,_,rfl,.inr ⟨_,ht _,rfl⟩,rfl,_,rfl,?_⟩
   rw [Ab,Ab]
   by_cases cl:ws.length=f.length
   .refine qe2 (by rw [cl]) ?_
    refine ⟨_,rfl,_,rfl,_,_,_,_,rfl,e2,ht _,qun (zsG ws f) (λσ'=>∃ v v',σ'=[v,v']) (SqL.of e2) (ht _) (by rw [Ab,Ab,cl]) (by rw [qw4 cl,Ab]) (qal (by rw [Ab]; lia)) ⟨none,none,rfl⟩ (λj y av z t' σ' J RR h1 h2 h3 sm ht' s4 qq => ?_) (qys λxs σ' H' RR RR' hh z => ?_) λq H2 nq s2 eq2 => ?_⟩
    .obtain ⟨v,v',rfl⟩:=s4
     rw [Ak] at h1 h2
     cases ew:ws[j]? with
     | none=>rw [ew] at h1; cases h1
     | some w1 =>
      cases ef:f[j]? with
      | none=>rw [ef] at h2; cases h2
      | some qa =>
       rw [ew] at h1
       rw [ef] at h2
       cases h1
       cases h2
       have hz:z=(qc9 w1 qa).getD .non:=by
        unfold zsG at h3
        rw [Ak,show (ws.zip f)[j]?=some (w1,qa) from List.getElem?_zip_eq_some.mpr ⟨ew,ef⟩] at h3
        exact (AG h3).symm
       subst hz
       exact ⟨_,_,rfl,SqT.of ht',rfl,_,_,rfl,_,_,rfl,rfl,_,rfl,_,rfl,w1,qa,rfl,qu1 f (Ap hf) qa (Ap ef),A1 (sl2 _ (Ap ew)) (by lia),λJ2 s2=>qq _ _ ⟨_,_,rfl⟩ s2⟩
    .obtain ⟨x1,y1,e1,x2,y2,e2,z⟩:=z
     exact ⟨x1,y1,e1,x2,y2,e2,⟨z.1,hh _ _ z.2⟩⟩
    .refine ⟨_,rfl,_,_,rfl,.inl (SqL.of eq2),rfl,qu0 ws f,_,rfl,?_⟩
     have ev:=qq6 cl
     show if (!inV .non (zsG ws f))=true then _ else _
     cases ec:inV .non (zsG ws f) with
     | true =>
      rw [ec] at ev
      exact qbo ⟨sH.trans s2,next ev,_,_,rfl⟩
     | false =>
      rw [ec] at ev
      have er:qhw ws=some (zsG ws f):=by
       unfold qhw
       exact qq7 hf ev al
      exact qct ⟨_,rfl,k q H2 _ ((s1.trans sH).free nq) ((s1.trans sH).trans s2) er eq2⟩
   .exact qax (λz=>cl (DF (V.int.inj z))) ⟨sH,next (qaw cl),_,_,rfl⟩
  .rintro σ H' ⟨sH,al,v2,v3,rfl⟩
   have er:qhw ws=none:=by
    unfold qhw
    rw [List.findSome?_eq_none_iff]
    intro f hf
    obtain ⟨j,hj⟩:=AV hf
    exact al j f (by have:=(Ae.mp hj).1; exact this) hj
   exact kn er H' (s1.trans sH)
theorem qqa (T:Txt K mg a):FnOk P w K mg base CX0 1 a.fRuleInit a.gRuleInit ["self", "name", "who", "owes", "opens", "base", "many", "unit", "still"] (spRlG a):=by
 refine T.dRuleInit.fn.ok qpq (λvs H Q E h => ?_) (λcdv A outer s H vs Q E hr h => ?_)
 .obtain ⟨_,_,_,_,_,_,_,_,_,_,rfl,_⟩:=h
  all_goals rfl
 .obtain ⟨x,dx,vn,vw,vo,vp,vb,vm,vu,vs',rfl,hx,k⟩:=h
  refine ⟨_,(qp (qda (pv 0) (pv 1) rfl)
   (qp (qda (pv 0) (pv 2) rfl)
   (qp (qda (pv 0) (pv 3) rfl)
   (qp (qda (pv 0) (pv 4) rfl)
   (qp (qda (pv 0) (pv 5) rfl)
   (qp (qda (pv 0) (pv 6) rfl)
   (qp (qda (pv 0) (pv 7) rfl)
   (qp (qda (pv 0) (pv 8) rfl)
   (qp (qda (pv 0) (zr qt) rfl)
   (qp (qda (pv 0) (zr qt) rfl)
   (qp (qda (pv 0) (zr qt) rfl)
   (qz (qda (pv 0) (zr qt) rfl))))))))))))),?_⟩
  have b0:SameBut x H H:=λ_ _ _ e=>e
  have x0:=hx
  refine ⟨_,rfl,_,rfl,_,_,_,_,rfl,x0,T.c_Rule,ze T.n_Rule (by decide),(show 0 < 1000 by decide),?_⟩
  rw [show qcs (Aa "name") vn []=(rq1 vn) by with_unfolding_all rfl]
  have b1:SameBut x H (upd H x (.ins a.cRule dx (rq1 vn))):=b0.set
  have x1:=zb (H:=H) (a:=x) (o:=.ins a.cRule dx (rq1 vn))
  generalize upd H x _=H1 at b1 x1 |-
  refine ⟨_,rfl,_,rfl,_,_,_,_,rfl,x1,T.c_Rule,ze T.n_Rule (by decide),(show 1 < 1000 by decide),?_⟩
  rw [show qcs (Aa "who") vw (rq1 vn)=(rq2 vn vw) by with_unfolding_all rfl]
  have b2:SameBut x H (upd H1 x (.ins a.cRule dx (rq2 vn vw))):=b1.set
  have x2:=zb (H:=H1) (a:=x) (o:=.ins a.cRule dx (rq2 vn vw))
  generalize upd H1 x _=H2 at b2 x2 |-
  refine ⟨_,rfl,_,rfl,_,_,_,_,rfl,x2,T.c_Rule,ze T.n_Rule (by decide),(show 2 < 1000 by decide),?_⟩
  rw [show qcs (Aa "owes") vo (rq2 vn vw)=(rq3 vn vw vo) by with_unfolding_all rfl]
  have b3:SameBut x H (upd H2 x (.ins a.cRule dx (rq3 vn vw vo))):=b2.set
  have x3:=zb (H:=H2) (a:=x) (o:=.ins a.cRule dx (rq3 vn vw vo))
  generalize upd H2 x _=H3 at b3 x3 |-
  refine ⟨_,rfl,_,rfl,_,_,_,_,rfl,x3,T.c_Rule,ze T.n_Rule (by decide),(show 3 < 1000 by decide),?_⟩
  rw [show qcs (Aa "opens") vp (rq3 vn vw vo)=(rq4 vn vw vo vp) by with_unfolding_all rfl]
  have b4:SameBut x H (upd H3 x (.ins a.cRule dx (rq4 vn vw vo vp))):=b3.set
  have x4:=zb (H:=H3) (a:=x) (o:=.ins a.cRule dx (rq4 vn vw vo vp))
  generalize upd H3 x _=H4 at b4 x4 |-
  refine ⟨_,rfl,_,rfl,_,_,_,_,rfl,x4,T.c_Rule,ze T.n_Rule (by decide),(show 4 < 1000 by decide),?_⟩
  rw [show qcs (Aa "base") vb (rq4 vn vw vo vp)=(rq5 vn vw vo vp vb) by with_unfolding_all rfl]
  have b5:SameBut x H (upd H4 x (.ins a.cRule dx (rq5 vn vw vo vp vb))):=b4.set
  have x5:=zb (H:=H4) (a:=x) (o:=.ins a.cRule dx (rq5 vn vw vo vp vb))
  generalize upd H4 x _=H5 at b5 x5 |-
  refine ⟨_,rfl,_,rfl,_,_,_,_,rfl,x5,T.c_Rule,ze T.n_Rule (by decide),(show 5 < 1000 by decide),?_⟩
  rw [show qcs (Aa "many") vm (rq5 vn vw vo vp vb)=(rq6 vn vw vo vp vb vm) by with_unfolding_all rfl]
  have b6:SameBut x H (upd H5 x (.ins a.cRule dx (rq6 vn vw vo vp vb vm))):=b5.set
  have x6:=zb (H:=H5) (a:=x) (o:=.ins a.cRule dx (rq6 vn vw vo vp vb vm))
  generalize upd H5 x _=H6 at b6 x6 |-
  refine ⟨_,rfl,_,rfl,_,_,_,_,rfl,x6,T.c_Rule,ze T.n_Rule (by decide),(show 6 < 1000 by decide),?_⟩
  rw [show qcs (Aa "unit") vu (rq6 vn vw vo vp vb vm)=(rq7 vn vw vo vp vb vm vu) by with_unfolding_all rfl]
  have b7:SameBut x H (upd H6 x (.ins a.cRule dx (rq7 vn vw vo vp vb vm vu))):=b6.set
  have x7:=zb (H:=H6) (a:=x) (o:=.ins a.cRule dx (rq7 vn vw vo vp vb vm vu))
  generalize upd H6 x _=H7 at b7 x7 |-
  refine ⟨_,rfl,_,rfl,_,_,_,_,rfl,x7,T.c_Rule,ze T.n_Rule (by decide),(show 7 < 1000 by decide),?_⟩
  rw [show qcs (Aa "still") vs' (rq7 vn vw vo vp vb vm vu)=(rq8 vn vw vo vp vb vm vu vs') by with_unfolding_all rfl]
  have b8:SameBut x H (upd H7 x (.ins a.cRule dx (rq8 vn vw vo vp vb vm vu vs'))):=b7.set
  have x8:=zb (H:=H7) (a:=x) (o:=.ins a.cRule dx (rq8 vn vw vo vp vb vm vu vs'))
  generalize upd H7 x _=H8 at b8 x8 |-
  refine ⟨qe3,λpe npe => ?_⟩
  obtain ⟨s8,epe⟩:=alc (o:=.lst []) npe
  have x8':=s8 _ _ x8
  have nepe:pe ≠ x:=λz=>by rw [z,x8] at npe; cases npe
  have fpe:H pe=none:=b8.free nepe npe
  have b8':=b8.trans (SameBut.of s8)
  generalize upd H8 pe _=J8 at s8 epe x8' b8'  |-
  refine ⟨_,rfl,_,_,_,_,rfl,x8',T.c_Rule,ze T.n_Rule (by decide),(show 8 < 1000 by decide),?_⟩
  rw [show qcs (Aa "ends") (.ref pe) (rq8 vn vw vo vp vb vm vu vs')=(rq9 vn vw vo vp vb vm vu vs' (.ref pe)) by with_unfolding_all rfl]
  have b9:SameBut x H (upd J8 x (.ins a.cRule dx (rq9 vn vw vo vp vb vm vu vs' (.ref pe)))):=b8'.set
  have x9:=zb (H:=J8) (a:=x) (o:=.ins a.cRule dx (rq9 vn vw vo vp vb vm vu vs' (.ref pe)))
  have epe:=(zf (o:=.ins a.cRule dx (rq9 vn vw vo vp vb vm vu vs' (.ref pe))) nepe).trans epe
  generalize upd J8 x _=H9 at b9 x9 epe  |-
  refine ⟨qe3,λpa npa => ?_⟩
  obtain ⟨s9,epa⟩:=alc (o:=.lst []) npa
  have x9':=s9 _ _ x9
  have nepa:pa ≠ x:=λz=>by rw [z,x9] at npa; cases npa
  have fpa:H pa=none:=b9.free nepa npa
  have dpepa:=qae epe npa
  have epe:=s9 _ _ epe
  have b9':=b9.trans (SameBut.of s9)
  generalize upd H9 pa _=J9 at s9 epa x9' b9' epe |-
  refine ⟨_,rfl,_,_,_,_,rfl,x9',T.c_Rule,ze T.n_Rule (by decide),(show 9 < 1000 by decide),?_⟩
  rw [show qcs (Aa "anew") (.ref pa) (rq9 vn vw vo vp vb vm vu vs' (.ref pe))=(qps vn vw vo vp vb vm vu vs' (.ref pe) (.ref pa)) by with_unfolding_all rfl]
  have b10:SameBut x H (upd J9 x (.ins a.cRule dx (qps vn vw vo vp vb vm vu vs' (.ref pe) (.ref pa)))):=b9'.set
  have x10:=zb (H:=J9) (a:=x) (o:=.ins a.cRule dx (qps vn vw vo vp vb vm vu vs' (.ref pe) (.ref pa)))
  have epa:=(zf (o:=.ins a.cRule dx (qps vn vw vo vp vb vm vu vs' (.ref pe) (.ref pa))) nepa).trans epa
  have epe:=(zf (o:=.ins a.cRule dx (qps vn vw vo vp vb vm vu vs' (.ref pe) (.ref pa))) nepe).trans epe
  generalize upd J9 x _=H10 at b10 x10 epa epe |-
  refine ⟨qe3,λpl npl => ?_⟩
  obtain ⟨s10,epl⟩:=alc (o:=.lst []) npl
  have x10':=s10 _ _ x10
  have nepl:pl ≠ x:=λz=>by rw [z,x10] at npl; cases npl
  have fpl:H pl=none:=b10.free nepl npl
  have dpepl:=qae epe npl
  have dpapl:=qae epa npl
  have epe:=s10 _ _ epe
  have epa:=s10 _ _ epa
  have b10':=b10.trans (SameBut.of s10)
  generalize upd H10 pl _=J10 at s10 epl x10' b10' epe epa |-
  refine ⟨_,rfl,_,_,_,_,rfl,x10',T.c_Rule,ze T.n_Rule (by decide),(show 10 < 1000 by decide),?_⟩
  rw [show qcs (Aa "longer") (.ref pl) (qps vn vw vo vp vb vm vu vs' (.ref pe) (.ref pa))=(qoi vn vw vo vp vb vm vu vs' (.ref pe) (.ref pa) (.ref pl)) by with_unfolding_all rfl]
  have b11:SameBut x H (upd J10 x (.ins a.cRule dx (qoi vn vw vo vp vb vm vu vs' (.ref pe) (.ref pa) (.ref pl)))):=b10'.set
  have x11:=zb (H:=J10) (a:=x) (o:=.ins a.cRule dx (qoi vn vw vo vp vb vm vu vs' (.ref pe) (.ref pa) (.ref pl)))
  have epl:=(zf (o:=.ins a.cRule dx (qoi vn vw vo vp vb vm vu vs' (.ref pe) (.ref pa) (.ref pl))) nepl).trans epl
  have epe:=(zf (o:=.ins a.cRule dx (qoi vn vw vo vp vb vm vu vs' (.ref pe) (.ref pa) (.ref pl))) nepe).trans epe
  have epa:=(zf (o:=.ins a.cRule dx (qoi vn vw vo vp vb vm vu vs' (.ref pe) (.ref pa) (.ref pl))) nepa).trans epa
  generalize upd J10 x _=H11 at b11 x11 epl epe epa |-
  refine ⟨qe3,λpy npy => ?_⟩
  obtain ⟨s11,epy⟩:=alc (o:=.lst []) npy
  have x11':=s11 _ _ x11
  have nepy:py ≠ x:=λz=>by rw [z,x11] at npy; cases npy
  have fpy:H py=none:=b11.free nepy npy
  have dpepy:=qae epe npy
  have dpapy:=qae epa npy
  have dplpy:=qae epl npy
  have epe:=s11 _ _ epe
  have epa:=s11 _ _ epa
  have epl:=s11 _ _ epl
  have b11':=b11.trans (SameBut.of s11)
  generalize upd H11 py _=J11 at s11 epy x11' b11' epe epa epl |-
  refine ⟨_,rfl,_,_,_,_,rfl,x11',T.c_Rule,ze T.n_Rule (by decide),(show 11 < 1000 by decide),?_⟩
  rw [show qcs (Aa "yields") (.ref py) (qoi vn vw vo vp vb vm vu vs' (.ref pe) (.ref pa) (.ref pl))=(qpt vn vw vo vp vb vm vu vs' (.ref pe) (.ref pa) (.ref pl) (.ref py)) by with_unfolding_all rfl]
  have b12:SameBut x H (upd J11 x (.ins a.cRule dx (qpt vn vw vo vp vb vm vu vs' (.ref pe) (.ref pa) (.ref pl) (.ref py)))):=b11'.set
  have x12:=zb (H:=J11) (a:=x) (o:=.ins a.cRule dx (qpt vn vw vo vp vb vm vu vs' (.ref pe) (.ref pa) (.ref pl) (.ref py)))
  have epy:=(zf (o:=.ins a.cRule dx (qpt vn vw vo vp vb vm vu vs' (.ref pe) (.ref pa) (.ref pl) (.ref py))) nepy).trans epy
  have epe:=(zf (o:=.ins a.cRule dx (qpt vn vw vo vp vb vm vu vs' (.ref pe) (.ref pa) (.ref pl) (.ref py))) nepe).trans epe
  have epa:=(zf (o:=.ins a.cRule dx (qpt vn vw vo vp vb vm vu vs' (.ref pe) (.ref pa) (.ref pl) (.ref py))) nepa).trans epa
  have epl:=(zf (o:=.ins a.cRule dx (qpt vn vw vo vp vb vm vu vs' (.ref pe) (.ref pa) (.ref pl) (.ref py))) nepl).trans epl
  generalize upd J11 x _=H12 at b12 x12 epy epe epa epl |-
  refine k H12 pe pa pl py b12 fpe fpa fpl fpy x12 epe epa epl epy ?_
  simp only [Bb,Ao,At,or_false,not_or]
  exact ⟨⟨nepe.symm,nepa.symm,nepl.symm,nepy.symm⟩,⟨dpepa,dpepl,dpepy⟩,⟨dpapl,dpapy⟩,dplpy,not_false,.nil⟩
theorem qoy (T:Txt K mg a):FnOk P w K mg base CX0 1 a.fTwiceInit a.gTwiceInit ["self", "name"] (qw3 K "name"):=by
 refine T.dTwiceInit.fn.ok qoe (λvs H Q E h => ?_) (λcdv A outer s H vs Q E hr h => ?_)
 .obtain ⟨_,_,_,_,rfl,_⟩:=h
  all_goals rfl
 .obtain ⟨x,C,y,ini,rfl,hx,xa,no,k⟩:=h
  refine ⟨_,(qp (zk (qf5 T.b_CourtError rfl T.m_CourtError (qj (pv 0) (qj (pv 1) qt qm) qm)))
   (qz (qho (pv 0) (pv 1) rfl))),?_⟩
  refine ⟨_,rfl,_,rfl,x,C,none,[y],ini,rfl,hx,xa.xc,qal (show 1 <= 100000 by decide),?_⟩
  refine ⟨_,rfl,_,rfl,x,C,true,rfl,xa.set no,.inl ⟨hx,λdx hd => ?_⟩⟩
  have ne:dx ≠ x:=λz=>by rw [z,hx] at hd; cases hd
  exact k dx _ hd (λb o hb e=>by rw [zf hb,zf (qae e hd)]; exact e) zb (by rw [zf ne]; exact zb)
theorem qgn (T:Txt K mg a):FnOk P w K mg base CX0 1 a.fUnfitInit a.gUnfitInit ["self", "at"] (qw3 K "at"):=by
 refine T.dUnfitInit.fn.ok qof (λvs H Q E h => ?_) (λcdv A outer s H vs Q E hr h => ?_)
 .obtain ⟨_,_,_,_,rfl,_⟩:=h
  all_goals rfl
 .obtain ⟨x,C,y,ini,rfl,hx,xa,no,k⟩:=h
  refine ⟨_,(qp (zk (qf5 T.b_CourtError rfl T.m_CourtError (qj (pv 0) (qj (pv 1) qt qm) qm)))
   (qz (qho (pv 0) (pv 1) rfl))),?_⟩
  refine ⟨_,rfl,_,rfl,x,C,none,[y],ini,rfl,hx,xa.xc,qal (show 1 <= 100000 by decide),?_⟩
  refine ⟨_,rfl,_,rfl,x,C,true,rfl,xa.set no,.inl ⟨hx,λdx hd => ?_⟩⟩
  have ne:dx ≠ x:=λz=>by rw [z,hx] at hd; cases hd
  exact k dx _ hd (λb o hb e=>by rw [zf hb,zf (qae e hd)]; exact e) zb (by rw [zf ne]; exact zb)
theorem qqb (T:Txt K mg a):FnOk P w K mg base (CX1 P w) 3 a.fReadTerm a.gReadTerm ["told", "at", "row"] (spTm a):=by
 refine okX T.dReadTerm.fn qep (λvs H Q E h => ?_) (λcdv A outer s H vs Q E hr h => ?_)
 .obtain ⟨_,_,_,_,_,_,_,_,_,_,_,_,rfl,_⟩:=h
  all_goals rfl
 .obtain ⟨d,p,i,rs,As,x,w1,o,dd,y,m,u,rfl,st,l6,hp,k,kx⟩:=h
  refine ⟨_,(qp (zh (i:=3) qep.nd rfl (Aw rfl) (zz jb (pv 2) qu (λ_ _=>rfl)))
   (qp (zm (qmq (qyf (qfw hr) (pv 3) (pv 0))) (qz (qdg rfl (Takes.at qbl) (qd7 T.x_Twice.xc T.dTwiceInit.ty (qoy T) (hr.mono (by decide)) rfl T.m_Twice T.x_Twice.kp T.dTwiceInit.bd .nil qau (qj (pv 3) qt qm)))) qag)
   (qp (zh (i:=4) qep.nd rfl (Aw rfl) (qdx (zg qay (zz jb (pv 2) qu (λ_ _=>rfl)) zq (qad _)) (zz jb (pv 2) qu (λ_ _=>rfl)) qbk))
   (qp (zh (i:=5) qep.nd rfl (Aw rfl) (qdx (zg qay (zz jb (pv 2) qu (λ_ _=>rfl)) zq (qad _)) (zz jb (pv 2) qu (λ_ _=>rfl)) qbk))
   (qp (zh (i:=6) qep.nd rfl (Aw rfl) (qvz T.k_Rule (qqa T) (hr.mono (by decide)) rfl T.m_Rule T.e_RuleInit_8 (dvs:=[.non]) (.cons rfl .nil) qau (qj (pv 3) (qj (zz jb (pv 2) qu (λ_ _=>rfl)) (qj (zz jb (pv 2) qu (λ_ _=>rfl)) (qj (pv 4) (qj (pv 5) (qj (zz jb (pv 2) qu (λ_ _=>rfl)) (qj (zz jb (pv 2) qu (λ_ _=>rfl)) qt zx) zx) qm) qm) zx) zx) qm)))
   (qp (zm (PW.pt (qix (zg qay (zo qsh (by rfl) T.n_len qap (qj (pv 0) qt qm)) (qbj (v:=.int 6) rfl T.g_MOST_TERMS.choose_spec ⟨_,rfl⟩) (qad _)) (qjp (zg qay (qba (pv 6) rfl) (qba (pv 6) rfl) (qad _))))) (qz (qdg rfl (Takes.at qbl) (qd7 T.x_Unfit.xc T.dUnfitInit.ty (qgn T) (hr.mono (by decide)) rfl T.m_Unfit T.x_Unfit.kp T.dUnfitInit.bd .nil qau (qj (pv 1) qt qm)))) qag)
   (qz (qmv (qfw hr) (pv 0) (pv 3) (pv 6) rfl)))))))),?_⟩
  refine ⟨_,rfl,_,_,_,_,rfl,rfl,SqL.of (hp),rfl,?_⟩
  cases pn:qar rs x with
  | some j =>
   obtain ⟨r,A,_,_,_,_,g⟩:=st.get pn
   refine ⟨_,rfl,_,rfl,d,_,rfl,g,_,rfl,qct ?_⟩
   exact ⟨_,rfl,qal (show 1 <= 100000 by decide),λx1 n1=>⟨x1,a.cTwice,_,_,rfl,zb,T.x_Twice,ze T.n_Twice (by decide),λd1 H9 hd1 kp o1 od1=>⟨rfl,x1,_,some d1,rfl,o1,⟨_,od1⟩,T.r_Twice,(kx _ (qhy (by rw [pn]; rfl))) x1 d1 _ (qaj (((Same.refl H)).trans (qbh n1 kp)) (((Same.refl H)).free n1)) zb ((zf (λz=>by rw [z,zb] at hd1; cases hd1)).trans od1)⟩⟩⟩
  | none =>
   refine ⟨_,rfl,_,rfl,d,_,rfl,st.non pn,_,rfl,qbo ?_⟩
   cases dd with
   | false =>
    refine ⟨_,rfl,_,_,_,_,rfl,rfl,SqL.of (hp),rfl,rfl,_,rfl,qe2 rfl ⟨_,rfl,_,_,_,_,rfl,rfl,SqL.of (hp),rfl,?_⟩⟩
    refine ⟨_,rfl,_,_,_,_,rfl,rfl,SqL.of (hp),rfl,rfl,_,rfl,qax (by decide +kernel) ?_⟩
    refine ⟨_,rfl,_,rfl,_,_,_,_,rfl,rfl,SqL.of (hp),rfl,_,rfl,_,_,_,_,rfl,rfl,SqL.of (hp),rfl,_,rfl,_,rfl,_,rfl,_,_,_,_,rfl,rfl,SqL.of (hp),rfl,_,rfl,_,_,_,_,rfl,rfl,SqL.of (hp),rfl,λxr dx nx nd ne => ?_⟩
    refine ⟨xr,dx,_,_,_,_,_,_,_,_,rfl,zb,λH1 pe pa pl py b1 ne1 na1 nl1 ny1 hx1 he1 ha1 hl1 hy1 nd5=>⟨rfl,?_⟩⟩
    have keep:Same H (upd (upd H dx (.own xr)) xr (.ins a.cRule dx [])):=λb u e=>by rw [zf (qae e nx),zf (qae e nd)]; exact e
    have s1:Same H H1:=b1.made nx nd
    have fe:=keep.free ne1
    have fa:=keep.free na1
    have fl:=keep.free nl1
    have fy:=keep.free ny1
    have hd1:=s1 _ _ st.hd
    have lk:=qjm st.ln
    dsimp only []
    refine ⟨_,rfl,d,_,rfl,hd1,rfl,_,rfl,qb4 (λc => ?_) (λc => ?_)⟩
    .have c:((dcR rs As).length:Int)=6:=V.int.inj (of_decide_eq_true c)
     exact ⟨_,rfl,qal (show 1 <= 100000 by decide),λx1 n1=>⟨x1,a.cUnfit,_,_,rfl,zb,T.x_Unfit,ze T.n_Unfit (by decide),λd1 H9 hd1 kp o1 od1=>⟨rfl,x1,_,some d1,rfl,o1,⟨_,od1⟩,T.r_Unfit,(kx _ (qeu (d:=false) pn (.inl (by lia)))) x1 d1 _ (qaj ((s1).trans (qbh n1 kp)) ((s1).free n1)) zb ((zf (λz=>by rw [z,zb] at hd1; cases hd1)).trans od1)⟩⟩⟩
    have c6:rs.length ≠ 6:=λz=>c (decide_eq_true (by rw [lk,z]; rfl))
    refine ⟨_,rfl,_,_,_,_,_,rfl,hx1,T.c_Rule,ze T.n_Rule (by decide),rfl,_,rfl,_,_,_,_,_,rfl,hx1,T.c_Rule,ze T.n_Rule (by decide),rfl,rfl,_,rfl,qb4 (λc2 => ?_) (λc2 => ?_)⟩
    .have c2:o=y:=V.str.inj (of_decide_eq_true c2)
     exact ⟨_,rfl,qal (show 1 <= 100000 by decide),λx1 n1=>⟨x1,a.cUnfit,_,_,rfl,zb,T.x_Unfit,ze T.n_Unfit (by decide),λd1 H9 hd1 kp o1 od1=>⟨rfl,x1,_,some d1,rfl,o1,⟨_,od1⟩,T.r_Unfit,(kx _ (qeu (d:=false) pn (.inr ⟨rfl,c2⟩))) x1 d1 _ (qaj ((s1).trans (qbh n1 kp)) ((s1).free n1)) zb ((zf (λz=>by rw [z,zb] at hd1; cases hd1)).trans od1)⟩⟩⟩
    have c7:¬ (rs.length=6 \/ (false=false/\o=y)):=λz=>z.elim c6 λz=>c2 (decide_eq_true (by rw [z.2]))
    refine ⟨_,rfl,_,rfl,_,rfl,d,_,rfl,DPut.k (k:=.inr x) hd1 (by rw [Bi,lk]; lia),?_⟩
    have ep:qfe (dcR rs As) (.inr x) (.ref xr)=dcR rs As ++ [(.inr x,.ref xr)]:=qju _ (by rw [qgx x st.ln,pn]; rfl)
    rw [ep]
    have kd:KeepT [d] H1 (upd H1 d (.dK (dcR rs As ++ [(.inr x,.ref xr)]))):=KeepT.put (Aj.mpr rfl) hd1 (λ_ z=>nomatch z)
    have ho:∀ z ∈ own ⟨xr,dx,pe,pa,pl,py⟩,H z=none:=λz hz=>by
     simp only [own,Ao,At,or_false] at hz
     rcases hz with rfl | rfl | rfl | rfl | rfl
     .exact nx
     .exact fe
     .exact fa
     .exact fl
     .exact fy
    have hin:∀ z ∈ d :: As.flatMap own,H z ≠ none:=λz hz e=>by
     rcases Ao.mp hz with rfl | hz
     .rw [st.hd] at e; cases e
     .obtain ⟨A',hA',hz'⟩:=B8.mp hz
      obtain ⟨jA,hjA⟩:=AV hA'
      have lj:jA < rs.length:=by rw [<- st.ln]; exact (Ae.mp hjA).1
      obtain ⟨v',us',ry⟩:=st.ru jA _ A' (Ag lj) hjA
      simp only [own,Ao,At,or_false] at hz'
      rcases hz' with rfl | rfl | rfl | rfl | rfl
      .rw [ry.hx] at e; cases e
      .rw [ry.he] at e; cases e
      .rw [ry.ha] at e; cases e
      .rw [ry.hl] at e; cases e
      .rw [ry.hy] at e; cases e
    have nz:∀ z ∈ own ⟨xr,dx,pe,pa,pl,py⟩,z ≠ d:=λz hz e=>hin d Aq (e ▸ ho z hz)
    have ux:RuX a.cRule H1 ⟨xr,dx,pe,pa,pl,py⟩ (qm9 x w1 o false y m u):=⟨.non,[],hx1,rfl,he1,ha1,hl1,.nil,hy1⟩
    refine k _ (qe9 pn c7) _ (As ++ [⟨xr,dx,pe,pa,pl,py⟩]) ((KeepT.of s1).trans (kd.sub λz hz=>by rw [Aj.mp hz]; exact Aq)) (λz hz => ?_) ((st.same s1).snoc kd zb (ux.keep kd λz hz hz2=>nz z hz (Aj.mp hz2)) pn (show (own ⟨xr,dx,pe,pa,pl,py⟩).Nodup from nd5) λz hz=>⟨nz z hz,λhz2=>hin z (Au _ hz2) (ho z hz)⟩)
    rw [Bj] at hz
    rcases A5.mp hz with q | q
    .exact .inl q
    .exact .inr (ho z (by simpa using q))
   | true =>
    refine ⟨_,rfl,_,_,_,_,rfl,rfl,SqL.of (hp),rfl,rfl,_,rfl,qax (by decide +kernel) ?_⟩
    refine ⟨_,rfl,_,_,_,_,rfl,rfl,SqL.of (hp),rfl,rfl,_,rfl,qe2 rfl ⟨_,rfl,_,_,_,_,rfl,rfl,SqL.of (hp),rfl,?_⟩⟩
    refine ⟨_,rfl,_,rfl,_,_,_,_,rfl,rfl,SqL.of (hp),rfl,_,rfl,_,_,_,_,rfl,rfl,SqL.of (hp),rfl,_,rfl,_,rfl,_,rfl,_,_,_,_,rfl,rfl,SqL.of (hp),rfl,_,rfl,_,_,_,_,rfl,rfl,SqL.of (hp),rfl,λxr dx nx nd ne => ?_⟩
    refine ⟨xr,dx,_,_,_,_,_,_,_,_,rfl,zb,λH1 pe pa pl py b1 ne1 na1 nl1 ny1 hx1 he1 ha1 hl1 hy1 nd5=>⟨rfl,?_⟩⟩
    have keep:Same H (upd (upd H dx (.own xr)) xr (.ins a.cRule dx [])):=λb u e=>by rw [zf (qae e nx),zf (qae e nd)]; exact e
    have s1:Same H H1:=b1.made nx nd
    have fe:=keep.free ne1
    have fa:=keep.free na1
    have fl:=keep.free nl1
    have fy:=keep.free ny1
    have hd1:=s1 _ _ st.hd
    have lk:=qjm st.ln
    dsimp only []
    refine ⟨_,rfl,d,_,rfl,hd1,rfl,_,rfl,qb4 (λc => ?_) (λc => ?_)⟩
    .have c:((dcR rs As).length:Int)=6:=V.int.inj (of_decide_eq_true c)
     exact ⟨_,rfl,qal (show 1 <= 100000 by decide),λx1 n1=>⟨x1,a.cUnfit,_,_,rfl,zb,T.x_Unfit,ze T.n_Unfit (by decide),λd1 H9 hd1 kp o1 od1=>⟨rfl,x1,_,some d1,rfl,o1,⟨_,od1⟩,T.r_Unfit,(kx _ (qeu (d:=true) pn (.inl (by lia)))) x1 d1 _ (qaj ((s1).trans (qbh n1 kp)) ((s1).free n1)) zb ((zf (λz=>by rw [z,zb] at hd1; cases hd1)).trans od1)⟩⟩⟩
    have c6:rs.length ≠ 6:=λz=>c (decide_eq_true (by rw [lk,z]; rfl))
    refine ⟨_,rfl,_,_,_,_,_,rfl,hx1,T.c_Rule,ze T.n_Rule (by decide),rfl,_,rfl,_,_,_,_,_,rfl,hx1,T.c_Rule,ze T.n_Rule (by decide),rfl,rfl,_,rfl,qb4 (λc2 => ?_) (λc2 => ?_)⟩
    .exact nomatch of_decide_eq_true c2
    have c7:¬ (rs.length=6 \/ (true=false/\o=y)):=λz=>z.elim c6 λz=>nomatch z.1
    refine ⟨_,rfl,_,rfl,_,rfl,d,_,rfl,DPut.k (k:=.inr x) hd1 (by rw [Bi,lk]; lia),?_⟩
    have ep:qfe (dcR rs As) (.inr x) (.ref xr)=dcR rs As ++ [(.inr x,.ref xr)]:=qju _ (by rw [qgx x st.ln,pn]; rfl)
    rw [ep]
    have kd:KeepT [d] H1 (upd H1 d (.dK (dcR rs As ++ [(.inr x,.ref xr)]))):=KeepT.put (Aj.mpr rfl) hd1 (λ_ z=>nomatch z)
    have ho:∀ z ∈ own ⟨xr,dx,pe,pa,pl,py⟩,H z=none:=λz hz=>by
     simp only [own,Ao,At,or_false] at hz
     rcases hz with rfl | rfl | rfl | rfl | rfl
     .exact nx
     .exact fe
     .exact fa
     .exact fl
     .exact fy
    have hin:∀ z ∈ d :: As.flatMap own,H z ≠ none:=λz hz e=>by
     rcases Ao.mp hz with rfl | hz
     .rw [st.hd] at e; cases e
     .obtain ⟨A',hA',hz'⟩:=B8.mp hz
      obtain ⟨jA,hjA⟩:=AV hA'
      have lj:jA < rs.length:=by rw [<- st.ln]; exact (Ae.mp hjA).1
      obtain ⟨v',us',ry⟩:=st.ru jA _ A' (Ag lj) hjA
      simp only [own,Ao,At,or_false] at hz'
      rcases hz' with rfl | rfl | rfl | rfl | rfl
      .rw [ry.hx] at e; cases e
      .rw [ry.he] at e; cases e
      .rw [ry.ha] at e; cases e
      .rw [ry.hl] at e; cases e
      .rw [ry.hy] at e; cases e
    have nz:∀ z ∈ own ⟨xr,dx,pe,pa,pl,py⟩,z ≠ d:=λz hz e=>hin d Aq (e ▸ ho z hz)
    have ux:RuX a.cRule H1 ⟨xr,dx,pe,pa,pl,py⟩ (qm9 x w1 o true y m u):=⟨.non,[],hx1,rfl,he1,ha1,hl1,.nil,hy1⟩
    refine k _ (qe9 pn c7) _ (As ++ [⟨xr,dx,pe,pa,pl,py⟩]) ((KeepT.of s1).trans (kd.sub λz hz=>by rw [Aj.mp hz]; exact Aq)) (λz hz => ?_) ((st.same s1).snoc kd zb (ux.keep kd λz hz hz2=>nz z hz (Aj.mp hz2)) pn (show (own ⟨xr,dx,pe,pa,pl,py⟩).Nodup from nd5) λz hz=>⟨nz z hz,λhz2=>hin z (Au _ hz2) (ho z hz)⟩)
    rw [Bj] at hz
    rcases A5.mp hz with q | q
    .exact .inl q
    .exact .inr (ho z (by simpa using q))
theorem qfn (T:Txt K mg a):FnOk P w K mg base CX0 1 a.fNoTermInit a.gNoTermInit ["self", "name"] (qw3 K "name"):=by
 refine T.dNoTermInit.fn.ok qm3 (λvs H Q E h => ?_) (λcdv A outer s H vs Q E hr h => ?_)
 .obtain ⟨_,_,_,_,rfl,_⟩:=h
  all_goals rfl
 .obtain ⟨x,C,y,ini,rfl,hx,xa,no,k⟩:=h
  refine ⟨_,(qp (zk (qf5 T.b_CourtError rfl T.m_CourtError (qj (pv 0) (qj (pv 1) qt qm) qm)))
   (qz (qho (pv 0) (pv 1) rfl))),?_⟩
  refine ⟨_,rfl,_,rfl,x,C,none,[y],ini,rfl,hx,xa.xc,qal (show 1 <= 100000 by decide),?_⟩
  refine ⟨_,rfl,_,rfl,x,C,true,rfl,xa.set no,.inl ⟨hx,λdx hd => ?_⟩⟩
  have ne:dx ≠ x:=λz=>by rw [z,hx] at hd; cases hd
  exact k dx _ hd (λb o hb e=>by rw [zf hb,zf (qae e hd)]; exact e) zb (by rw [zf ne]; exact zb)
theorem qk3 (T:Txt K mg a):FnOk P w K mg base CX0 1 a.fRuleAllKinds a.gRuleAllKinds ["self"] (spAk a):=by
 refine T.dRuleAllKinds.fn.ok qge (λvs H Q E h => ?_) (λcdv A outer s H vs Q E hr h => ?_)
 .obtain ⟨_,_,rfl,_⟩:=h
  all_goals rfl
 .obtain ⟨A,r,rfl,ru,l1,l2,l3,k⟩:=h
  refine ⟨_,(qp (zh (i:=1) qge.nd rfl (Aw rfl) (zi qde (zi qde (zi qde (zr (qj (qba (pv 0) rfl) qt qci)) (qba (pv 0) rfl)) (qba (pv 0) rfl)) (qgp (N:=["row"]) (js:=[none]) (XN:=["self", "kinds"]) (xs:=qab qdv) rfl rfl rfl (by decide +kernel) (qb1 (qba (pv 0) rfl)) (λ_ _ _ _ _ _=>(qak (i:=0) (show BW (["row"]:List Str) from by decide +kernel) rfl (Aw rfl) (Cq rfl))) (λ_ _ _ _ _ _=>qdf) (λ_ _ _ _ _ _=>(zz (qwi (K:=K) rfl) (pv 0) qu (λ_ _=>rfl))))))
   (qp (zm (zg qdd (qba (pv 0) rfl) qbk (qad _)) (qz (zk (qcb A9 AE AF qa0 (pv 1) (qj (qba (pv 0) rfl) qt qci)))) qag)
   (qp (zm (zg qdd (qba (pv 0) rfl) qbk (qad _)) (qz (zk (qcb A9 PySem.F.slot_list_extend PySem.F.type_list_extend qpm (pv 1) (qj (qba (pv 0) rfl) qt qci)))) qag)
   (qz (zd (pv 1)))))),?_⟩
  obtain ⟨v,us,hx,hs,he,ha,hl,tl,hy⟩:=ru
  have lu:us.length=r.longer.length:=by rw [tl.length,Ab]
  refine ⟨_,rfl,_,_,_,_,_,rfl,hx,T.c_Rule,ze T.n_Rule (by decide),rfl,qal (show 1 <= 100000 by decide),λq1 n1 => ?_⟩
  obtain ⟨s1,e1⟩:=alc (o:=.lst [V.str r.owes]) n1
  generalize upd H q1 _=H1 at s1 e1 |-
  refine ⟨_,rfl,_,_,_,_,_,rfl,s1 _ _ hx,T.c_Rule,ze T.n_Rule (by decide),rfl,_,_,_,_,rfl,rfl,e1,s1 _ _ he,qal (by rw [Ab]; show 1 + _ <= _; lia),λq2 n2 => ?_⟩
  obtain ⟨s2,e2⟩:=alc (o:=.lst ([V.str r.owes] ++ r.ends.map V.str)) n2
  generalize upd H1 q2 _=H2 at s2 e2 |-
  have s12:=s1.trans s2
  refine ⟨_,rfl,_,_,_,_,_,rfl,s12 _ _ hx,T.c_Rule,ze T.n_Rule (by decide),rfl,_,_,_,_,rfl,rfl,e2,s12 _ _ ha,qal (by rw [Ai,Ab,Ab]; show 1 + _ + _ <= _; lia),λq3 n3 => ?_⟩
  obtain ⟨s3,e3⟩:=alc (o:=.lst ([V.str r.owes] ++ r.ends.map V.str ++ r.anew.map V.str)) n3
  generalize upd H2 q3 _=H3 at s3 e3 |-
  have s13:=s12.trans s3
  have tl3:=tl.same s13
  refine ⟨_,rfl,_,_,_,_,_,rfl,s13 _ _ hx,T.c_Rule,ze T.n_Rule (by decide),rfl,_,rfl,⟨_,SqL.of (s13 _ _ hl)⟩,?_⟩
  let f:V->V:=λv=>match v with
   | .ref b=>match H3 b with
    | some (.tup [.str y,.int _,.int _])=>.str y
    | _=>.non
   | _=>.non
  refine qc1 f (λσ'=>∃ v,σ'=[v]) (qdo (K:=K) (SqL.of (s13 _ _ hl))) (qal (by lia)) ⟨none,rfl⟩ (λv σ' H' RR' hv sm s4 q => ?_) qc2 λp5 hp5 => ?_
  .obtain ⟨v0,rfl⟩:=s4
   obtain ⟨j,hj⟩:=AV hv
   obtain ⟨b,t,rfl,g1,g2⟩:=tl3.get' hj
   rw [Ak] at g1
   cases eg:r.longer[j]? with
   | none=>rw [eg] at g1; cases g1
   | some rr =>
    rw [eg] at g1
    cases g1
    have ef:f (.ref b)=.str rr.1:=by show (match H3 b with | some (.tup [.str y,.int _,.int _])=>V.str y | _=>.non)=_; rw [g2]; rfl
    have q:=q [some (.ref b)] ⟨_,rfl⟩
    rw [ef] at q
    exact ⟨_,rfl,_,_,_,_,rfl,rfl,SqT.of (sm _ _ g2),rfl,q⟩
  have em:us.map f=(r.longer.map (·.1)).map V.str:=by
   refine BK λj => ?_
   rw [Ak,Ak,Ak]
   cases eg:r.longer[j]? with
   | none=>rw [Bh (by rw [lu]; exact Ci.mp eg)]; rfl
   | some rr =>
    obtain ⟨b,g1,g2⟩:=tl3.get (i:=j) (r:=qpu rr) (by rw [Ak,eg]; rfl)
    rw [g1]
    show some (match H3 b with | some (.tup [.str y,.int _,.int _])=>V.str y | _=>.non)=_
    rw [g2]; rfl
  rw [em]
  obtain ⟨s5,e5⟩:=alc (o:=.lst ((r.longer.map (·.1)).map V.str)) hp5
  generalize upd H3 p5 _=H5 at s5 e5 |-
  refine ⟨_,_,_,_,rfl,rfl,s5 _ _ e3,e5,qal (by simp only [Ai,Ab,An,Cg]; lia),λq n6 => ?_⟩
  have eb:([V.str r.owes] ++ r.ends.map V.str ++ r.anew.map V.str) ++ (r.longer.map (·.1)).map V.str=([r.owes] ++ r.ends ++ r.anew ++ r.longer.map (·.1)).map V.str:=by simp only [Ar,A4,Bu]
  rw [eb]
  generalize eB:[r.owes] ++ r.ends ++ r.anew ++ r.longer.map (·.1)=B
  have lB:B.length <= 4000:=by rw [<- eB]; simp only [Ai,Ab,An,Cg]; lia
  have ek:qav r=B ++ r.opens.toList ++ stL r.still:=by unfold qav; rw [eB]
  have s15:=s13.trans s5
  obtain ⟨s6,e6⟩:=alc (o:=.lst (B.map V.str)) n6
  generalize upd H5 q _=H6 at s6 e6 |-
  have s16:=s15.trans s6
  have nq:=s15.free n6
  have hx6:=s16 _ _ hx
  have hs6:=hs.same s16
  have ho:r.opens=none \/ ∃ o,r.opens=some o:=by
   cases r.opens with
   | none=>exact .inl rfl
   | some o=>exact .inr ⟨o,rfl⟩
  apply useH (p:=λ(H7:Hp)=>∃ B':List Str,Same H H7/\B'.length <= 4001/\H7 q=some (.lst (B'.map V.str))/\qav r=B' ++ stL r.still)
  .intro fin
   refine ho.elim (λeo => ?_) (λeo => ?_)
   .refine ⟨_,rfl,_,_,_,_,_,rfl,hx6,T.c_Rule,ze T.n_Rule (by decide),rfl,rfl,_,rfl,qdl (by rw [eo]; rfl) ?_⟩
    have qq:∃ B':List Str,Same H H6/\B'.length <= 4001/\H6 q=some (.lst (B'.map V.str))/\qav r=B' ++ stL r.still:=⟨B,s16,by lia,e6,by rw [ek,eo]; simp⟩
    generalize H6=W6 at qq |-
    exact fin W6 qq
   .obtain ⟨o,eo⟩:=eo
    have eo':qd1 r.opens=.str o:=by rw [eo]; rfl
    refine ⟨_,rfl,_,_,_,_,_,rfl,hx6,T.c_Rule,ze T.n_Rule (by decide),rfl,rfl,_,rfl,qe7 (λz=>by rw [eo'] at z; cases z) ?_⟩
    refine ⟨_,rfl,.inl ⟨rfl,_,SqL.of e6⟩,_,rfl,_,_,_,_,_,rfl,hx6,T.c_Rule,ze T.n_Rule (by decide),rfl,_,_,_,rfl,rfl,e6,qb6 (by rw [Ab]; lia),?_⟩
    have qq:∃ B':List Str,Same H (upd H6 q (.lst (B.map V.str ++ [qd1 r.opens])))/\B'.length <= 4001/\upd H6 q (.lst (B.map V.str ++ [qd1 r.opens])) q=some (.lst (B'.map V.str))/\qav r=B' ++ stL r.still:=⟨B ++ [o],qaj s16 nq,by rw [Ai]; show _ + 1 <= _; lia,by rw [zb,Ar,eo']; rfl,by rw [ek,eo]; rfl⟩
    exact fin _ qq
  .rintro H7 ⟨B',s7,l7,e7,ek'⟩
   have hx7:=s7 _ _ hx
   have hs7:=hs.same s7
   cases es:r.still with
   | none =>
    rw [es] at hs7 ek'
    cases hs7
    refine ⟨_,rfl,_,_,_,_,_,rfl,hx7,T.c_Rule,ze T.n_Rule (by decide),rfl,rfl,_,rfl,qdl rfl ⟨_,rfl,k q H7 nq s7 (by rw [ek',e7]; simp [stL])⟩⟩
   | some sv =>
    rw [es] at hs7 ek'
    obtain ⟨ps,rfl,hps⟩:=hs7
    refine ⟨_,rfl,_,_,_,_,_,rfl,hx7,T.c_Rule,ze T.n_Rule (by decide),rfl,rfl,_,rfl,qe7 (λz=>nomatch z) ?_⟩
    refine ⟨_,rfl,.inl ⟨rfl,_,SqL.of e7⟩,_,rfl,_,_,_,_,_,rfl,hx7,T.c_Rule,ze T.n_Rule (by decide),rfl,_,_,_,_,rfl,rfl,e7,SqT.of hps,qal (by rw [Ab]; show _ + 2 <= _; lia),?_⟩
    exact ⟨_,rfl,k q _ nq (qaj s7 nq) (by rw [zb,ek',Ar]; rfl)⟩
theorem qs3 (T:Txt K mg a):FnOk P w K mg base CX0 1 a.fKindsIn a.gKindsIn ["row"] spKi:=by
 refine T.dKindsIn.fn.ok qsm (λvs H Q E h => ?_) (λcdv A outer s H vs Q E hr h => ?_)
 .obtain ⟨_,_,rfl,_⟩:=h
  all_goals rfl
 .obtain ⟨p,row,rfl,hp,nt,k⟩:=h
  refine ⟨_,(qp (zm (zg qay (zz jb (pv 0) qu (λ_ _=>rfl)) zq (qad _)) (qz (zd (zr qt))) qag)
   (qz (zd (qdx (zg qay (zz jb (pv 0) qu (λ_ _=>rfl)) zq (qad _)) (qbb qb2 (pv 0) (qa5 qu) (qa5 qu)) (qbb qb2 (pv 0) (qa5 qu) (qa5 qu)))))),?_⟩
  cases row with
  | term=>cases nt
  | ends x k =>
   refine ⟨_,rfl,_,_,_,_,rfl,rfl,SqL.of (hp),rfl,rfl,_,rfl,qax (by decide +kernel) ?_⟩
   refine ⟨_,rfl,_,_,_,_,rfl,rfl,SqL.of (hp),rfl,rfl,_,rfl,qax (by decide +kernel) ⟨_,rfl,_,rfl,_,rfl,_,_,rfl,SqL.of hp,λq hq => ?_⟩⟩
   exact k q _ hq (zj hq) zb
  | anew x k =>
   refine ⟨_,rfl,_,_,_,_,rfl,rfl,SqL.of (hp),rfl,rfl,_,rfl,qax (by decide +kernel) ?_⟩
   refine ⟨_,rfl,_,_,_,_,rfl,rfl,SqL.of (hp),rfl,rfl,_,rfl,qax (by decide +kernel) ⟨_,rfl,_,rfl,_,rfl,_,_,rfl,SqL.of hp,λq hq => ?_⟩⟩
   exact k q _ hq (zj hq) zb
  | longer x k u t =>
   refine ⟨_,rfl,_,_,_,_,rfl,rfl,SqL.of (hp),rfl,rfl,_,rfl,qax (by decide +kernel) ?_⟩
   refine ⟨_,rfl,_,_,_,_,rfl,rfl,SqL.of (hp),rfl,rfl,_,rfl,qax (by decide +kernel) ⟨_,rfl,_,rfl,_,rfl,_,_,rfl,SqL.of hp,λq hq => ?_⟩⟩
   exact k q _ hq (zj hq) zb
  | still x k l =>
   refine ⟨_,rfl,_,_,_,_,rfl,rfl,SqL.of (hp),rfl,rfl,_,rfl,qax (by decide +kernel) ?_⟩
   refine ⟨_,rfl,_,_,_,_,rfl,rfl,SqL.of (hp),rfl,rfl,_,rfl,qe2 rfl ⟨_,rfl,_,rfl,_,rfl,_,_,rfl,SqL.of hp,λq hq => ?_⟩⟩
   exact k q _ hq (zj hq) zb
  | yields x y =>
   refine ⟨_,rfl,_,_,_,_,rfl,rfl,SqL.of (hp),rfl,rfl,_,rfl,qe2 rfl ⟨qe3,λq hq=>k q _ hq (zj hq) zb⟩⟩
theorem qs4 (T:Txt K mg a):FnOk P w K mg base CX0 2 a.fIsUnfit a.gIsUnfit ["rule", "row"] (spUf a):=by
 refine T.dIsUnfit.fn.ok ql8 (λvs H Q E h => ?_) (λcdv A outer s H vs Q E hr h => ?_)
 .obtain ⟨_,_,_,_,rfl,_⟩:=h
  all_goals rfl
 .obtain ⟨A,r,p,row,rfl,ru,l1,l2,l3,hp,nt,k⟩:=h
  refine ⟨_,(qp (zh (i:=2) ql8.nd rfl (Cq rfl) (qnm (pv 0) T.c_Rule T.t_dRuleAllKinds (qk3 T) (hr.mono (by decide)) T.dRuleAllKinds.bd .nil qau))
   (qp (zm (zp (zo (qsa rfl) (by rfl) T.n_any qut (qj (qgp (N:=["kind", "taken"]) (js:=[none,some 2]) (XN:=["rule", "row", "taken"]) (xs:=qab qhp) rfl rfl rfl (by decide +kernel) (qb1 (zn (qs3 T) (hr.mono (by decide)) rfl T.dKindsIn.mgx T.dKindsIn.fn.kp T.dKindsIn.bd .nil qau (qj (pv 1) qt qm))) (λ_ _ _ _ _ _=>(qak (i:=0) (show BW (["kind", "taken"]:List Str) from by decide +kernel) rfl (Aw rfl) (Cq rfl))) (λ_ _ _ _ _ _=>qdf) (λ_ _ _ _ _ _=>(qdu (qpg (K:=K) rfl) (pv 0) (pv 1) (by with_unfolding_all rfl)))) qt qj0))) (qz (zd qg2)) qag)
   (qp (zm (zg qay (zz jb (pv 1) qu (λ_ _=>rfl)) zq (qad _)) (qz (zd (qxp (qdu qdd (qba (pv 0) rfl) qbk (qad _)) (qey (qdu qay (zz jb (pv 1) qu (λ_ _=>rfl)) (zz jb (pv 1) qu (λ_ _=>rfl)) (qad _)))))) qag)
   (qz (zd (qd4 (qdu qay (zz jb (pv 1) qu (λ_ _=>rfl)) zq (qad _)) (qey (qdu qay (zo qaq (by rfl) T.n_len qap (qj (qba (pv 0) rfl) qt qci)) (qbj (v:=.int 2) rfl T.g_MOST_LONGER_ROWS.choose_spec ⟨_,rfl⟩) (qad _))))))))),?_⟩
  have ru0:=ru
  obtain ⟨v,us,hx,hs,he,ha,hl,tl,hy⟩:=ru
  refine ⟨_,rfl,A.p,A.dx,_,rfl,hx,rfl,A,r,rfl,ru0,l1,l2,l3,λq H1 nq s1 e1 => ?_⟩
  have kl:=qw6 r
  refine ⟨_,rfl,p,row,rfl,s1 _ _ hp,nt,λq2 H2 n2 s2 e2 => ?_⟩
  have s12:=s1.trans s2
  refine ⟨_,rfl,⟨_,SqL.of e2⟩,?_⟩
  have e12:=s2 _ _ e1
  have lk:(kin row).length <= 2:=by cases row <;> simp [kin]
  refine qc1 (λv=>match v with | .str y=>.bl ((qav r).contains y) | _=>.non) (λσ'=>∃ v,σ'=[v,some (.ref q)]) (qdo (K:=K) (SqL.of e2)) (qal (by rw [Ab]; lia)) ⟨none,rfl⟩ (λv σ' H' RR' hv sm s4 qq => ?_) qc2 λp5 hp5 => ?_
  .obtain ⟨v0,rfl⟩:=s4
   obtain ⟨y,_,rfl⟩:=AS.mp hv
   have qq:=qq [some (.str y),some (.ref q)] ⟨_,rfl⟩
   dsimp only at qq
   refine ⟨_,rfl,_,rfl,_,_,rfl,.inl (SqL.of (sm _ _ e12)),rfl,qgv _,?_⟩
   rw [<- qgf] at qq
   exact qq
  have em:((kin row).map V.str).map (λv=>match v with | .str y=>V.bl ((qav r).contains y) | _=>.non)=((kin row).map λy=>(qav r).contains y).map V.bl:=by
   rw [Bf,Bf]; rfl
  rw [em]
  obtain ⟨s5,e5⟩:=alc (o:=.lst (((kin row).map λy=>(qav r).contains y).map V.bl)) hp5
  generalize upd H2 p5 _=H5 at s5 e5 |-
  have s15:=s12.trans s5
  refine ⟨p5,_,rfl,SqL.of e5,_,rfl,?_⟩
  have hp5:=s15 _ _ hp
  have hx5:=s15 _ _ hx
  have hs5:=hs.same s15
  have hl5:=s15 _ _ hl
  have lu:us.length=r.longer.length:=by rw [tl.length,Ab]
  have kk:=k H5 s15
  unfold qg1 at kk
  rw [<- any_map] at kk
  cases ea:(((kin row).map λy=>(qav r).contains y).any λb=>b) with
  | true =>
   rw [ea,Bool.true_or] at kk
   exact qct kk
  | false =>
   rw [ea,Bool.false_or] at kk
   refine qbo ?_
   cases row with
   | term=>cases nt
   | ends x k'=>exact ⟨_,rfl,_,_,_,_,rfl,rfl,SqL.of (hp5),rfl,rfl,_,rfl,qax (by decide +kernel) ⟨_,rfl,_,_,_,_,rfl,rfl,SqL.of (hp5),rfl,rfl,_,rfl,qax (by decide +kernel) kk⟩⟩
   | anew x k'=>exact ⟨_,rfl,_,_,_,_,rfl,rfl,SqL.of (hp5),rfl,rfl,_,rfl,qax (by decide +kernel) ⟨_,rfl,_,_,_,_,rfl,rfl,SqL.of (hp5),rfl,rfl,_,rfl,qax (by decide +kernel) kk⟩⟩
   | yields x k'=>exact ⟨_,rfl,_,_,_,_,rfl,rfl,SqL.of (hp5),rfl,rfl,_,rfl,qax (by decide +kernel) ⟨_,rfl,_,_,_,_,rfl,rfl,SqL.of (hp5),rfl,rfl,_,rfl,qax (by decide +kernel) kk⟩⟩
   | longer x k' u t =>
    refine ⟨_,rfl,_,_,_,_,rfl,rfl,SqL.of (hp5),rfl,rfl,_,rfl,qax (by decide +kernel) ⟨_,rfl,_,_,_,_,rfl,rfl,SqL.of (hp5),rfl,rfl,_,rfl,qe2 rfl ⟨_,rfl,_,_,_,_,_,rfl,hx5,T.c_Rule,ze T.n_Rule (by decide),rfl,_,_,rfl,.inl ⟨_,SqL.of hl5,rfl⟩,rfl,?_⟩⟩⟩
    show Q (.bl (decide (V.int (us.length:Int)=V.int 2))) H5
    have e:decide (V.int (us.length:Int)=V.int 2)=decide (r.longer.length=2):=decide_eq_decide.mpr ⟨λz=>by have:=V.int.inj z; lia,λz=>by rw [lu,z]; rfl⟩
    rw [e]
    exact kk
   | still x k' l' =>
    refine ⟨_,rfl,_,_,_,_,rfl,rfl,SqL.of (hp5),rfl,rfl,_,rfl,qe2 rfl ?_⟩
    cases es:r.still with
    | some sv =>
     rw [es] at hs5
     obtain ⟨ps,rfl,hps⟩:=hs5
     refine ⟨_,rfl,_,_,_,_,_,rfl,hx5,T.c_Rule,ze T.n_Rule (by decide),rfl,rfl,_,rfl,qe7 (λz=>nomatch z) ?_⟩
     unfold qoj at kk
     rw [es] at kk
     exact kk
    | none =>
     rw [es] at hs5
     cases hs5
     refine ⟨_,rfl,_,_,_,_,_,rfl,hx5,T.c_Rule,ze T.n_Rule (by decide),rfl,rfl,_,rfl,qdl rfl ⟨_,rfl,_,_,_,_,rfl,rfl,SqL.of (hp5),rfl,_,rfl,_,_,_,_,rfl,rfl,SqL.of (hp5),rfl,rfl,?_⟩⟩
     unfold qoj at kk
     rw [es] at kk
     have e:decide (V.str k'=V.str l')=decide (k'=l'):=decide_eq_decide.mpr ⟨λz=>V.str.inj z,λz=>by rw [z]⟩
     show Q (.bl (decide (V.str k'=V.str l'))) H5
     rw [e]
     exact kk
theorem qqc (T:Txt K mg a):FnOk P w K mg base (CX1 P w) 3 a.fReadMore a.gReadMore ["rule", "at", "row"] (spMo a):=by
 refine okX T.dReadMore.fn qpr (λvs H Q E h => ?_) (λcdv A outer s H vs Q E hr h => ?_)
 .obtain ⟨_,_,_,_,_,rfl,_⟩:=h
  all_goals rfl
 .obtain ⟨A,r,i,p,row,rfl,ru,nd,l1,l2,l3,hp,nt,k,kx⟩:=h
  refine ⟨_,(qp (zm (zp (zn (qs4 T) (hr.mono (by decide)) rfl T.dIsUnfit.mgx T.dIsUnfit.fn.kp T.dIsUnfit.bd .nil qau (qj (pv 0) (qj (pv 2) qt qm) qm))) (qz (qdg rfl (Takes.at qbl) (qd7 T.x_Unfit.xc T.dUnfitInit.ty (qgn T) (hr.mono (by decide)) rfl T.m_Unfit T.x_Unfit.kp T.dUnfitInit.bd .nil qau (qj (pv 1) qt qm)))) qag)
   (qz (zm (zg qay (zz jb (pv 2) qu (λ_ _=>rfl)) zq (qad _)) (qz (zk (qcb A9 AE AF qa0 (qba (pv 0) rfl) (qj (zz jb (pv 2) qu (λ_ _=>rfl)) qt zx)))) (qz (zm (zg qay (zz jb (pv 2) qu (λ_ _=>rfl)) zq (qad _)) (qz (zk (qcb A9 AE AF qa0 (qba (pv 0) rfl) (qj (zz jb (pv 2) qu (λ_ _=>rfl)) qt zx)))) (qz (zm (zg qay (zz jb (pv 2) qu (λ_ _=>rfl)) zq (qad _)) (qz (zk (qcb A9 AE AF qa0 (qba (pv 0) rfl) (qj (zt (qj (zz jb (pv 2) qu (λ_ _=>rfl)) (qj (zz jb (pv 2) qu (λ_ _=>rfl)) (qj (zz jb (pv 2) qu (λ_ _=>rfl)) qt zx) zx) zx)) qt zy)))) (qz (zm (zg qay (zz jb (pv 2) qu (λ_ _=>rfl)) zq (qad _)) (qz (qda (pv 0) (zt (qj (zz jb (pv 2) qu (λ_ _=>rfl)) (qj (zz jb (pv 2) qu (λ_ _=>rfl)) qt zx) zx)) rfl)) qag))))))))),?_⟩
  have ru0:=ru
  refine ⟨_,rfl,_,rfl,A,r,p,row,rfl,ru0,l1,l2,l3,hp,nt,λH1 s1=>⟨_,rfl,?_⟩⟩
  cases eu:qg1 r row with
  | true=>exact qct ⟨_,rfl,qal (show 1 <= 100000 by decide),λx1 n1=>⟨x1,a.cUnfit,_,_,rfl,zb,T.x_Unfit,ze T.n_Unfit (by decide),λd1 H9 hd1 kp o1 od1=>⟨rfl,x1,_,some d1,rfl,o1,⟨_,od1⟩,T.r_Unfit,kx eu x1 d1 _ (qaj ((s1).trans (qbh n1 kp)) ((s1).free n1)) zb ((zf (λz=>by rw [z,zb] at hd1; cases hd1)).trans od1)⟩⟩⟩
  | false =>
   refine qbo ?_
   obtain ⟨v,us,hx,hs,he,ha,hl,tl,hy⟩:=ru0.same s1
   have hp:=s1 _ _ hp
   have ks:=KeepT.of (S:=own A) s1
   have lu:us.length=r.longer.length:=by rw [tl.length,Ab]
   simp only [own,Bb,Ao,At,or_false,not_or] at nd
   obtain ⟨⟨d1,d2,d3,d4⟩,⟨d5,d6,d7⟩,⟨d8,d9⟩,d10,_⟩:=nd
   cases row with
   | term=>cases nt
   | ends x k' =>
    refine ⟨_,rfl,_,_,_,_,rfl,rfl,SqL.of (hp),rfl,rfl,_,rfl,qe2 rfl ⟨_,rfl,_,_,_,_,_,rfl,hx,T.c_Rule,ze T.n_Rule (by decide),rfl,.inl ⟨rfl,_,SqL.of he⟩,_,rfl,_,_,_,_,rfl,rfl,SqL.of (hp),rfl,_,_,_,rfl,rfl,he,qb6 (by rw [Ab]; lia),?_⟩⟩
    have kt:=KeepT.put (o':=.lst (r.ends.map V.str ++ [V.str k'])) (show A.pe ∈ own A by simp [own]) he (λ_ z=>nomatch z)
    exact k eu _ (ks.trans kt) ⟨v,us,(zf d1).trans hx,hs.keep kt,by rw [zb]; show _=some (HO.lst ((r.ends ++ [k']).map V.str)); rw [Ar]; rfl,(zf (AX d5)).trans ha,(zf (AX d6)).trans hl,qbs tl kt,(zf (AX d7)).trans hy⟩
   | anew x k' =>
    refine ⟨_,rfl,_,_,_,_,rfl,rfl,SqL.of (hp),rfl,rfl,_,rfl,qax (by decide +kernel) ⟨_,rfl,_,_,_,_,rfl,rfl,SqL.of (hp),rfl,rfl,_,rfl,qe2 rfl ⟨_,rfl,_,_,_,_,_,rfl,hx,T.c_Rule,ze T.n_Rule (by decide),rfl,.inl ⟨rfl,_,SqL.of ha⟩,_,rfl,_,_,_,_,rfl,rfl,SqL.of (hp),rfl,_,_,_,rfl,rfl,ha,qb6 (by rw [Ab]; lia),?_⟩⟩⟩
    have kt:=KeepT.put (o':=.lst (r.anew.map V.str ++ [V.str k'])) (show A.pa ∈ own A by simp [own]) ha (λ_ z=>nomatch z)
    exact k eu _ (ks.trans kt) ⟨v,us,(zf d2).trans hx,hs.keep kt,(zf d5).trans he,by rw [zb]; show _=some (HO.lst ((r.anew ++ [k']).map V.str)); rw [Ar]; rfl,(zf (AX d8)).trans hl,qbs tl kt,(zf (AX d9)).trans hy⟩
   | longer x k' u t =>
    refine ⟨_,rfl,_,_,_,_,rfl,rfl,SqL.of (hp),rfl,rfl,_,rfl,qax (by decide +kernel) ⟨_,rfl,_,_,_,_,rfl,rfl,SqL.of (hp),rfl,rfl,_,rfl,qax (by decide +kernel) ⟨_,rfl,_,_,_,_,rfl,rfl,SqL.of (hp),rfl,rfl,_,rfl,qe2 rfl ⟨_,rfl,_,_,_,_,_,rfl,hx,T.c_Rule,ze T.n_Rule (by decide),rfl,.inl ⟨rfl,_,SqL.of hl⟩,_,rfl,_,_,_,_,rfl,rfl,SqL.of (hp),rfl,_,rfl,_,_,_,_,rfl,rfl,SqL.of (hp),rfl,_,rfl,_,_,_,_,rfl,rfl,SqL.of (hp),rfl,qki _ _ _,λq2 n2 => ?_⟩⟩⟩⟩
    obtain ⟨s2,e2⟩:=alc (o:=.tup [V.str k',V.int u,V.int t]) n2
    generalize upd H1 q2 _=H2 at s2 e2 |-
    have hl2:=s2 _ _ hl
    refine ⟨_,_,_,rfl,rfl,hl2,qb6 (by lia),?_⟩
    have kt:=KeepT.put (o':=.lst (us ++ [V.ref q2])) (show A.pl ∈ own A by simp [own]) hl2 (λ_ z=>nomatch z)
    have k2:=KeepT.of (S:=own A) s2
    refine k eu _ (ks.trans (k2.trans kt)) ⟨v,us ++ [.ref q2],(zf d3).trans (s2 _ _ hx),hs.keep (k2.trans kt),(zf d6).trans (s2 _ _ he),(zf d8).trans (s2 _ _ ha),zb,?_,(zf (AX d10)).trans (s2 _ _ hy)⟩
    show Tups _ _ ((r.longer ++ [(k',u,t)]).map qpu)
    rw [Ar]
    exact qbs ((tl.same s2).snoc e2) kt
   | still x k' l' =>
    refine ⟨_,rfl,_,_,_,_,rfl,rfl,SqL.of (hp),rfl,rfl,_,rfl,qax (by decide +kernel) ⟨_,rfl,_,_,_,_,rfl,rfl,SqL.of (hp),rfl,rfl,_,rfl,qax (by decide +kernel) ⟨_,rfl,_,_,_,_,rfl,rfl,SqL.of (hp),rfl,rfl,_,rfl,qax (by decide +kernel) ⟨_,rfl,_,_,_,_,rfl,rfl,SqL.of (hp),rfl,rfl,_,rfl,qe2 rfl ⟨_,rfl,_,_,_,_,rfl,rfl,SqL.of (hp),rfl,_,rfl,_,_,_,_,rfl,rfl,SqL.of (hp),rfl,fit2 _ _,λq2 n2 => ?_⟩⟩⟩⟩⟩
    obtain ⟨s2,e2⟩:=alc (o:=.tup [V.str k',V.str l']) n2
    generalize upd H1 q2 _=H2 at s2 e2 |-
    have hx2:=s2 _ _ hx
    refine ⟨_,rfl,_,_,_,_,rfl,hx2,T.c_Rule,ze T.n_Rule (by decide),(show 12 < 1000 by decide),?_⟩
    rw [show qcs (Aa "still") (.ref q2) (rlR A r v)=rlR A (qc5 r (.still x k' l')) (.ref q2) by with_unfolding_all rfl]
    have kt:=KeepT.put (o':=.ins a.cRule A.dx (rlR A (qc5 r (.still x k' l')) (.ref q2))) (show A.p ∈ own A by simp [own]) hx2 (λ_ z=>nomatch z)
    have k2:=KeepT.of (S:=own A) s2
    exact k eu _ (ks.trans (k2.trans kt)) ⟨.ref q2,us,zb,⟨q2,rfl,kt _ _ (.inr ⟨_,rfl⟩) e2⟩,(zf (AX d1)).trans (s2 _ _ he),(zf (AX d2)).trans (s2 _ _ ha),(zf (AX d3)).trans (s2 _ _ hl),qbs (tl.same s2) kt,(zf (AX d4)).trans (s2 _ _ hy)⟩
   | yields x k' =>
    exact ⟨_,rfl,_,_,_,_,rfl,rfl,SqL.of (hp),rfl,rfl,_,rfl,qax (by decide +kernel) ⟨_,rfl,_,_,_,_,rfl,rfl,SqL.of (hp),rfl,rfl,_,rfl,qax (by decide +kernel) ⟨_,rfl,_,_,_,_,rfl,rfl,SqL.of (hp),rfl,rfl,_,rfl,qax (by decide +kernel) ⟨_,rfl,_,_,_,_,rfl,rfl,SqL.of (hp),rfl,rfl,_,rfl,qax (by decide +kernel) (k eu _ ks (ru0.same s1))⟩⟩⟩⟩
theorem qs5 (T:Txt K mg a):FnOk P w K mg base (CX1 P w) 4 a.fReadRow a.gReadRow ["told", "at", "row"] (spRo a):=by
 refine okX T.dReadRow.fn qsn (λvs H Q E h => ?_) (λcdv A outer s H vs Q E hr h => ?_)
 .obtain ⟨_,_,_,_,_,_,rfl,_⟩:=h
  all_goals rfl
 .obtain ⟨d,p,i,rs,As,row,rfl,st,l6,bn,hp,k,kx⟩:=h
  refine ⟨_,(qz (zm (zg qay (zz jb (pv 2) qu (λ_ _=>rfl)) zq (qad _)) (qz (zk (qdz (qqb T) (hr.mono (by decide)) rfl T.dReadTerm.mgx T.dReadTerm.fn.kp T.dReadTerm.bd .nil (Takes.at qbl) (qj (pv 0) (qj (pv 1) (qj (pv 2) qt qm) qm) qm)))) (qz (zm (qmq (qif (qfw hr) (zz jb (pv 2) qu (λ_ _=>rfl)) (pv 0))) (qz (qdg rfl (Takes.at qbl) (qd7 T.x_NoTerm.xc T.dNoTermInit.ty (qfn T) (hr.mono (by decide)) rfl T.m_NoTerm T.x_NoTerm.kp T.dNoTermInit.bd .nil qau (qj (zz jb (pv 2) qu (λ_ _=>rfl)) qt zx)))) (qz (zk (qdz (qqc T) (hr.mono (by decide)) rfl T.dReadMore.mgx T.dReadMore.fn.kp T.dReadMore.bd .nil (Takes.at qbl) (qj (qji (qfw hr) (pv 0) (zz jb (pv 2) qu (λ_ _=>rfl)) (λ_ _=>rfl)) (qj (pv 1) (qj (pv 2) qt qm) qm) zx)))))))),?_⟩
  cases ht:isT row with
  | true =>
   cases row with
   | term x w1 o dd y m u=>exact ⟨_,rfl,_,_,_,_,rfl,rfl,SqL.of (hp),rfl,rfl,_,rfl,qe2 rfl ⟨_,rfl,_,rfl,_,rfl,d,p,i,rs,As,x,w1,o,dd,y,m,u,rfl,st,l6,hp,k,kx⟩⟩
   | ends=>cases ht
   | anew=>cases ht
   | longer=>cases ht
   | still=>cases ht
   | yields=>cases ht
  | false =>
   have e0:∃ z,atI (qco row) 0=some (.str z)/\z ≠ wS "term" := by
    cases row with
    | term=>cases ht
    | ends=>exact ⟨_,rfl,by decide +kernel⟩
    | anew=>exact ⟨_,rfl,by decide +kernel⟩
    | longer=>exact ⟨_,rfl,by decide +kernel⟩
    | still=>exact ⟨_,rfl,by decide +kernel⟩
    | yields=>exact ⟨_,rfl,by decide +kernel⟩
   have e1:atI (qco row) 1=some (.str (qan row)):=by cases row <;> rfl
   obtain ⟨z0,e0,nz0⟩:=e0
   rw [qdq ht] at k kx
   refine ⟨_,rfl,_,_,_,_,rfl,rfl,SqL.of (hp),e0,rfl,_,rfl,qax (λz=>nz0 (V.str.inj z)) ?_⟩
   cases pn:qar rs (qan row) with
   | none =>
    refine ⟨_,rfl,_,_,_,_,rfl,rfl,SqL.of (hp),e1,_,rfl,d,_,rfl,st.non pn,_,rfl,qct ?_⟩
    exact ⟨_,rfl,_,_,_,_,rfl,rfl,SqL.of (hp),e1,qal (show 1 <= 100000 by decide),λx1 n1=>⟨x1,a.cNoTerm,_,_,rfl,zb,T.x_NoTerm,ze T.n_NoTerm (by decide),λd1 H9 hd1 kp o1 od1=>⟨rfl,x1,_,some d1,rfl,o1,⟨_,od1⟩,T.r_NoTerm,(kx _ (qhz pn)) x1 d1 _ (qaj (((Same.refl H)).trans (qbh n1 kp)) (((Same.refl H)).free n1)) zb ((zf (λz=>by rw [z,zb] at hd1; cases hd1)).trans od1)⟩⟩⟩
   | some j =>
    obtain ⟨r,A,hr',hA,hn,ru,g⟩:=st.get pn
    have nd0:=(Bb.mp st.nd).2
    obtain ⟨b1,b2,b3,b4⟩:=bn r (Ap hr')
    refine ⟨_,rfl,_,_,_,_,rfl,rfl,SqL.of (hp),e1,_,rfl,d,_,rfl,g,_,rfl,qbo ?_⟩
    refine ⟨_,rfl,_,rfl,_,_,_,_,rfl,rfl,SqL.of (hp),e1,d,_,rfl,g,_,rfl,_,rfl,A,r,i,p,row,rfl,ru,qu6 nd0 hA,b1,b2,b3,hp,ht,λu H' kt ux => ?_,λu=>kx _ (qgh pn hr' u)⟩
    exact k _ (qh0 pn hr' u) H' As (kt.sub λz hz=>Au _ (qna hA z hz)) (λz hz=>.inl hz) (st.chg hr' hA kt ux (qfj r row))
theorem qk4 (T:Txt K mg a):FnOk P w K mg base (CX1 P w) 3 a.fSettleYields a.gSettleYields ["told", "rule", "at", "other"] (spSy a):=by
 refine okX T.dSettleYields.fn qkg (λvs H Q E h => ?_) (λcdv A outer s H vs Q E hr h => ?_)
 .obtain ⟨_,_,_,_,_,_,_,_,rfl,_⟩:=h
  all_goals rfl
 .obtain ⟨d,i,j,rs,As,r,A,y,rfl,st,bn,hr',hA,k,kx⟩:=h
  refine ⟨_,(qp (zm (qmq (qif (qfw hr) (pv 3) (pv 0))) (qz (qdg rfl (Takes.at qbl) (qd7 T.x_NoTerm.xc T.dNoTermInit.ty (qfn T) (hr.mono (by decide)) rfl T.m_NoTerm T.x_NoTerm.kp T.dNoTermInit.bd .nil qau (qj (pv 3) qt qm)))) qag)
   (qp (zm (PW.pt (qix (zg qay (pv 3) (qba (pv 1) rfl) (qad _)) (qix (zg qed (pv 3) (qba (pv 1) rfl) (by with_unfolding_all rfl)) (qjp (zg qte (qba (qji (qfw hr) (pv 0) (pv 3) (λ_ _=>rfl)) rfl) (qba (pv 1) rfl) (qad _)))))) (qz (qdg rfl (Takes.at qbl) (qd7 T.x_Unfit.xc T.dUnfitInit.ty (qgn T) (hr.mono (by decide)) rfl T.m_Unfit T.x_Unfit.kp T.dUnfitInit.bd .nil qau (qj (pv 2) qt qm)))) qag)
   (qz (zk (qcb A9 AE AF qa0 (qba (pv 1) rfl) (qj (pv 3) qt qm)))))),?_⟩
  obtain ⟨v,us,hx,hs,he,ha,hl,tl,hy⟩:=st.ru j r A hr' hA
  have nd0:=(Bb.mp st.nd).2
  obtain ⟨b1,b2,b3,b4⟩:=bn r (Ap hr')
  cases pn:qar rs y with
  | none =>
   refine ⟨_,rfl,_,rfl,d,_,rfl,st.non pn,_,rfl,qct ?_⟩
   exact ⟨_,rfl,qal (show 1 <= 100000 by decide),λx1 n1=>⟨x1,a.cNoTerm,_,_,rfl,zb,T.x_NoTerm,ze T.n_NoTerm (by decide),λd1 H9 hd1 kp o1 od1=>⟨rfl,x1,_,some d1,rfl,o1,⟨_,od1⟩,T.r_NoTerm,(kx _ (qkm pn)) x1 d1 _ (qaj (((Same.refl H)).trans (qbh n1 kp)) (((Same.refl H)).free n1)) zb ((zf (λz=>by rw [z,zb] at hd1; cases hd1)).trans od1)⟩⟩⟩
  | some l =>
   obtain ⟨s,B,hs',hB,hn,rs',g⟩:=st.get pn
   obtain ⟨v2,us2,hx2,_⟩:=rs'
   refine ⟨_,rfl,_,rfl,d,_,rfl,g,_,rfl,qbo ?_⟩
   refine ⟨_,rfl,_,rfl,_,_,_,_,_,rfl,hx,T.c_Rule,ze T.n_Rule (by decide),rfl,rfl,_,rfl,qb4 (λc => ?_) (λc => ?_)⟩
   .have c:=V.str.inj (of_decide_eq_true c)
    exact ⟨_,rfl,qal (show 1 <= 100000 by decide),λx1 n1=>⟨x1,a.cUnfit,_,_,rfl,zb,T.x_Unfit,ze T.n_Unfit (by decide),λd1 H9 hd1 kp o1 od1=>⟨rfl,x1,_,some d1,rfl,o1,⟨_,od1⟩,T.r_Unfit,(kx _ (qfk pn hr' hs' (.inl c))) x1 d1 _ (qaj (((Same.refl H)).trans (qbh n1 kp)) (((Same.refl H)).free n1)) zb ((zf (λz=>by rw [z,zb] at hd1; cases hd1)).trans od1)⟩⟩⟩
   have c1:¬ y=r.name:=λz=>c (decide_eq_true (congrArg V.str z))
   refine ⟨_,rfl,_,rfl,_,_,_,_,_,rfl,hx,T.c_Rule,ze T.n_Rule (by decide),rfl,_,_,rfl,.inl (SqL.of hy),rfl,qgv _,_,rfl,?_⟩
   show if inV (.str y) (r.yields.map V.str)=true then _ else _
   rw [qgf]
   refine qb4 (λc2 => ?_) (λc2 => ?_)
   .exact ⟨_,rfl,qal (show 1 <= 100000 by decide),λx1 n1=>⟨x1,a.cUnfit,_,_,rfl,zb,T.x_Unfit,ze T.n_Unfit (by decide),λd1 H9 hd1 kp o1 od1=>⟨rfl,x1,_,some d1,rfl,o1,⟨_,od1⟩,T.r_Unfit,(kx _ (qfk pn hr' hs' (.inr (.inl (Ck.mp c2))))) x1 d1 _ (qaj (((Same.refl H)).trans (qbh n1 kp)) (((Same.refl H)).free n1)) zb ((zf (λz=>by rw [z,zb] at hd1; cases hd1)).trans od1)⟩⟩⟩
   have c2:¬ y ∈ r.yields:=λz=>c2 (Ck.mpr z)
   refine ⟨_,rfl,_,rfl,d,_,rfl,g,_,_,_,_,_,rfl,hx2,T.c_Rule,ze T.n_Rule (by decide),rfl,_,rfl,_,_,_,_,_,rfl,hx,T.c_Rule,ze T.n_Rule (by decide),rfl,rfl,_,rfl,?_⟩
   show if (!decide (V.str s.owes=V.str r.owes))=true then _ else _
   by_cases c3:s.owes=r.owes
   .refine qdl (congrArg V.str c3) ?_
    refine ⟨_,rfl,_,_,_,_,_,rfl,hx,T.c_Rule,ze T.n_Rule (by decide),rfl,.inl ⟨rfl,_,SqL.of hy⟩,_,rfl,_,_,_,rfl,rfl,hy,qb6 (by rw [Ab]; lia),?_⟩
    have no:=qu6 nd0 hA
    simp only [own,Bb,Ao,At,or_false,not_or] at no
    obtain ⟨⟨d1,d2,d3,d4⟩,⟨d5,d6,d7⟩,⟨d8,d9⟩,d10,_⟩:=no
    have kt:=KeepT.put (S:=own A) (o':=.lst (r.yields.map V.str ++ [V.str y])) (show A.py ∈ own A by simp [own]) hy (λ_ z=>nomatch z)
    refine k _ (qhe pn hr' hs' λz=>z.elim c1 λz=>z.elim c2 λz=>z c3) _ (kt.sub λz hz=>Au _ (qna hA z hz)) (st.chg hr' hA kt ⟨v,us,(zf d4).trans hx,hs.keep kt,(zf d7).trans he,(zf d9).trans ha,(zf d10).trans hl,qbs tl kt,?_⟩ rfl)
    rw [zb]
    show _=some (HO.lst ((r.yields ++ [y]).map V.str))
    rw [Ar]; rfl
   .refine qe7 (λz=>c3 (V.str.inj z)) ?_
    exact ⟨_,rfl,qal (show 1 <= 100000 by decide),λx1 n1=>⟨x1,a.cUnfit,_,_,rfl,zb,T.x_Unfit,ze T.n_Unfit (by decide),λd1 H9 hd1 kp o1 od1=>⟨rfl,x1,_,some d1,rfl,o1,⟨_,od1⟩,T.r_Unfit,(kx _ (qfk pn hr' hs' (.inr (.inr c3)))) x1 d1 _ (qaj (((Same.refl H)).trans (qbh n1 kp)) (((Same.refl H)).free n1)) zb ((zf (λz=>by rw [z,zb] at hd1; cases hd1)).trans od1)⟩⟩⟩
theorem qlh (T:Txt K mg a):FnOk P w K mg base (CX1 P w) 4 a.fSettleNames a.gSettleNames ["told", "at", "row"] (spSn a):=by
 refine okX T.dSettleNames.fn qg3 (λvs H Q E h => ?_) (λcdv A outer s H vs Q E hr h => ?_)
 .obtain ⟨_,_,_,_,_,_,rfl,_⟩:=h
  all_goals rfl
 .obtain ⟨d,p,i,rs,As,row,rfl,st,bn,hp,hs,k,kx⟩:=h
  refine ⟨_,(qp (zh (i:=3) qg3.nd rfl (Aw rfl) (qji (qfw hr) (pv 0) (zz jb (pv 2) qu (λ_ _=>rfl)) (λ_ _=>rfl)))
   (qp (zm (PW.pt (qd3 (zg qay (zz jb (pv 2) qu (λ_ _=>rfl)) zq (qad _)) (qd3 (zg qdd (qba (pv 3) rfl) qbk (qad _)) (qdt (qmq (qif (qfw hr) (qba (pv 3) rfl) (pv 0))))))) (qz (qdg rfl (Takes.at qbl) (qd7 T.x_NoTerm.xc T.dNoTermInit.ty (qfn T) (hr.mono (by decide)) rfl T.m_NoTerm T.x_NoTerm.kp T.dNoTermInit.bd .nil qau (qj (qba (pv 3) rfl) qt qci)))) qag)
   (qz (zm (zg qay (zz jb (pv 2) qu (λ_ _=>rfl)) zq (qad _)) (qz (zk (qdz (qk4 T) (hr.mono (by decide)) rfl T.dSettleYields.mgx T.dSettleYields.fn.kp T.dSettleYields.bd .nil (Takes.at qbl) (qj (pv 0) (qj (pv 3) (qj (pv 1) (qj (zz jb (pv 2) qu (λ_ _=>rfl)) qt zx) qm) qm) qm)))) qag)))),?_⟩
  have e1:atI (qco row) 1=some (.str (qan row)):=by cases row <;> rfl
  cases pn:qar rs (qan row) with
  | none=>rw [pn] at hs; cases hs
  | some j =>
   obtain ⟨r,A,hr',hA,hn,ru,g⟩:=st.get pn
   obtain ⟨v,us,hx,_⟩:=id ru
   refine ⟨_,rfl,_,rfl,_,_,_,_,rfl,rfl,SqL.of (hp),e1,d,_,rfl,g,?_⟩
   dsimp only []
   have kr:=KeepT.of (S:=d :: As.flatMap own) (Same.refl H)
   cases row with
   | term x w1 o dd y m u =>
    have e:=qh1 (x:=x) (i:=i) (w:=w1) (o:=o) (d:=dd) (y:=y) (m:=m) (u:=u) pn hr'
    rw [e] at k kx
    refine ⟨_,rfl,_,_,_,_,rfl,rfl,SqL.of (hp),rfl,rfl,_,rfl,qe2 rfl ?_⟩
    cases eb:r.base with
    | none =>
     rw [eb] at k
     refine ⟨_,rfl,_,_,_,_,_,rfl,hx,T.c_Rule,ze T.n_Rule (by decide),rfl,rfl,_,rfl,qdl (by rw [eb]; rfl) (qbo ⟨_,rfl,_,_,_,_,rfl,rfl,SqL.of (hp),rfl,rfl,_,rfl,qax (by decide +kernel) (k _ rfl H kr st)⟩)⟩
    | some z =>
     rw [eb] at k kx
     dsimp only at k kx
     refine ⟨_,rfl,_,_,_,_,_,rfl,hx,T.c_Rule,ze T.n_Rule (by decide),rfl,rfl,_,rfl,qe7 (λz=>by rw [eb] at z; cases z) ?_⟩
     cases pz:qar rs z with
     | none =>
      have g2:DGet H d (qd1 r.base) none:=by rw [eb]; exact st.non pz
      refine ⟨_,rfl,_,_,_,_,_,rfl,hx,T.c_Rule,ze T.n_Rule (by decide),rfl,_,rfl,d,_,rfl,g2,_,rfl,qct ?_⟩
      have kz:∀ (x d:Addr) (H':Hp),Same H H'->H' x=some (exO x a.cNoTerm (some d) false)->H' d=some (exD d [("name",qd1 r.base)])->E (.ref x) (some d) H':=by
       rw [eb]
       exact kx (.term z) (by rw [pz]; rfl)
      exact ⟨_,rfl,_,_,_,_,_,rfl,hx,T.c_Rule,ze T.n_Rule (by decide),rfl,qal (show 1 <= 100000 by decide),λx1 n1=>⟨x1,a.cNoTerm,_,_,rfl,zb,T.x_NoTerm,ze T.n_NoTerm (by decide),λd1 H9 hd1 kp o1 od1=>⟨rfl,x1,_,some d1,rfl,o1,⟨_,od1⟩,T.r_NoTerm,kz x1 d1 _ (qaj (((Same.refl H)).trans (qbh n1 kp)) (((Same.refl H)).free n1)) zb ((zf (λz=>by rw [z,zb] at hd1; cases hd1)).trans od1)⟩⟩⟩
     | some jz =>
      obtain ⟨_,B2,_,_,_,_,g2⟩:=st.get pz
      have g2:DGet H d (qd1 r.base) (some (.ref B2.p)):=by rw [eb]; exact g2
      refine ⟨_,rfl,_,_,_,_,_,rfl,hx,T.c_Rule,ze T.n_Rule (by decide),rfl,_,rfl,d,_,rfl,g2,_,rfl,qbo ⟨_,rfl,_,_,_,_,rfl,rfl,SqL.of (hp),rfl,rfl,_,rfl,qax (by decide +kernel) (k _ (by rw [pz]; rfl) H kr st)⟩⟩
   | yields x y =>
    rw [qkn (x:=x) pn] at k kx
    refine ⟨_,rfl,_,_,_,_,rfl,rfl,SqL.of (hp),rfl,rfl,_,rfl,qax (by decide +kernel) (qbo ⟨_,rfl,_,_,_,_,rfl,rfl,SqL.of (hp),rfl,rfl,_,rfl,qe2 rfl ?_⟩)⟩
    exact ⟨_,rfl,_,rfl,_,rfl,_,rfl,_,_,_,_,rfl,rfl,SqL.of (hp),rfl,d,i,j,rs,As,r,A,y,rfl,st,bn,hr',hA,k,kx⟩
   | ends x y =>
    exact ⟨_,rfl,_,_,_,_,rfl,rfl,SqL.of (hp),rfl,rfl,_,rfl,qax (by decide +kernel) (qbo ⟨_,rfl,_,_,_,_,rfl,rfl,SqL.of (hp),rfl,rfl,_,rfl,qax (by decide +kernel) (k _ rfl H kr st)⟩)⟩
   | anew x y =>
    exact ⟨_,rfl,_,_,_,_,rfl,rfl,SqL.of (hp),rfl,rfl,_,rfl,qax (by decide +kernel) (qbo ⟨_,rfl,_,_,_,_,rfl,rfl,SqL.of (hp),rfl,rfl,_,rfl,qax (by decide +kernel) (k _ rfl H kr st)⟩)⟩
   | longer x y u t =>
    exact ⟨_,rfl,_,_,_,_,rfl,rfl,SqL.of (hp),rfl,rfl,_,rfl,qax (by decide +kernel) (qbo ⟨_,rfl,_,_,_,_,rfl,rfl,SqL.of (hp),rfl,rfl,_,rfl,qax (by decide +kernel) (k _ rfl H kr st)⟩)⟩
   | still x y z =>
    exact ⟨_,rfl,_,_,_,_,rfl,rfl,SqL.of (hp),rfl,rfl,_,rfl,qax (by decide +kernel) (qbo ⟨_,rfl,_,_,_,_,rfl,rfl,SqL.of (hp),rfl,rfl,_,rfl,qax (by decide +kernel) (k _ rfl H kr st)⟩)⟩
theorem qng (T:Txt K mg a):FnOk P w K mg base CX0 1 a.fNoRuleInit a.gNoRuleInit ["self", "at"] (qw3 K "at"):=by
 refine T.dNoRuleInit.fn.ok qm4 (λvs H Q E h => ?_) (λcdv A outer s H vs Q E hr h => ?_)
 .obtain ⟨_,_,_,_,rfl,_⟩:=h
  all_goals rfl
 .obtain ⟨x,C,y,ini,rfl,hx,xa,no,k⟩:=h
  refine ⟨_,(qp (zk (qf5 T.b_CourtError rfl T.m_CourtError (qj (pv 0) (qj (pv 1) qt qm) qm)))
   (qz (qho (pv 0) (pv 1) rfl))),?_⟩
  refine ⟨_,rfl,_,rfl,x,C,none,[y],ini,rfl,hx,xa.xc,qal (show 1 <= 100000 by decide),?_⟩
  refine ⟨_,rfl,_,rfl,x,C,true,rfl,xa.set no,.inl ⟨hx,λdx hd => ?_⟩⟩
  have ne:dx ≠ x:=λz=>by rw [z,hx] at hd; cases hd
  exact k dx _ hd (λb o hb e=>by rw [zf hb,zf (qae e hd)]; exact e) zb (by rw [zf ne]; exact zb)
theorem qk5 (T:Txt K mg a):FnOk P w K mg base (CX1 P w) 7 a.fReadBook a.gReadBook ["text"] (spBkG a):=by
 refine okX T.dReadBook.fn qcw (λvs H Q E h => ?_) (λcdv A outer s H vs Q E hr h => ?_)
 .obtain ⟨_,rfl,_⟩:=h
  all_goals rfl
 .obtain ⟨ls,rfl,hls,k,kx⟩:=h
  refine ⟨_,(qp (zh (i:=1) qcw.nd rfl (Aw rfl) qjw)
   (qp (zh (i:=2) qcw.nd rfl (Aw rfl) (zr qt))
   (qp (qcn BE.leaving rfl (qq3 rfl T.n_enumerate (qj (zn (qs1 T) (hr.mono (by decide)) rfl T.dLinesOf.mgx T.dLinesOf.fn.kp T.dLinesOf.bd .nil qau (qj (pv 0) qt qm)) qt zu)) (qie rfl (qbn (qak (i:=3) qcw.nd rfl (Aw rfl)) (qbn (qak (i:=4) qcw.nd rfl (Aw rfl)) qgo))) (qp (zh (i:=5) qcw.nd rfl (Aw rfl) (zn (qxo T) (hr.mono (by decide)) rfl T.dRowOf.mgx T.dRowOf.fn.kp T.dRowOf.bd .nil qau (qj (pv 4) qt qm)))
   (qp (zm (PW.pt (qix (zg qay (pv 3) (qbj (v:=.int 40) rfl T.g_MOST_ROWS.choose_spec ⟨_,rfl⟩) (qad _)) (qjp (zg qyb (pv 5) qbk (qad _))))) (qz (qdg rfl (Takes.at qbl) (qd7 T.x_NoRule.xc T.dNoRuleInit.ty (qng T) (hr.mono (by decide)) rfl T.m_NoRule T.x_NoRule.kp T.dNoRuleInit.bd .nil qau (qj (pv 3) qt qm)))) qag)
   (qp (zk (qdz (qs5 T) (hr.mono (by decide)) rfl T.dReadRow.mgx T.dReadRow.fn.kp T.dReadRow.bd .nil (Takes.at qbl) (qj (pv 1) (qj (pv 3) (qj (pv 5) qt qm) qm) qm)))
   (qz (zk (qcb A9 AE AF qa0 (pv 2) (qj (pv 5) qt qm))))))))
   (qp (qcn BE.leaving rfl (qq3 rfl T.n_enumerate (qj (pv 2) qt qm)) (qie rfl (qbn (qak (i:=3) qcw.nd rfl (Aw rfl)) (qbn (qak (i:=5) qcw.nd rfl (Aw rfl)) qgo))) (qz (zk (qdz (qlh T) (hr.mono (by decide)) rfl T.dSettleNames.mgx T.dSettleNames.fn.kp T.dSettleNames.bd .nil (Takes.at qbl) (qj (pv 1) (qj (pv 3) (qj (pv 5) qt qm) qm) qm)))))
   (qz (zd (qt8 T.k_Book (qp9 T) (hr.mono (by decide)) rfl T.m_Book T.dBookInit.bd .nil (Takes.at qbl) (qj (qob rfl (by rfl) T.n_list qef (pv 1)) qt zu)))))))),?_⟩
  refine λd hd => ?_
  obtain ⟨s0,h0⟩:=alc (o:=.dK []) hd
  generalize upd H d _=H0 at s0 h0 |-
  refine ⟨qe3,λq hq => ?_⟩
  obtain ⟨s1,h1⟩:=alc (o:=.lst []) hq
  have hd1:=s1 _ _ h0
  generalize upd H0 q _=H1 at s1 h1 hd1 |-
  have dq:d ≠ q:=λz=>by rw [<- z,h0] at hq; cases hq
  have s01:=s0.trans s1
  have nqH:=s0.free hq
  refine ⟨_,rfl,ls,rfl,hls,λql H2 nql s2 e2 => ?_⟩
  have ndl:ql ≠ d:=λz=>by rw [z,hd1] at nql; cases nql
  have nlq:ql ≠ q:=λz=>by rw [z,h1] at nql; cases nql
  have b0:RB a H H2 d q ql ls 0 [] [] [] []:=⟨s01.trans s2,e2,⟨s2 _ _ hd1,rfl,by simp,by simp,(λi r A h=>by cases h)⟩,s2 _ _ h1,rfl,(λj y e=>by cases e),rfl,rfl,(λr hr=>by cases hr),by decide,(λr hr=>by cases hr),(λr hr=>by cases hr),by simp [AX dq],by simp [ndl],nlq,λz hz=>by
   simp only [List.flatMap_nil,Ao,At,or_false] at hz
   rcases hz with rfl | rfl
   .exact nqH
   .exact hd⟩
  have lo:(qh2 ls).length=ls.length:=by unfold qh2; rw [Ab]
  have hn:=hls.n
  refine ⟨_,_,rfl,e2,qn8 (K:=K) (a:=ql) (xs:=ls.map V.str) (λi σ H'=>(∃ rs As rv rows,RB a H H' d q ql ls i rs As rv rows)/\∃ v3 v4 v5:Option V,σ=[some (.str (qew ls)),some (.ref d),some (.ref q),v3,v4,v5]) ⟨⟨_,_,_,_,b0⟩,none,none,none,rfl⟩ (λi σ H' _ h=>by obtain ⟨⟨_,_,_,_,b⟩,_⟩:=h; exact SqL.of b.hl) ?_ ?_⟩
  .rintro i v t0 σ H' hv ⟨⟨rs,As,rv,rows,b⟩,v3,v4,v5,rfl⟩ ht0
   rw [Ak] at hv
   cases el:ls[i]? with
   | none=>rw [el] at hv; cases hv
   | some l =>
   rw [el] at hv
   cases hv
   have hi:i < ls.length:=(Ae.mp el).1
   obtain ⟨ll,_⟩:=hls.c l (Ap el)
   have hop:(qh2 ls)[i]?=some (opR l):=by unfold qh2; rw [Ak,el]; rfl
   obtain ⟨ra,_⟩:=qi4 b.rd hop
   obtain ⟨st,et⟩:=alc (o:=.tup [V.int i,V.str l]) ht0
   generalize upd H' t0 _=J0 at st et |-
   refine ⟨_,_,rfl,SqT.of et,rfl,_,_,rfl,_,_,rfl,rfl,?_⟩
   have rv':=rowV_R (BY l (wS " "))
   have er:∀ {e:Er},qai [] 0 (qh2 ls)=.error e->qfa ls=.error e:=λh=>by unfold qfa; rw [h]
   refine ⟨_,rfl,l,rfl,(by show l.cps.size <= 1000; lia),λqr J1 us nqr sr erow eqr => ?_,λerow J1 sr => ?_⟩
   .have b1:=(b.same st).same sr
    cases eo:opR l with
    | none=>unfold opR at eo; rw [eo] at rv'; rw [erow] at rv'; cases rv'
    | some row =>
    have eu:us=qco row:=by unfold opR at eo; rw [eo] at rv'; rw [erow] at rv'; exact AG rv'
    subst eu
    rw [eo] at hop ra
    refine ⟨_,rfl,rfl,_,rfl,qb4 (λc => ?_) (λc => ?_)⟩
    .have c:(i:Int)=40:=V.int.inj (of_decide_eq_true c)
     exact ⟨_,rfl,qal (show 1 <= 100000 by decide),λx1 n1=>⟨x1,a.cNoRule,_,_,rfl,zb,T.x_NoRule,ze T.n_NoRule (by decide),λd1 H9 hd1 kp o1 od1=>⟨rfl,x1,_,some d1,rfl,o1,⟨_,od1⟩,T.r_NoRule,(kx _ (er (ra.trans (qi5 (by lia) _ _)))) x1 d1 _ (qaj (((b.sm.trans (st.trans sr))).trans (qbh n1 kp)) (((b.sm.trans (st.trans sr))).free n1)) zb ((zf (λz=>by rw [z,zb] at hd1; cases hd1)).trans od1)⟩⟩⟩
    have n40:i ≠ 40:=λz=>c (decide_eq_true (by rw [z]; rfl))
    refine ⟨_,rfl,rfl,_,rfl,qax (λz=>nomatch z) ?_⟩
    have qrn:qr ∉ d :: As.flatMap own:=λz=>(b.same st).st.inn qr z nqr
    have qrq:qr ≠ q:=λz=>by rw [z,(b.same st).hq] at nqr; cases nqr
    refine ⟨_,rfl,_,rfl,_,rfl,d,qr,i,rs,As,row,rfl,b1.st,b1.l6,(λr hr=>by obtain ⟨g1,g2,g3,g4⟩:=b1.bn r hr; exact ⟨by lia,by lia,by lia,by lia⟩),eqr,λrs' e H3 As' kt fr st' => ?_,λe h=>(kx e (er (ra.trans (qko n40 h _)))).same b1.sm⟩
    have hq3:H3 q=some (.lst rv):=kt _ _ (.inl b1.qo) b1.hq
    have rl:=b1.rl
    have lr:rows.length <= i:=by
     have:=congrArg CF b1.ro
     rw [Ab,A2] at this
     lia
    refine ⟨_,rfl,.inl ⟨rfl,_,SqL.of hq3⟩,_,rfl,_,_,_,rfl,rfl,hq3,qb6 (by lia),?_⟩
    exact ⟨⟨_,_,_,_,b1.next eqr qrn qrq hop n40 e kt fr st'⟩,_,_,_,rfl⟩
   .have eo:opR l=none:=by
     cases eo:opR l with
     | none=>rfl
     | some row=>unfold opR at eo; rw [eo] at rv'; rw [erow] at rv'; cases rv'
    rw [eo] at hop ra
    have sA:=b.sm.trans (st.trans sr)
    refine ⟨_,rfl,rfl,_,rfl,qb4 (λc => ?_) (λc => ?_)⟩
    .have c:(i:Int)=40:=V.int.inj (of_decide_eq_true c)
     exact ⟨_,rfl,qal (show 1 <= 100000 by decide),λx1 n1=>⟨x1,a.cNoRule,_,_,rfl,zb,T.x_NoRule,ze T.n_NoRule (by decide),λd1 H9 hd1 kp o1 od1=>⟨rfl,x1,_,some d1,rfl,o1,⟨_,od1⟩,T.r_NoRule,(kx _ (er (ra.trans (qi5 (by lia) _ _)))) x1 d1 _ (qaj ((sA).trans (qbh n1 kp)) ((sA).free n1)) zb ((zf (λz=>by rw [z,zb] at hd1; cases hd1)).trans od1)⟩⟩⟩
    have n40:i ≠ 40:=λz=>c (decide_eq_true (by rw [z]; rfl))
    refine ⟨_,rfl,rfl,_,rfl,qe2 rfl ?_⟩
    exact ⟨_,rfl,qal (show 1 <= 100000 by decide),λx1 n1=>⟨x1,a.cNoRule,_,_,rfl,zb,T.x_NoRule,ze T.n_NoRule (by decide),λd1 H9 hd1 kp o1 od1=>⟨rfl,x1,_,some d1,rfl,o1,⟨_,od1⟩,T.r_NoRule,(kx _ (er (ra.trans (qpw n40 _)))) x1 d1 _ (qaj ((sA).trans (qbh n1 kp)) ((sA).free n1)) zb ((zf (λz=>by rw [z,zb] at hd1; cases hd1)).trans od1)⟩⟩⟩
  .rintro σ H' ⟨⟨rs0,As,rv,rows,b⟩,v3,v4,v5,rfl⟩
   have bd:=b.rd
   have bo:=b.ro
   rw [Ab,<- lo,Bs] at bd bo
   have lr:rows.length=ls.length:=by rw [<- lo,bo,Ab]
   have rf:qfa ls=qat rs0 0 rows:=by
    unfold qfa
    rw [bd,bo]
    dsimp only
    rw [qra]
   have c0:SB a H H' d q 0 rs0 rs0 As rv rows:=⟨b.sm,b.st,b.hq,b.rl,b.rr,⟨rfl,rfl⟩,rfl,λr hr=>by obtain ⟨g1,g2,g3,g4⟩:=b.bn r hr; rw [Ab] at g1 g2 g3 g4; exact ⟨by lia,by lia,by lia,by lia⟩,b.nm,b.qo,b.fr⟩
   refine ⟨_,rfl,_,_,rfl,b.hq,qn8 (K:=K) (a:=q) (xs:=rv) (λi σ J=>(∃ rs,SB a H J d q i rs0 rs As rv rows)/\∃ v3 v4 v5:Option V,σ=[some (.str (qew ls)),some (.ref d),some (.ref q),v3,v4,v5]) ⟨⟨_,c0⟩,_,_,_,rfl⟩ (λi σ J _ h=>by obtain ⟨⟨_,b⟩,_⟩:=h; exact SqL.of b.hq) ?_ ?_⟩
   .rintro i v t0 σ J hv ⟨⟨rs,sb⟩,v3,v4,v5,rfl⟩ ht0
    have hi:i < rows.length:=by rw [<- b.rl]; exact (Ae.mp hv).1
    obtain ⟨p,row,rfl,hrow,_,_,_⟩:=sb.rr i v hv
    obtain ⟨st,et⟩:=alc (o:=.tup [V.int i,V.ref p]) ht0
    generalize upd J t0 _=J0 at st et |-
    have sb1:=sb.same st
    obtain ⟨p2,row2,e2',hrow2,hp,_,_⟩:=sb1.rr i _ hv
    cases e2'
    rw [hrow] at hrow2
    cases hrow2
    obtain ⟨sa,_⟩:=qhf sb1.se hrow
    refine ⟨_,_,rfl,SqT.of et,rfl,_,_,rfl,_,_,rfl,rfl,?_⟩
    refine ⟨_,rfl,_,rfl,_,rfl,d,p,i,rs,As,row,rfl,sb1.st,(λr hr=>by obtain ⟨g1,g2,g3,g4⟩:=sb1.bn r hr; exact ⟨by lia,by lia,by lia,by lia⟩),hp,sb1.nm row (Ap hrow),λrs' e H3 kt st' => ?_,λe h=>(kx e (rf.trans (sa.trans (qmc h _)))).same sb1.sm⟩
    exact ⟨⟨_,sb1.next hrow e kt st'⟩,_,_,_,rfl⟩
   .rintro σ J ⟨⟨rs,sb⟩,v3,v4,v5,rfl⟩
    have se:=sb.se
    rw [b.rl,Bs] at se
    have rok:=rf.trans se
    obtain ⟨kq,ko⟩:=k rs rok
    have bok:=qw8 se b.st.nn b.ht
    have l6:rs.length <= 6:=by
     have:=congrArg CF sb.sd.nm
     rw [Ab,Ab] at this
     rw [this]; exact b.l6
    refine ⟨_,rfl,d,_,rfl,sb.st.hd,λqv nqv => ?_⟩
    rw [qok sb.st.ln]
    obtain ⟨sv,ev⟩:=alc (o:=.lst (As.map λA=>V.ref A.p)) nqv
    generalize upd J qv _=J1 at sv ev |-
    refine λxb dx nx nd ne => ?_
    have keep:Same J1 (upd (upd J1 dx (.own xb)) xb (.ins a.cBook dx [])):=λb u e=>by rw [zf (qae e nx),zf (qae e nd)]; exact e
    have sAll:=sb.sm.trans sv
    have ruJ:=λi r A h1 h2=>((sb.st.ru i r A h1 h2).same sv)
    refine ⟨xb,dx,qv,rs,As,rfl,zb,keep _ _ ev,sb.st.ln,sb.st.nn,l6,bok,λi r A h1 h2=>(ruJ i r A h1 h2).same keep,λH9 os b9 bk9 ors=>⟨rfl,kq xb H9 As os (sAll.trans (b9.made nx nd)) ⟨bk9,sb.st.ln,sb.st.nn,l6,λi r A h1 h2=>(ruJ i r A h1 h2).same (b9.made nx nd),ors,bok⟩⟩,ko.same (sAll.trans keep)⟩
theorem qa7 (T:Txt K mg a):FnOk P w K mg base CX0 1 a.fLawCellAt a.gLawCellAt ["_law_script", "_law_k"] (qy1 K):=by
 refine T.dLawCellAt.fn.ok qog (λvs H Q E h => ?_) (λcdv A outer s H vs Q E hr h => ?_)
 .obtain ⟨_,_,_,rfl,_⟩:=h
  all_goals rfl
 .obtain ⟨l,ns,i,rfl,hS,h0,k⟩:=h
  refine ⟨_,(qp (zm (zg qqo (pv 1) (zo qaq (by rfl) T.n_len qap (qj (pv 0) qt qm)) (qad _)) (qz (zd (zz jb (pv 0) (pv 1) (λ_ _=>rfl)))) qag)
   (qz (zd qu))),?_⟩
  refine ⟨_,rfl,_,rfl,_,_,rfl,.inl ⟨_,hS,rfl⟩,_,_,rfl,rfl,_,rfl,?_⟩
  refine qb4 (λc => ?_) (λc => ?_)
  .exact ⟨_,rfl,_,rfl,_,_,_,_,rfl,rfl,hS,quv h0 (of_decide_eq_true c),k⟩
  .have e:cell ns i=0:=quw (λz=>c (decide_eq_true z))
   rw [e] at k; exact k
theorem qk6 (T:Txt K mg a):FnOk P w K mg base CX0 1 a.fLawWords a.gLawWords ["_law_cell", "_law_many"] spWo7:=by
 refine T.dLawWords.fn.ok qbf (λvs H Q E h => ?_) (λcdv A outer s H vs Q E hr h => ?_)
 .obtain ⟨_,_,rfl,_⟩:=h
  all_goals rfl
 .obtain ⟨c,m,rfl,hm,k⟩:=h
  refine ⟨_,(qp (zh (i:=2) qbf.nd rfl (Aw rfl) zq)
   (qp (zh (i:=3) qbf.nd rfl (Aw rfl) (zi qa1 (zi qa1 qu (zi qas (pv 0) qu)) (zi qas (zi qbe (pv 0) qu) (zi qfs qu (zi qas (pv 0) qu)))))
   (qp (zh (i:=4) qbf.nd rfl (Aw rfl) (zi qas (zi qbe (pv 0) qu) (zi qfs (pv 3) (zi qas (pv 0) qu))))
   (qp (zh (i:=5) qbf.nd rfl (Aw rfl) (zr (qj qu (qj qu (qj qu (qj qu (qj qu (qj qu (qj qu (qj qu qt zc) zc) zc) zc) zc) zc) zc) zc)))
   (qp (zh (i:=6) qbf.nd rfl (Aw rfl) zq)
   (qp (qcn B4 rfl (qck rfl T.n_range (qj (pv 3) qt qm)) (qak (i:=7) qbf.nd rfl (Aw rfl)) (qz (zh (i:=6) qbf.nd rfl (Aw rfl) (zi qaa (pv 6) (zz qtk (pv 2) (zi qas (zi qas (zi qez (pv 0) qu) (zz jb (pv 5) (pv 7) (λ_ _=>rfl))) qu) (λ_ _=>rfl))))))
   (qp (zh (i:=8) qbf.nd rfl (Aw rfl) (zr qt))
   (qp (qcn B4 rfl (qck rfl T.n_range (qj (pv 1) qt qm)) (qak (i:=7) qbf.nd rfl (Aw rfl)) (qp (zh (i:=9) qbf.nd rfl (Aw rfl) (zi qas (zi qa1 (zi qbe (pv 0) qu) (zi qbe (pv 7) (zi qa1 qu (zi qas (pv 0) qu)))) qu))
   (qp (zh (i:=10) qbf.nd rfl (Aw rfl) (zi qaa (zi qaa (qbb qpb (pv 6) qc0 (qa5 (pv 4))) (zz qtk (pv 2) (pv 9) (λ_ _=>rfl))) (qbb qpb (pv 6) (qa5 (zi qa1 (pv 4) qu)) qc0)))
   (qp (zm (PW.pt (qd3 (zg qay (zi qas (pv 0) qu) qu (qad _)) (qdt (zg qay (zi qas (pv 7) qu) qu (qad _))))) (qz (zh (i:=10) qbf.nd rfl (Aw rfl) (qbb qpb (pv 10) qc0 (qa5 (zi qa1 (pv 4) qu))))) qag)
   (qz (zk (qcb A9 AE AF qa0 (pv 8) (qj (pv 10) qt qm))))))))
   (qz (zd (pv 8))))))))))),?_⟩
  have za:=qy2
  obtain ⟨z,n,e,eS,en,ee,he,hn,hz,g1,g2⟩:=num46 c
  have m52:m <= 52:=hm.elim (λh=>A1 h (by decide)) (·.2)
  refine ⟨_,rfl,_,_,rfl,rfl,(pos (by decide)),_,_,rfl,rfl,_,rfl,_,_,rfl,rfl,⟨by decide,by decide⟩,_,rfl,_,_,rfl,rfl,(pos (by decide)),_,_,rfl,rfl,_,_,rfl,rfl,(pos g1),_,_,rfl,rfl,?_⟩
  dsimp only []
  rw [eS]
  refine ⟨_,rfl,_,_,rfl,rfl,⟨by decide,by decide⟩,_,rfl,_,rfl,_,_,rfl,rfl,(pos (by decide)),_,_,rfl,rfl,_,_,rfl,rfl,(pos g2),?_⟩
  dsimp only []
  rw [en]
  refine ⟨qal (show 8 <= 100000 by decide),λpp hpp => ?_⟩
  have s0:=zj (o:=.lst (prL.map V.int)) hpp
  have h0:upd H pp (.lst (prL.map V.int)) pp=some (.lst (prL.map V.int)):=zb
  change _ at h0
  have e0:upd H pp (.lst [V.int 100003,V.int 100019,V.int 100043,V.int 100049,V.int 100057,V.int 100069,V.int 100103,V.int 100109])=upd H pp (.lst (prL.map V.int)):=rfl
  rw [e0]
  generalize upd H pp (.lst (prL.map V.int))=H0 at s0 h0 |-
  have bnd:=rb (n:=z) (A1 hz (by decide))
  refine ⟨_,rfl,_,rfl,bnd.1,bnd.2,qe4 (lo:=0) (n:=((z:Int)).toNat) (λi σ H'=>H'=H0/\∃ (x:Str) (v7:Option V),σ=[some (.int c),some (.int (m:Int)),some (.str az),some (.int (z:Int)),some (.int (n:Int)),some (.ref pp),some (.str x),v7,none,none,none]/\x.length=i/\x.cps.toList.all low=true)
   ⟨rfl,Aa "",none,rfl,by decide +kernel,by decide +kernel⟩ ?_ ?_⟩
  .rintro i σ H' hi ⟨rfl,x,v7,rfl,hl,hlow⟩
   have hi:i < z:=hi
   rw [BU]
   obtain ⟨p,p0,pa⟩:=pr_at (k:=i) (A8 hi hz)
   obtain ⟨j,ej,j26⟩:∃ j:Nat,c * 48271 % p % 26=(j:Int)/\j < 26:=md _ 26 (by decide)
   refine ⟨_,rfl,_,rfl,_,rfl,_,_,rfl,rfl,.inr ⟨by decide,by decide⟩,_,rfl,_,rfl,_,_,_,_,rfl,rfl,SqL.of h0,qaz pa,_,_,rfl,rfl,(pos p0),_,_,rfl,rfl,(pos (by decide)),_,_,_,rfl,rfl,qal (by rw [za]; decide),(show atI az.cps.toList (c * 48271 % p % 26)=_ by rw [ej]; exact qxw j26),_,_,rfl,rfl,qal (show x.length + 1 <= 100000 by lia),?_⟩
   refine ⟨rfl,_,_,rfl,?_,?_⟩
   .rw [qgw,hl]
    rfl
   .rw [qcy,List.all_append,hlow]
    show (true && [97 + j].all low)=true
    rw [CS,low26 j26]; rfl
  .rintro σ H' ⟨rfl,st,v7,rfl,hl,hlow⟩
   have hl:st.length=z:=hl
   refine ⟨qe3,λq hq => ?_⟩
   have s1:=s0.trans (zj (o:=.lst []) hq)
   have h1:=zb (H:=H') (a:=q) (o:=.lst [])
   have nq:=s0.free hq
   generalize upd H' q _=H1 at s1 h1 |-
   have bm:=rb (n:=m) (A1 m52 (by decide))
   refine ⟨_,rfl,_,rfl,bm.1,bm.2,qe4 (lo:=0) (n:=((m:Int)).toNat) (λi σ H'=>Same H H'/\∃ v7 v9 v10:Option V,σ=[some (.int c),some (.int (m:Int)),some (.str az),some (.int (z:Int)),some (.int (n:Int)),some (.ref pp),some (.str st),v7,some (.ref q),v9,v10]/\H' q=some (.lst (((Ba i).map (wdS st.cps.toList n e (c / 128))).map V.str)))
    ⟨s1,_,none,none,rfl,h1⟩ ?_ ?_⟩
   .rintro i σ H' hi ⟨s2,v7,v9,v10,rfl,h2⟩
    have hi:i < m:=hi
    rw [BU]
    have lz:((((Ba i).map (wdS st.cps.toList n e (c / 128))).map V.str)).length <= 90000:=by rw [Ab,Ab,BB]; exact A1 (Nat.le_of_lt hi) (A1 m52 (by decide))
    have ed:(c / 128 + (i:Int) / (1 + c % 2)) % 26=(((sgn (c / 128) e i - 97:Nat)):Int):=sgn_ed ee
    have sg26:sgn (c / 128) e i - 97 < 26:=sgn_26
    have sg97:97 + (sgn (c / 128) e i - 97)=sgn (c / 128) e i:=sgn_97
    refine ⟨_,rfl,_,_,rfl,rfl,⟨by decide,by decide⟩,_,rfl,_,rfl,_,_,rfl,rfl,(pos (by decide)),_,_,rfl,rfl,_,_,rfl,rfl,cd2 ee he,_,_,rfl,rfl,_,_,rfl,rfl,(pos (by decide)),?_⟩
    dsimp only []
    rw [ed]
    have cat:=qxw sg26
    rw [sg97] at cat
    have t1:=A1 (Dx st none (some (n:Int))) (BS hl)
    have t2:=A1 (Dx st (some ((n:Int) + 1)) none) (BS hl)
    refine ⟨_,rfl,_,rfl,_,rfl,_,rfl,qal (A1 (BS hl) (A1 hz (by decide))),_,rfl,_,rfl,_,_,_,rfl,rfl,qal (by rw [za]; decide),cat,_,_,rfl,rfl,qal (A1 (De t1) (A1 (De hz) (by decide))),_,rfl,_,rfl,_,_,rfl,rfl,_,rfl,_,rfl,qal (A1 (BS hl) (A1 hz (by decide))),_,_,rfl,rfl,qal (by rw [qgw]; exact A1 (Nat.add_le_add (De t1) t2) (A1 (Nat.add_le_add (De hz) hz) (by decide))),?_⟩
    dsimp only []
    rw [qwx (st:=st) (n:=n) (c:=sgn (c / 128) e i) (by rw [hl]; exact A1 (Nat.le_add_right _ _) hn)]
    have lL:st.cps.toList.length=z:=by rw [AN]; exact hl
    have lw:(⟨(wdL st.cps.toList n (sgn (c / 128) e i)).toArray⟩:Str).length <= 100000:=by
     show (wdL st.cps.toList n (sgn (c / 128) e i)).toArray.size <= 100000
     rw [Av]
     unfold wdL
     rw [Ai,An,A2,Bl,lL]
     lia
    have fin:∀ w:Str,w=wdS st.cps.toList n e (c / 128) i->∀ v9:Option V,Same H (upd H' q (.lst ((((Ba i).map (wdS st.cps.toList n e (c / 128))).map V.str) ++ [V.str w])))/\∃ v7 v9' v10:Option V,[some (V.int c),some (.int (m:Int)),some (.str az),some (.int (z:Int)),some (.int (n:Int)),some (.ref pp),some (.str st),some (.int (i:Int)),some (.ref q),v9,some (.str w)]=[some (V.int c),some (.int (m:Int)),some (.str az),some (.int (z:Int)),some (.int (n:Int)),some (.ref pp),some (.str st),v7,some (.ref q),v9',v10]/\upd H' q (.lst ((((Ba i).map (wdS st.cps.toList n e (c / 128))).map V.str) ++ [V.str w])) q=some (.lst (((Ba (i + 1)).map (wdS st.cps.toList n e (c / 128))).map V.str)):=λw hw v9=>by
     refine ⟨qaj s2 nq,_,_,_,rfl,?_⟩
     rw [zb,List.range_succ,Ar,Ar,hw]
     rfl
    refine ⟨_,rfl,_,_,rfl,rfl,(pos (by decide)),rfl,_,rfl,?_⟩
    by_cases c1:c % 2=1
    .refine qe2 (congrArg V.int c1) ⟨_,rfl,_,_,rfl,rfl,(pos (by decide)),rfl,_,rfl,?_⟩
     by_cases c2:(i:Int) % 2=1
     .refine qe2 (congrArg V.int c2) ⟨_,rfl,_,rfl,_,_,rfl,rfl,_,rfl,_,rfl,qal lw,?_⟩
      dsimp only []
      rw [cut_eq (by rw [lL]; exact A1 (Nat.le_add_right _ _) hn)]
      refine ⟨_,rfl,.inl ⟨rfl,_,SqL.of h2⟩,_,rfl,_,_,_,rfl,rfl,h2,qb6 lz,?_⟩
      exact fin _ (by unfold wdS; rw [if_pos ⟨eo1 ee c1,io1 c2⟩]) _
     .refine qax (λz=>c2 (V.int.inj z)) ⟨_,rfl,.inl ⟨rfl,_,SqL.of h2⟩,_,rfl,_,_,_,rfl,rfl,h2,qb6 lz,?_⟩
      exact fin _ (by unfold wdS; rw [if_neg (λz=>ni1 c2 z.2)]) _
    .refine qax (λz=>c1 (V.int.inj z)) (qbo ⟨_,rfl,.inl ⟨rfl,_,SqL.of h2⟩,_,rfl,_,_,_,rfl,rfl,h2,qb6 lz,?_⟩)
     exact fin _ (by unfold wdS; rw [if_neg (λz=>ne1 ee c1 z.1)]) _
   .rintro σ H' ⟨s2,v7,v9,v10,rfl,h2⟩
    refine ⟨_,rfl,k q H' _ nq s2 h2 (by rw [Ab,BB]; rfl) (qy3 he (by rw [AN]; show n + 1 + e <= st.length; rw [hl]; exact hn) (λk hk => ?_)) (λx hx => ?_)⟩
    .rcases Nat.le_one_iff_eq_zero_or_eq_one.mp he with rfl | rfl
     .rw [Nat.div_one]; lia
     .lia
    obtain ⟨j,_,rfl⟩:=AS.mp hx
    have lL:st.cps.toList.length=z:=by rw [AN]; exact hl
    exact qy9 hlow (by lia) (by lia) j
theorem qoz (T:Txt K mg a):FnOk P w K mg base CX0 2 a.fLawYields a.gLawYields ["_law_script", "_law_at", "_law_names"] (spYl K):=by
 refine T.dLawYields.fn.ok qcx (λvs H Q E h => ?_) (λcdv A outer s H vs Q E hr h => ?_)
 .obtain ⟨_,_,_,_,_,rfl,_⟩:=h
  all_goals rfl
 .obtain ⟨l,pn,ns,k0,names,rfl,hS,hn,nnd,hk,l6,k⟩:=h
  refine ⟨_,(qp (zh (i:=3) qcx.nd rfl (Aw rfl) (zn (qa7 T) (hr.mono (by decide)) rfl T.dLawCellAt.mgx T.dLawCellAt.fn.kp T.dLawCellAt.bd .nil qau (qj (pv 0) (qj (zi qa1 qu (zi qez qu (pv 1))) qt zw) qm)))
   (qp (zh (i:=4) qcx.nd rfl (Aw rfl) (zi qas (zn (qa7 T) (hr.mono (by decide)) rfl T.dLawCellAt.mgx T.dLawCellAt.fn.kp T.dLawCellAt.bd .nil qau (qj (pv 0) (qj (zi qa1 qu (zi qez qu (pv 1))) qt zw) qm)) qu))
   (qp (zh (i:=5) qcx.nd rfl (Aw rfl) (zr qt))
   (qp (qcn B4 rfl (qck rfl T.n_range (qj (zo qaq (by rfl) T.n_len qap (qj (pv 2) qt qm)) qt zu)) (qak (i:=6) qcx.nd rfl (Aw rfl)) (qp (zh (i:=7) qcx.nd rfl (Aw rfl) (zi qas (zi qbe (pv 3) (zi qez qu (zz jb (zr (qj qu (qj qu (qj qu (qj qu (qj qu (qj qu qt zc) zc) zc) zc) zc) zc)) (pv 6) (λ_ _=>rfl)))) qu))
   (qp (zh (i:=8) qcx.nd rfl (Aw rfl) (zi qas (zn (qa7 T) (hr.mono (by decide)) rfl T.dLawCellAt.mgx T.dLawCellAt.fn.kp T.dLawCellAt.bd .nil qau (qj (pv 0) (qj (zi qa1 qu (zi qez qu (pv 6))) qt zw) qm)) qu))
   (qz (zm (PW.pt (qd3 (zg qte (pv 6) (pv 1) (qad _)) (qd3 (zg qay (pv 8) (pv 4) (qad _)) (qdt (zg qay (pv 7) qu (qad _)))))) (qz (zk (qcb A9 AE AF qa0 (pv 5) (qj (zz jb (pv 2) (pv 6) (λ_ _=>rfl)) qt zx)))) qag)))))
   (qp (zm (zg qay (zi qas (zi qbe (pv 3) qu) qu) qu (qad _)) (qz (zd (qj5 rfl (by rfl) T.n_list (by rfl) T.n_reversed qef (qj (pv 5) qt qm)))) qag)
   (qz (zd (pv 5)))))))),?_⟩
  have s0:=Same.refl H
  refine ⟨_,rfl,_,rfl,_,_,rfl,rfl,qo9 (by decide) (by decide),_,_,rfl,rfl,_,_,_,rfl,hS,by lia,?_⟩
  dsimp only []
  generalize cell ns (7 + 5 * (k0:Int))=c
  refine ⟨_,rfl,_,rfl,_,_,rfl,rfl,qo9 (by decide) (by decide),_,_,rfl,rfl,_,_,_,rfl,hS,by lia,_,_,rfl,rfl,(pos (by decide)),?_⟩
  refine ⟨qe3,λq hq => ?_⟩
  obtain ⟨s1,h1⟩:=alc (o:=.lst []) hq
  generalize upd H q _=H1 at s1 h1 |-
  have ln:(names.map V.str).length=names.length:=Ab _
  have bnd:=rb (n:=(names.map V.str).length) (by lia)
  have mine:((cell ns (3 + 5 * (k0:Int)) % 3:Int))=((owA ns k0:Nat):Int):=qrb
  dsimp only []
  rw [mine]
  refine ⟨_,rfl,_,_,rfl,.inl ⟨_,SqL.of (s1 _ _ hn),rfl⟩,_,rfl,bnd.1,bnd.2,qe4 (lo:=0) (n:=(((names.map V.str).length:Int)).toNat) (λi σ H'=>Same H H'/\(∃ ys:List Str,H' q=some (.lst (ys.map V.str))/\ys.length <= i/\YlOk names (owA ns) k0 ys/\∀ y ∈ ys,∃ b,b < i/\y=nm names b)/\∃ v6 v7 v8:Option V,σ=[some (.ref l),some (.int (k0:Int)),some (.ref pn),some (.int c),some (.int ((owA ns k0:Nat):Int)),some (.ref q),v6,v7,v8]) ⟨s1,⟨[],h1,Az _,⟨.nil,λy hy=>absurd hy At⟩,λy hy=>absurd hy At⟩,none,none,none,rfl⟩ ?_ ?_⟩
  .rintro i σ H' hi ⟨s2,⟨ys,h2,ly,yo,yb⟩,v6,v7,v8,rfl⟩
   have hi:i < names.length:=by rw [ln] at hi; lia
   rw [BU]
   obtain ⟨m,em,m1,m32⟩:=pos12 i (by lia)
   refine ⟨_,rfl,qal (show 6 <= 100000 by decide),λpp npp => ?_⟩
   obtain ⟨s3,e3⟩:=alc (o:=.lst [V.int 1,V.int 2,V.int 4,V.int 8,V.int 16,V.int 32]) npp
   generalize upd H' pp _=H3 at s3 e3 |-
   have s23:=s2.trans s3
   refine ⟨_,rfl,_,_,_,_,rfl,rfl,SqL.of e3,em,_,_,rfl,rfl,.inl ⟨by decide,by decide⟩,_,_,rfl,rfl,⟨by lia,by lia⟩,_,_,rfl,rfl,(pos (by decide)),?_⟩
   refine ⟨_,rfl,_,rfl,_,_,rfl,rfl,qo9 (by decide) (by decide),_,_,rfl,rfl,_,_,_,rfl,s23.seq hS,by lia,_,_,rfl,rfl,(pos (by decide)),?_⟩
   dsimp only []
   have theirs:((cell ns (3 + 5 * (i:Int)) % 3:Int))=((owA ns i:Nat):Int):=qrb
   rw [theirs]
   have h3:=s3 _ _ h2
   have up:∀ y ∈ ys,∃ b,b < i + 1/\y=nm names b:=λy hy=>by obtain ⟨b,h1,h2⟩:=yb y hy; exact ⟨b,by lia,h2⟩
   have stay:Same H H3/\(∃ ys:List Str,H3 q=some (.lst (ys.map V.str))/\ys.length <= i + 1/\YlOk names (owA ns) k0 ys/\∀ y ∈ ys,∃ b,b < i + 1/\y=nm names b):=⟨s23,ys,h3,by lia,yo,up⟩
   refine ⟨_,rfl,_,rfl,rfl,_,rfl,?_⟩
   by_cases c1:i=k0
   .exact qdl (by rw [c1]) (qbo ⟨stay.1,stay.2,_,_,_,rfl⟩)
   .refine qe7 (λz=>c1 (DF (V.int.inj z))) ⟨_,rfl,_,rfl,rfl,_,rfl,?_⟩
    by_cases c2:owA ns i=owA ns k0
    .refine qe2 (by rw [c2]) ⟨_,rfl,rfl,_,rfl,qb4 (λc3 => ?_) (λc3=>⟨stay.1,stay.2,_,_,_,rfl⟩)⟩
     refine ⟨_,rfl,.inl ⟨rfl,_,SqL.of h3⟩,_,rfl,_,rfl,_,_,_,_,rfl,rfl,SqL.of (s23 _ _ hn),qaz (nmV hi),_,_,_,rfl,rfl,h3,qb6 (by rw [Ab]; lia),?_⟩
     refine ⟨qaj s23 hq,⟨ys ++ [nm names i],by rw [zb,Ar]; rfl,by rw [Ai]; show _ + 1 <= _; lia,⟨?_,λy hy => ?_⟩,λy hy => ?_⟩,_,_,_,rfl⟩
     .rw [AY]
      refine ⟨yo.nd,by simp,λa ha b hb e => ?_⟩
      obtain ⟨b',hb',eb⟩:=yb a ha
      rw [e,Aj.mp hb] at eb
      have:=qiu nnd hi (by lia) eb
      lia
     .rcases A5.mp hy with z | z
      .exact yo.ok y z
      .rw [Aj.mp z]; exact ⟨i,hi,rfl,c1,c2⟩
     .rcases A5.mp hy with z | z
      .exact up y z
      .rw [Aj.mp z]; exact ⟨i,by lia,rfl⟩
    .exact qax (λz=>c2 (DF (V.int.inj z))) (qbo ⟨stay.1,stay.2,_,_,_,rfl⟩)
  .rintro σ H' ⟨s2,⟨ys,h2,ly,yo,yb⟩,v6,v7,v8,rfl⟩
   refine ⟨_,rfl,_,_,rfl,rfl,⟨by decide,by decide⟩,_,_,rfl,rfl,(pos (by decide)),rfl,_,rfl,qb4 (λc1 => ?_) (λc1 => ?_)⟩
   .refine ⟨_,rfl,_,_,rfl,SqL.of h2,λq2 hq2 => ?_⟩
    rw [<- List.map_reverse]
    exact k q2 _ _ (s2.free hq2) (s2.trans (zj hq2)) zb (qva yo)
   .exact ⟨_,rfl,k q H' ys hq s2 h2 yo⟩
theorem qs6 (T:Txt K mg a):FnOk P w K mg base CX0 2 a.fLawBase a.gLawBase ["_law_script", "_law_at", "_law_names"] (spBaL K):=by
 refine T.dLawBase.fn.ok qeg (λvs H Q E h => ?_) (λcdv A outer s H vs Q E hr h => ?_)
 .obtain ⟨_,_,_,_,_,rfl,_⟩:=h
  all_goals rfl
 .obtain ⟨l,pn,ns,k0,names,rfl,hS,hn,hk,l6,k⟩:=h
  refine ⟨_,(qp (zh (i:=3) qeg.nd rfl (Aw rfl) (zi qbe (zn (qa7 T) (hr.mono (by decide)) rfl T.dLawCellAt.mgx T.dLawCellAt.fn.kp T.dLawCellAt.bd .nil qau (qj (pv 0) (qj qu qt zc) qm)) qu))
   (qp (zh (i:=4) qeg.nd rfl (Aw rfl) (zn (qa7 T) (hr.mono (by decide)) rfl T.dLawCellAt.mgx T.dLawCellAt.fn.kp T.dLawCellAt.bd .nil qau (qj (pv 0) (qj (zi qa1 qu (zi qez qu (pv 1))) qt zw) qm)))
   (qp (zh (i:=5) qeg.nd rfl (Cq rfl) (zr qt))
   (qp (qcn B4 rfl (qck rfl T.n_range (qj (zo qaq (by rfl) T.n_len qap (qj (pv 2) qt qm)) qt zu)) (qak (i:=6) qeg.nd rfl (Aw rfl)) (qz (zk (qcb A9 AE AF qa0 (pv 5) (qj (zi qas (zi qa1 (zi qez (pv 6) (zi qa1 qu (zi qas (pv 3) qu))) (zi qbe (pv 3) qu)) qu) qt zw)))))
   (qp (qcu (i:=7) qeg.nd rfl rfl (N:=["_law_k", "_law_ranks", "_law_at"]) (js:=[none,some 5,some 1]) (XN:=["_law_script", "_law_at", "_law_names", "_law_turn", "_law_cell", "_law_ranks", "_law_k", "_law_below"]) (xs:=qab qhq) rfl rfl rfl (by decide +kernel) (qck rfl T.n_range (qj (zo qaq (by rfl) T.n_len qap (qj (pv 2) qt qm)) qt zu)) (λ_ _ _ _ _ _=>(qak (i:=0) (show BW (["_law_k", "_law_ranks", "_law_at"]:List Str) from by decide +kernel) rfl (Aw rfl) (Cq rfl))) (λ_ _ _ _ _ _=>(qmx (zg qqo (zz (qdh (K:=K) rfl) (pv 1) (pv 0) (λ_ _=>rfl)) (zz (qdh (K:=K) rfl) (pv 1) (pv 2) (λ_ _=>rfl)) (qad _)))) (λ_ _ _ _ _ _=>(pv 0)))
   (qp (zm (PW.pt (qd3 (zg qay (zi qas (pv 4) qu) qu (qad _)) (qdt (zg (qpe hr.units0) (pv 7) (zr qt) (qad _))))) (qz (zd (zz jb (pv 2) (zz jb (pv 7) (zi qas (zi qbe (pv 4) qu) (zo qaq (by rfl) T.n_len qap (qj (pv 7) qt qm))) (λ_ _=>rfl)) (λ_ _=>rfl)))) qag)
   (qz (zd qbk)))))))),?_⟩
  have s0:=Same.refl H
  refine ⟨_,rfl,_,_,_,rfl,hS,by decide,_,_,rfl,rfl,⟨by decide,by decide⟩,?_⟩
  dsimp only []
  have rkd:∀ j:Nat,((j:Int) * (1 + cell ns 0 / 21 % 6) + cell ns 0 / 21 / 6) % 7=rkA ns j:=λ_=>rfl
  generalize cell ns 0 / 21=tn at rkd |-
  refine ⟨_,rfl,_,rfl,_,_,rfl,rfl,qo9 (by decide) (by decide),_,_,rfl,rfl,_,_,_,rfl,hS,by lia,?_⟩
  dsimp only []
  generalize cell ns (4 + 5 * (k0:Int))=c
  refine ⟨qe3,λq hq => ?_⟩
  obtain ⟨s1,h1⟩:=alc (o:=.lst []) hq
  generalize upd H q _=H1 at s1 h1 |-
  have ln:(names.map V.str).length=names.length:=Ab _
  have bnd:=rb (n:=(names.map V.str).length) (by lia)
  refine ⟨_,rfl,_,_,rfl,.inl ⟨_,SqL.of (s1 _ _ hn),rfl⟩,_,rfl,bnd.1,bnd.2,qe4 (lo:=0) (n:=(((names.map V.str).length:Int)).toNat) (λi σ H'=>Same H H'/\H' q=some (.lst (((Ba i).map (rkA ns)).map V.int))/\∃ v6:Option V,σ=[some (.ref l),some (.int (k0:Int)),some (.ref pn),some (.int tn),some (.int c),some (.ref q),v6,none]) ⟨s1,h1,none,rfl⟩ ?_ ?_⟩
  .rintro i σ H' hi ⟨s2,h2,v6,rfl⟩
   have hi:i < names.length:=by rw [ln] at hi; lia
   rw [BU]
   refine ⟨_,rfl,.inl ⟨rfl,_,SqL.of h2⟩,_,rfl,_,rfl,_,_,rfl,rfl,(pos (by decide)),_,_,rfl,rfl,_,_,rfl,rfl,.inl ⟨by lia,by lia⟩,_,rfl,_,_,rfl,rfl,⟨by decide,by decide⟩,_,_,rfl,rfl,_,_,rfl,rfl,(pos (by decide)),_,_,_,rfl,rfl,h2,qb6 (by rw [Ab,Ab,BB]; lia),?_⟩
   dsimp only []
   rw [rkd]
   refine ⟨qaj s2 hq,?_,_,rfl⟩
   rw [zb,List.range_succ,Ar,Ar]; rfl
  .rintro σ H' ⟨s2,h2,v6,rfl⟩
   rw [ln,Bx] at h2
   have rat:∀ j:Nat,j < names.length->atI (((Ba names.length).map (rkA ns)).map V.int) (j:Int)=some (.int (rkA ns j)):=λj hj=>qaz (by rw [Ak,Ak,Dh hj]; rfl)
   refine ⟨_,rfl,_,_,rfl,.inl ⟨_,SqL.of (s2 _ _ hn),rfl⟩,_,rfl,bnd.1,bnd.2,?_⟩
   refine qii (λv=>match v with | .int j=>decide (rkA ns j.toNat < rkA ns k0) | _=>false) (λv=>v) (λσ'=>∃ v,σ'=[v,some (.ref q),some (.int (k0:Int))]) qdy (qal (by rw [Ab,BB]; lia)) ⟨none,rfl⟩ (λv σ' J N RR hv sm s4 kn ky => ?_) qc2 λp5 hp5 => ?_
   .obtain ⟨v0,rfl⟩:=s4
    obtain ⟨j,hj,rfl⟩:=AS.mp hv
    have hj:j < names.length:=by have:=Cb.mp hj; rw [ln] at this; lia
    have ej:(0:Int) + (j:Int)=(j:Int):=BU _
    rw [ej] at kn ky |-
    refine ⟨_,rfl,_,rfl,_,_,_,_,rfl,rfl,SqL.of (sm _ _ h2),rat j hj,_,rfl,_,rfl,_,_,_,_,rfl,rfl,SqL.of (sm _ _ h2),rat k0 hk,_,_,rfl,rfl,_,rfl,qb4 (λc1 => ?_) (λc1 => ?_)⟩
    .exact ⟨_,rfl,ky _ ⟨_,rfl⟩ c1⟩
    .exact kn _ ⟨_,rfl⟩ (by cases e:decide (rkA ns j < rkA ns k0) with | true=>exact absurd e c1 | false=>exact e)
   obtain ⟨bl,ebl,hbl⟩:∃ bl:List Nat,((((Ba (((names.map V.str).length:Int)).toNat).map λi=>V.int (0 + (i:Nat))).filter λv=>match v with | .int j=>decide (rkA ns j.toNat < rkA ns k0) | _=>false).map λv=>v)=bl.map (λb:Nat=>V.int (b:Int))/\∀ b ∈ bl,b < names.length/\rkA ns b < rkA ns k0:=by
    refine ⟨(Ba names.length).filter λj=>decide (rkA ns j < rkA ns k0),?_,λb hb => ?_⟩
    .rw [List.map_id',ln,Bx,List.filter_map]
     have:(λi:Nat=>V.int (0 + (i:Int)))=λi:Nat=>V.int (i:Int):=by funext i; rw [BU]
     rw [this]
     congr 1
    .have:=DL.mp hb
     exact ⟨Cb.mp this.1,of_decide_eq_true this.2⟩
   rw [ebl]
   obtain ⟨s5,e5⟩:=alc (o:=.lst (bl.map λb:Nat=>V.int (b:Int))) hp5
   generalize upd H' p5 _=H5 at s5 e5 |-
   have s25:=s2.trans s5
   have flb:(bl.map λb:Nat=>V.int (b:Int)).all qcr=true:=by rw [CJ]; exact AZ.mpr λ_ _=>rfl
   refine ⟨_,rfl,_,_,rfl,rfl,(pos (by decide)),rfl,_,rfl,qb4 (λc1 => ?_) (λc1 => ?_)⟩
   .refine ⟨_,rfl,qe3,λpe npe => ?_⟩
    obtain ⟨s6,e6⟩:=alc (o:=.lst []) npe
    generalize upd H5 pe _=H6 at s6 e6 |-
    have s26:=s25.trans s6
    have e56:=s6 _ _ e5
    refine ⟨_,_,_,_,rfl,rfl,SqL.of e56,SqL.of e6,flb,rfl,_,rfl,qb4 (λc2 => ?_) (λc2 => ?_)⟩
    .have l1:1 <= bl.length:=by
      cases bl with
      | nil=>exact absurd c2 (by decide)
      | cons _ _=>exact DY _
     have z0:=CQ (c / 3) (show ((bl.length:Nat):Int) ≠ 0 by lia)
     have z1:=Cw (c / 3) (show (0:Int) < (bl.length:Nat) by lia)
     obtain ⟨j,ej⟩:∃ j:Nat,c / 3 % ((bl.length:Nat):Int)=(j:Int):=⟨(c / 3 % ((bl.length:Nat):Int)).toNat,by lia⟩
     have hj:j < bl.length:=by lia
     have hb:=hbl _ (Br hj)
     refine ⟨_,rfl,_,rfl,_,rfl,_,_,rfl,rfl,⟨by decide,by decide⟩,_,rfl,_,_,rfl,.inl ⟨_,SqL.of e56,rfl⟩,_,_,rfl,rfl,(pos (by rw [Ab]; lia)),?_⟩
     dsimp only []
     rw [Ab,ej]
     refine ⟨_,_,_,_,rfl,rfl,SqL.of e56,qaz (by rw [Ak,Ag hj]; rfl),_,_,_,_,rfl,rfl,SqL.of (s26 _ _ hn),qaz (nmV hb.1),?_⟩
     exact k H6 (some bl[j]) s26 λb e=>by cases e; exact hb
    .exact k H6 none s26 λb e=>nomatch e
   .exact qbo (k H5 none s25 λb e=>nomatch e)
theorem qs7 (T:Txt K mg a):FnOk P w K mg base CX0 3 a.fLawRule a.gLawRule ["_law_script", "_law_at", "_law_names", "_law_kinds"] (spLrl K):=by
 refine T.dLawRule.fn.ok qa4 (λvs H Q E h => ?_) (λcdv A outer s H vs Q E hr h => ?_)
 .obtain ⟨_,_,_,_,_,_,_,rfl,_⟩:=h
  all_goals rfl
 .obtain ⟨l,pn,pk,ns,k0,names,kinds,rfl,hS,hn,hk',nnd,hk,l6,knd,k12,k60,kok,k⟩:=h
  refine ⟨_,(qp (qcu (i:=4) qa4.nd rfl rfl (N:=["_law_k", "_law_script", "_law_at"]) (js:=[none,some 0,some 1]) (XN:=["_law_script", "_law_at", "_law_names", "_law_kinds", "_law_cells", "_law_owed", "_law_rest", "_law_turn", "_law_base_here", "_law_opens", "_law_unit", "_law_longer", "_law_k", "_law_units", "_law_still", "_law_rule_here"]) (xs:=qab qhr) rfl rfl rfl (by decide +kernel) (qck rfl T.n_range (qj qu qt zc)) (λ_ _ _ _ _ _=>(qak (i:=0) (show BW (["_law_k", "_law_script", "_law_at"]:List Str) from by decide +kernel) rfl (Aw rfl) (Cq rfl))) (λ_ _ _ _ _ _=>qdf) (λ_ _ _ _ _ _=>(zn (qa7 T) (hr.mono (by decide)) rfl T.dLawCellAt.mgx T.dLawCellAt.fn.kp T.dLawCellAt.bd .nil qau (qj (pv 1) (qj (zi qa1 (zi qa1 qu (zi qez qu (pv 2))) (pv 0)) qt zw) qm))))
   (qp (zh (i:=5) qa4.nd rfl (Aw rfl) (zi qas (zz jb (pv 4) qu (λ_ _=>rfl)) qu))
   (qp (zh (i:=6) qa4.nd rfl (Aw rfl) (zi qde (qbb qb2 (pv 3) qc0 (qa5 (pv 5))) (qbb qb2 (pv 3) (qa5 (zi qa1 (pv 5) qu)) (qa5 qu))))
   (qp (zh (i:=7) qa4.nd rfl (Aw rfl) (zi qas (zi qbe (zz jb (pv 4) qu (λ_ _=>rfl)) qu) qu))
   (qp (zh (i:=6) qa4.nd rfl (Aw rfl) (zi qde (qbb qb2 (pv 6) (qa5 (pv 7)) qc0) (qbb qb2 (pv 6) qc0 (qa5 (pv 7)))))
   (qp (zh (i:=8) qa4.nd rfl (Aw rfl) (zn (qs6 T) (hr.mono (by decide)) rfl T.dLawBase.mgx T.dLawBase.fn.kp T.dLawBase.bd .nil qau (qj (pv 0) (qj (pv 1) (qj (pv 2) qt qm) qm) qm)))
   (qp (zh (i:=9) qa4.nd rfl (Aw rfl) (zz jb (pv 6) qu (λ_ _=>rfl)))
   (qp (zm (zg qdd (pv 8) qbk (qad _)) (qz (zh (i:=9) qa4.nd rfl (Aw rfl) qbk)) qag)
   (qp (zh (i:=10) qa4.nd rfl (Aw rfl) (zz jb (zr (qj zq (qj zq (qj zq qt zc) zc) zc)) (zi qas (zi qbe (zz jb (pv 4) qu (λ_ _=>rfl)) qu) qu) (λ_ _=>rfl)))
   (qp (zh (i:=11) qa4.nd rfl (Aw rfl) (zr qt))
   (qp (qcn B4 rfl (qck rfl T.n_range (qj (zi qas (zi qbe (zz jb (pv 4) qu (λ_ _=>rfl)) qu) qu) qt zw)) (qak (i:=12) qa4.nd rfl (Aw rfl)) (qp (zh (i:=13) qa4.nd rfl (Aw rfl) (zi qa1 qu (zi qas (zi qbe (zz jb (pv 4) qu (λ_ _=>rfl)) (zi qa1 qu (zi qez qu (pv 12)))) qu)))
   (qz (zk (qcb A9 AE AF qa0 (pv 11) (qj (zt (qj (zz jb (pv 6) (zi qa1 qu (pv 12)) (λ_ _=>rfl)) (qj (pv 13) (qj (zi qa1 qu (zi qas (zi qbe (zz jb (pv 4) qu (λ_ _=>rfl)) (zi qa1 qu (zi qez qu (pv 12)))) qu)) qt zw) qm) zx)) qt zy))))))
   (qp (zh (i:=14) qa4.nd rfl (Aw rfl) qbk)
   (qp (zm (zg qay (zi qas (zi qbe (zz jb (pv 4) qu (λ_ _=>rfl)) qu) qu) qu (qad _)) (qz (zh (i:=14) qa4.nd rfl (Aw rfl) (zt (qj (zz jb (pv 6) qu (λ_ _=>rfl)) (qj (zz jb (pv 6) qu (λ_ _=>rfl)) qt zx) zx)))) qag)
   (qp (zh (i:=15) qa4.nd rfl (Aw rfl) (zr (qj (zz jb (pv 2) (pv 1) (λ_ _=>rfl)) (qj (zz jb (pv 3) (zi qas (zz jb (pv 4) qu (λ_ _=>rfl)) qu) (λ_ _=>rfl)) (qj (zz jb (pv 3) (pv 5) (λ_ _=>rfl)) (qj (pv 9) (qj (pv 8) qt qm) qm) zx) zx) zx)))
   (qp (zh (i:=15) qa4.nd rfl (Aw rfl) (zi qde (pv 15) (zr (qj (zi qa1 qu (zi qas (zz jb (pv 4) qu (λ_ _=>rfl)) qu)) (qj (pv 10) (qj (qbb qb2 (pv 6) (qa5 qu) (qa5 (zi qa1 qu (zi qas (zz jb (pv 4) qu (λ_ _=>rfl)) qu)))) qt zx) qm) zw))))
   (qp (zh (i:=15) qa4.nd rfl (Aw rfl) (zi qde (pv 15) (zr (qj (qbb qb2 (pv 6) (qa5 qu) (qa5 (zi qa1 qu (zi qas (zi qbe (zz jb (pv 4) qu (λ_ _=>rfl)) qu) qu)))) (qj (pv 11) (qj (pv 14) qt qm) qm) zx))))
   (qz (zd (zi qde (pv 15) (zr (qj (zn (qoz T) (hr.mono (by decide)) rfl T.dLawYields.mgx T.dLawYields.fn.kp T.dLawYields.bd .nil qau (qj (pv 0) (qj (pv 1) (qj (pv 2) qt qm) qm) qm)) qt zu))))))))))))))))))))),?_⟩
  have l12:(kinds.map V.str).length=kinds.length:=Ab _
  refine ⟨_,rfl,by decide,by decide,?_⟩
  refine qc1 (λv=>match v with | .int j=>.int (cell ns (3 + 5 * (k0:Int) + j)) | _=>.non) (λσ'=>∃ v,σ'=[v,some (.ref l),some (.int (k0:Int))]) qdy (qal (by rw [Ab,BB]; decide)) ⟨none,rfl⟩ (λv σ' H' RR' hv sm s4 q => ?_) qc2 λp1 n1 => ?_
  .obtain ⟨v0,rfl⟩:=s4
   obtain ⟨j,hj,rfl⟩:=AS.mp hv
   have q:=q [some (.int (0 + (j:Int))),some (.ref l),some (.int (k0:Int))] ⟨_,rfl⟩
   exact ⟨_,rfl,_,rfl,_,_,rfl,rfl,qo9 (by decide) (by decide),_,_,rfl,rfl,_,rfl,_,_,rfl,rfl,_,_,_,rfl,sm.seq hS,by lia,q⟩
  obtain ⟨c0,ec0⟩:∃ c0,c0=cell ns (3 + 5 * (k0:Int)):=⟨_,rfl⟩
  obtain ⟨c1,ec1⟩:∃ c1,c1=cell ns (3 + 5 * (k0:Int) + 1):=⟨_,rfl⟩
  obtain ⟨c2,ec2⟩:∃ c2,c2=cell ns (3 + 5 * (k0:Int) + 2):=⟨_,rfl⟩
  obtain ⟨c3,ec3⟩:∃ c3,c3=cell ns (3 + 5 * (k0:Int) + 3):=⟨_,rfl⟩
  obtain ⟨c4,ec4⟩:∃ c4,c4=cell ns (3 + 5 * (k0:Int) + 4):=⟨_,rfl⟩
  have ecs:((Ba ((5:Int)).toNat).map λi=>V.int (0 + (i:Nat))).map (λv=>match v with | .int j=>V.int (cell ns (3 + 5 * (k0:Int) + j)) | _=>.non)=[V.int c0,V.int c1,V.int c2,V.int c3,V.int c4]:=by
   rw [ec0,ec1,ec2,ec3,ec4]
   show [V.int _,V.int _,V.int _,V.int _,V.int _]=_
   simp
  rw [ecs]
  obtain ⟨s1,e1⟩:=alc (o:=.lst [V.int c0,V.int c1,V.int c2,V.int c3,V.int c4]) n1
  generalize upd H p1 _=H1 at s1 e1 |-
  refine ⟨_,rfl,_,_,_,_,rfl,rfl,SqL.of (e1),rfl,_,_,rfl,rfl,(pos (by decide)),?_⟩
  dsimp only []
  have eo:c0 % 3=((owA ns k0:Nat):Int):=by rw [ec0]; exact qrb
  have ho:owA ns k0 < 3:=owA_l
  rw [eo]
  generalize owA ns k0=o at ho eo |-
  refine ⟨_,rfl,_,rfl,_,rfl,_,_,rfl,SqL.of (s1 _ _ hk'),λp2 n2 => ?_⟩
  rw [qkj _ o (by lia),<- BM]
  obtain ⟨s2,e2⟩:=alc (o:=.lst ((kinds.take o).map V.str)) n2
  generalize upd H1 p2 _=H2 at s2 e2 |-
  have s12:=s1.trans s2
  refine ⟨_,rfl,_,rfl,_,_,rfl,rfl,_,rfl,_,rfl,_,_,rfl,SqL.of (s12 _ _ hk'),λp3 n3 => ?_⟩
  have ec:qgz (kinds.map V.str) (some ((o:Int) + 1)) (some 12)=((kinds.take 12).drop (o + 1)).map V.str:=by
   rw [show ((o:Int) + 1)=((o + 1:Nat):Int) from rfl,show (12:Int)=((12:Nat):Int) from rfl,cut2 _ _ _ (by lia) (by lia),<- BM,<- C7]
  rw [ec]
  obtain ⟨s3,e3⟩:=alc (o:=.lst (((kinds.take 12).drop (o + 1)).map V.str)) n3
  generalize upd H2 p3 _=H3 at s3 e3 |-
  have s13:=s12.trans s3
  refine ⟨_,_,_,_,rfl,rfl,s3 _ _ e2,e3,qal (by rw [Ab,Ab,A2,Bl,A2]; lia),λp4 n4 => ?_⟩
  rw [<- Ar]
  have lL:(kinds.take o ++ (kinds.take 12).drop (o + 1)).length=11:=by rw [Ai,A2,Bl,A2]; lia
  obtain ⟨s4,e4⟩:=alc (o:=.lst ((kinds.take o ++ (kinds.take 12).drop (o + 1)).map V.str)) n4
  generalize upd H3 p4 _=H4 at s4 e4 |-
  have s14:=s13.trans s4
  have s24:=s2.trans (s3.trans s4)
  refine ⟨_,rfl,_,_,_,_,rfl,rfl,SqL.of (s24 _ _ e1),rfl,_,_,rfl,rfl,⟨by decide,by decide⟩,_,_,rfl,rfl,(pos (by decide)),?_⟩
  dsimp only []
  obtain ⟨t,et,ht⟩:∃ t:Nat,c0 / 3 % 11=(t:Int)/\t < 11:=md _ 11 (by decide)
  rw [et]
  obtain ⟨M',eM,lM,ndM,okM,nwM,w12⟩:=qxa (o:=o) (t:=t) knd k12 ho ht kok
  refine ⟨_,rfl,_,rfl,_,rfl,_,_,rfl,SqL.of e4,λp5 n5 => ?_⟩
  rw [qhu _ t (by rw [Ab,lL]; lia),<- C7]
  obtain ⟨s5,e5⟩:=alc (o:=.lst (((kinds.take o ++ (kinds.take 12).drop (o + 1)).drop t).map V.str)) n5
  generalize upd H4 p5 _=H5 at s5 e5 |-
  refine ⟨_,rfl,_,rfl,_,rfl,_,_,rfl,SqL.of (s5 _ _ e4),λp6 n6 => ?_⟩
  rw [qkj _ t (by rw [Ab,lL]; lia),<- BM]
  obtain ⟨s6,e6⟩:=alc (o:=.lst (((kinds.take o ++ (kinds.take 12).drop (o + 1)).take t).map V.str)) n6
  generalize upd H5 p6 _=H6 at s6 e6 |-
  refine ⟨_,_,_,_,rfl,rfl,s6 _ _ e5,e6,qal (by rw [Ab,Ab,Bl,A2,lL]; lia),λp7 n7 => ?_⟩
  rw [<- Ar,eM]
  clear eM
  obtain ⟨m0,  m1,  m2,  m3,  m4,  m5,  m6,  m7,  m8,  m9,  m10,rfl⟩:=eleven lM
  have s16:=s14.trans (s5.trans s6)
  have n7H:=s16.free n7
  obtain ⟨s7,e7⟩:=alc (o:=.lst ([m0,m1,m2,m3,m4,m5,m6,m7,m8,m9,m10].map V.str)) n7
  generalize upd H6 p7 _=H7 at s7 e7 |-
  have s17:=s16.trans s7
  have s27:=s24.trans (s5.trans (s6.trans s7))
  have ec7:=s27 _ _ e1
  clear s1 s2 s3 s4 s5 s6 e2 e3 e4 e5 e6 s12 s13 s14 s24 lL
  refine ⟨_,rfl,_,rfl,_,rfl,l,pn,ns,k0,names,rfl,s17.seq hS,s17 _ _ hn,hk,l6,λH8 ob s8 hob => ?_⟩
  have s18:=s17.trans s8
  have e8:=s8 _ _ e7
  have c8:=s8 _ _ ec7
  refine ⟨_,rfl,_,_,_,_,rfl,rfl,SqL.of (e8),rfl,?_⟩
  have gb:qhv names ob=qd1 (ob.map (nm names)):=by cases ob <;> rfl
  rw [gb]
  have hob':ob=none \/ ∃ b,ob=some b:=by
   cases ob with
   | none=>exact .inl rfl
   | some b=>exact .inr ⟨b,rfl⟩
  apply useV (p:=λx=>∃ opn:Option Str,x=some (qd1 opn)/\((ob=none/\opn=some m0) \/ ((∃ b,ob=some b)/\opn=none)))
  .intro fin
   refine hob'.elim (λz => ?_) (λz => ?_)
   .refine ⟨_,rfl,rfl,_,rfl,qdl (by rw [z]; rfl) ?_⟩
    generalize hx:(some (V.str m0):Option V)=x9
    exact fin x9 ⟨some m0,hx.symm,.inl ⟨z,rfl⟩⟩
   .obtain ⟨b,eb⟩:=z
    refine ⟨_,rfl,rfl,_,rfl,qe7 (λz=>by rw [eb] at z; cases z) ?_⟩
    exact fin (some .non) ⟨none,rfl,.inr ⟨⟨b,eb⟩,rfl⟩⟩
  .rintro x9 ⟨opn,rfl,hopn⟩
   obtain ⟨u1,u2⟩:=qxb (c1 / 18)
   refine ⟨qal (show 3 <= 100000 by decide),λpu nu => ?_⟩
   obtain ⟨s9,e9⟩:=alc (o:=.lst [V.str (Aa "days"),V.str (Aa "weeks"),V.str (Aa "court")]) nu
   generalize upd H8 pu _=H9 at s9 e9 |-
   have s19:=s18.trans s9
   refine ⟨_,rfl,_,_,_,_,rfl,rfl,SqL.of (s9 _ _ c8),rfl,_,_,rfl,rfl,⟨by decide,by decide⟩,_,_,rfl,rfl,(pos (by decide)),_,_,_,_,rfl,rfl,SqL.of e9,u1,?_⟩
   refine ⟨qe3,λpl npl => ?_⟩
   obtain ⟨sa,ea⟩:=alc (o:=.lst []) npl
   generalize upd H9 pl _=Ha at sa ea |-
   have s1a:=s19.trans sa
   have nplH:=s19.free npl
   have s8a:=s9.trans sa
   obtain ⟨g,eg,hg⟩:∃ g:Nat,c3 / 12 % 3=(g:Int)/\g <= 2:=mdl _ 2
   have eg2:(c3 / 12 % 3).toNat=g:=by rw [eg]; exact Bx g
   refine ⟨_,rfl,_,_,_,_,rfl,rfl,SqL.of (s8a _ _ c8),rfl,_,_,rfl,rfl,⟨by decide,by decide⟩,_,_,rfl,rfl,(pos (by decide)),_,rfl,(by lia),(by lia),qe4 (lo:=0) (n:=(c3 / 12 % 3).toNat) (λi σ H'=>Same H8 H'/\(∃ (us:List V) (lg:List (Str × Int × Int)),H' pl=some (.lst us)/\Tups H' us (lg.map qpu)/\lg.map (·.1)=[m6,m7].take i/\us.length=i/\∀ t ∈ lg,(1 <= t.2.1/\t.2.1 <= 20)/\1 <= t.2.2/\t.2.2 <= 3)/\∃ v12 v13:Option V,σ=[some (.ref l),some (.int (k0:Int)),some (.ref pn),some (.ref pk),some (.ref p1),some (.int (o:Int)),some (.ref p7),some (.int (t:Int)),some (qd1 (ob.map (nm names))),some (qd1 opn),some (.str (qfm (c1 / 18))),some (.ref pl),v12,v13,none,none]) ⟨s8a,⟨[],[],ea,.nil,rfl,rfl,λt h=>absurd h At⟩,none,none,rfl⟩ ?_ ?_⟩
   .rintro i σ H' hi ⟨s2,⟨us,lg,h2,t2,f2,l2,r2⟩,v12,v13,rfl⟩
    have hi:i < g:=by lia
    rw [BU]
    have cB:=s2 _ _ c8
    have eB:=s2 _ _ e8
    obtain ⟨mk,emk,fmk⟩:∃ mk:Str,atI ([m0,m1,m2,m3,m4,m5,m6,m7,m8,m9,m10].map V.str) (6 + (i:Int))=some (.str mk)/\[m6,m7].take (i + 1)=[m6,m7].take i ++ [mk]:=by
     rcases (by lia:i=0 \/ i=1) with rfl | rfl
     .exact ⟨m6,rfl,rfl⟩
     .exact ⟨m7,rfl,rfl⟩
    refine ⟨_,rfl,_,_,_,_,rfl,rfl,SqL.of (cB),rfl,_,rfl,_,_,rfl,rfl,qo9 (by decide) (by decide),_,_,rfl,rfl,_,_,rfl,rfl,cdA hi hg,_,_,rfl,rfl,(pos (by decide)),_,_,rfl,rfl,?_⟩
    refine ⟨_,rfl,.inl ⟨rfl,_,SqL.of h2⟩,_,rfl,_,rfl,_,_,rfl,rfl,_,_,_,_,rfl,rfl,SqL.of eB,emk,_,rfl,_,rfl,_,_,_,_,rfl,rfl,SqL.of (cB),rfl,_,rfl,_,_,rfl,rfl,qo9 (by decide) (by decide),_,_,rfl,rfl,_,_,rfl,rfl,cdB hi hg,_,_,rfl,rfl,(pos (by decide)),_,_,rfl,rfl,qki _ _ _,λq2 n2 => ?_⟩
    dsimp only []
    have b1:1 <= 1 + c2 / (40 + 811 * (i:Int)) % 20/\1 + c2 / (40 + 811 * (i:Int)) % 20 <= 20:=om _ (by decide)
    have b2:1 <= 1 + c2 / (797 + 13 * (i:Int)) % 3/\1 + c2 / (797 + 13 * (i:Int)) % 3 <= 3:=om _ (by decide)
    generalize 1 + c2 / (40 + 811 * (i:Int)) % 20=u9 at b1 n2 |-
    generalize 1 + c2 / (797 + 13 * (i:Int)) % 3=t9 at b2 n2 |-
    obtain ⟨s3,e3⟩:=alc (o:=.tup [V.str mk,V.int u9,V.int t9]) n2
    generalize upd H' q2 _=H3 at s3 e3 |-
    have h3:=s3 _ _ h2
    refine ⟨_,_,_,rfl,rfl,h3,qb6 (by lia),?_⟩
    have kp:Same H8 (upd H3 pl (.lst (us ++ [V.ref q2]))):=qaj (s2.trans s3) (s9.free npl)
    refine ⟨kp,⟨us ++ [.ref q2],lg ++ [(mk,u9,t9)],zb,?_,?_,by rw [Ai,l2]; rfl,λz hz => ?_⟩,_,_,rfl⟩
    .rw [Ar]
     exact ((t2.same s3).snoc (show H3 q2=some (.tup (qpu (mk,u9,t9))) from e3)).upd h3
    .rw [Ar,f2,fmk]; rfl
    .rcases A5.mp hz with y | y
     .exact r2 z y
     .rw [Aj.mp y]; exact ⟨b1,b2⟩
   .rintro σ Hb ⟨sb,⟨us,lg,hl,tl,fl,ll,rl⟩,v12,v13,rfl⟩
    rw [eg2] at fl ll
    have s1b:=s18.trans sb
    have cB:=sb _ _ c8
    have eB:=sb _ _ e8
    apply use2 (p:=λ(Hc:Hp) (x:Option V)=>∃ (sv:V) (so:Option (Str × Str)),x=some sv/\Same Hb Hc/\StAt Hc sv so/\(so=none \/ so=some (m8,m9)))
    .intro fin
     refine ⟨_,rfl,_,_,_,_,rfl,rfl,SqL.of (cB),rfl,_,_,rfl,rfl,⟨by decide,by decide⟩,_,_,rfl,rfl,(pos (by decide)),rfl,_,rfl,qb4 (λ_ => ?_) (λ_ => ?_)⟩
     rotate_left
     .obtain ⟨Hc,hHc⟩:∃ Hc,Hc=Hb:=⟨_,rfl⟩
      have qq:∃ (sv:V) (so:Option (Str × Str)),some V.non=some sv/\Same Hb Hc/\StAt Hc sv so/\(so=none \/ so=some (m8,m9)):=⟨.non,none,rfl,by rw [hHc]; exact Same.refl _,rfl,.inl rfl⟩
      rw [<- hHc]
      generalize (some V.non:Option V)=x14 at qq |-
      exact fin Hc x14 qq
     .refine ⟨_,rfl,_,_,_,_,rfl,rfl,SqL.of (eB),rfl,_,rfl,_,_,_,_,rfl,rfl,SqL.of (eB),rfl,fit2 _ _,λq3 n3 => ?_⟩
      obtain ⟨s3,e3⟩:=alc (o:=.tup [V.str m8,V.str m9]) n3
      exact fin _ (some (V.ref q3)) ⟨.ref q3,some (m8,m9),rfl,s3,⟨q3,rfl,e3⟩,.inr rfl⟩
    .rintro Hc x14 ⟨sv,so,rfl,sc,hst,hso⟩
     have s1c:=s1b.trans sc
     have cC:=sc _ _ cB
     have eC:=sc _ _ eB
     have hnC:=s1c _ _ hn
     have hkC:=s1c _ _ hk'
     obtain ⟨j4,ej4,hj4⟩:∃ j:Nat,c4 % 12=(j:Int)/\j < 12:=md _ 12 (by decide)
     refine ⟨_,rfl,_,rfl,_,_,_,_,rfl,rfl,SqL.of hnC,qaz (nmV hk),_,rfl,_,rfl,_,_,_,_,rfl,rfl,SqL.of (cC),rfl,_,_,rfl,rfl,(pos (by decide)),?_⟩
     dsimp only []
     rw [ej4]
     refine ⟨_,_,_,_,rfl,rfl,SqL.of hkC,qaz (nmV (nms:=kinds) (by lia)),_,rfl,_,rfl,_,_,_,_,rfl,rfl,SqL.of hkC,qaz (nmV (nms:=kinds) (by lia)),_,rfl,_,rfl,qal (show 5 <= 100000 by decide),λqa na => ?_⟩
     obtain ⟨sd,ed⟩:=alc (o:=.lst [V.str (nm names k0),V.str (nm kinds j4),V.str (nm kinds o),qd1 opn,qd1 (ob.map (nm names))]) na
     generalize upd Hc qa _=Hd at sd ed |-
     have s1d:=s1c.trans sd
     obtain ⟨x3,ex3,hx3⟩:∃ x:Nat,c3 % 4=(x:Int)/\x <= 3:=mdl _ 3
     obtain ⟨y3,ey3,hy3⟩:∃ x:Nat,c3 / 4 % 3=(x:Int)/\x <= 2:=mdl _ 2
     refine ⟨_,rfl,_,rfl,_,_,_,_,rfl,rfl,SqL.of (sd _ _ cC),rfl,_,_,rfl,rfl,(pos (by decide)),_,_,rfl,rfl,_,rfl,_,rfl,_,rfl,_,rfl,_,_,_,_,rfl,rfl,SqL.of (sd _ _ cC),rfl,_,_,rfl,rfl,(pos (by decide)),_,_,rfl,rfl,?_⟩
     dsimp only []
     rw [ex3]
     refine ⟨_,rfl,_,_,rfl,SqL.of (sd _ _ eC),λpe npe => ?_⟩
     have ce:qgz ([m0,m1,m2,m3,m4,m5,m6,m7,m8,m9,m10].map V.str) (some 1) (some (1 + (x3:Int)))=([m1,m2,m3].take x3).map V.str:=by
      rcases (by lia:x3=0 \/ x3=1 \/ x3=2 \/ x3=3) with rfl | rfl | rfl | rfl <;> rfl
     rw [ce]
     obtain ⟨se,ee⟩:=alc (o:=.lst (([m1,m2,m3].take x3).map V.str)) npe
     generalize upd Hd pe _=He at se ee |-
     have s1e:=s1d.trans se
     refine ⟨qki _ _ _,λqb nb => ?_⟩
     have b40:1 <= 1 + c2 % 40/\1 + c2 % 40 <= 40:=om _ (by decide)
     generalize 1 + c2 % 40=mny at b40 nb |-
     obtain ⟨sf,ef⟩:=alc (o:=.lst [V.int mny,V.str (qfm (c1 / 18)),V.ref pe]) nb
     generalize upd He qb _=Hf at sf ef |-
     have s1f:=s1e.trans sf
     refine ⟨_,_,_,_,rfl,rfl,sf _ _ (se _ _ ed),ef,qal (show 8 <= 100000 by decide),λqc nc => ?_⟩
     obtain ⟨sg,eg'⟩:=alc (o:=.lst ([V.str (nm names k0),V.str (nm kinds j4),V.str (nm kinds o),qd1 opn,qd1 (ob.map (nm names))] ++ [V.int mny,V.str (qfm (c1 / 18)),V.ref pe])) nc
     generalize upd Hf qc _=Hg at sg eg' |-
     have s1g:=s1f.trans sg
     have sdg:=sd.trans (se.trans (sf.trans sg))
     refine ⟨_,rfl,_,rfl,_,rfl,_,rfl,_,_,_,_,rfl,rfl,SqL.of (sdg _ _ cC),rfl,_,_,rfl,rfl,⟨by decide,by decide⟩,_,_,rfl,rfl,(pos (by decide)),_,_,rfl,rfl,?_⟩
     dsimp only []
     rw [ey3]
     refine ⟨_,rfl,_,_,rfl,SqL.of (sdg _ _ eC),λpa npa => ?_⟩
     have ca:qgz ([m0,m1,m2,m3,m4,m5,m6,m7,m8,m9,m10].map V.str) (some 4) (some (4 + (y3:Int)))=([m4,m5].take y3).map V.str:=by
      rcases (by lia:y3=0 \/ y3=1 \/ y3=2) with rfl | rfl | rfl <;> rfl
     rw [ca]
     obtain ⟨sh,eh⟩:=alc (o:=.lst (([m4,m5].take y3).map V.str)) npa
     generalize upd Hg pa _=Hh at sh eh |-
     have s1h:=s1g.trans sh
     refine ⟨_,rfl,_,rfl,qki _ _ _,λqd nd => ?_⟩
     obtain ⟨si,ei⟩:=alc (o:=.lst [V.ref pa,V.ref pl,sv]) nd
     generalize upd Hh qd _=Hi at si ei |-
     have s1i:=s1h.trans si
     refine ⟨_,_,_,_,rfl,rfl,si _ _ (sh _ _ eg'),ei,qal (show 11 <= 100000 by decide),λqe ne => ?_⟩
     obtain ⟨sj,ej⟩:=alc (o:=.lst (([V.str (nm names k0),V.str (nm kinds j4),V.str (nm kinds o),qd1 opn,qd1 (ob.map (nm names))] ++ [V.int mny,V.str (qfm (c1 / 18)),V.ref pe]) ++ [V.ref pa,V.ref pl,sv])) ne
     generalize upd Hi qe _=Hj at sj ej |-
     have s1j:=s1i.trans sj
     refine ⟨_,rfl,_,rfl,_,rfl,_,rfl,l,pn,ns,k0,names,rfl,s1j.seq hS,s1j _ _ hn,nnd,hk,l6,λpy Hk ys npy sk ek yok => ?_⟩
     have s1k:=s1j.trans sk
     refine ⟨qal (show 1 <= 100000 by decide),λqf nf => ?_⟩
     obtain ⟨sl,el⟩:=alc (o:=.lst [V.ref py]) nf
     generalize upd Hk qf _=Hl at sl el |-
     have s1l:=s1k.trans sl
     refine ⟨_,_,_,_,rfl,rfl,sl _ _ (sk _ _ ej),el,qal (show 12 <= 100000 by decide),λqg ng => ?_⟩
     obtain ⟨sm,em⟩:=alc (o:=.lst (((([V.str (nm names k0),V.str (nm kinds j4),V.str (nm kinds o),qd1 opn,qd1 (ob.map (nm names))] ++ [V.int mny,V.str (qfm (c1 / 18)),V.ref pe]) ++ [V.ref pa,V.ref pl,sv])) ++ [V.ref py])) ng
     generalize upd Hl qg _=Hm at sm em |-
     have sfm:=sg.trans (sh.trans (si.trans (sj.trans (sk.trans (sl.trans sm)))))
     have sim:=sj.trans (sk.trans (sl.trans sm))
     have scm:=sd.trans (se.trans (sf.trans sfm))
     have kk:owA ns k0=o:=by
      have:((owA ns k0:Nat):Int)=(o:Int):=by rw [<- qrb,<- ec0]; assumption
      exact DF this
     obtain ⟨knd9,kin9⟩:=qvb (w:=nm kinds o) (e:=[m1,m2,m3].take x3) (a:=[m4,m5].take y3) (g:=lg.map (·.1)) (o:=opn.toList) (s:=stL so) ndM nwM (BJ _ _) (BJ _ _) (by rw [fl]; exact BJ _ _) (by rcases hopn with ⟨_,e⟩ | ⟨_,e⟩ <;> rw [e] <;> simp) (by rcases hso with e | e <;> rw [e] <;> simp [stL])
     refine k qg Hm ⟨nm names k0,nm kinds j4,nm kinds o,opn,ob.map (nm names),mny,qfm (c1 / 18),[m1,m2,m3].take x3,[m4,m5].take y3,lg,so,ys⟩ pe pa pl py sv us (s1l.free ng) (s1d.free npe) (s1g.free npa) nplH (s1j.free npy) (s1l.trans sm) ⟨em,(sf.trans sfm) _ _ ee,(si.trans sim) _ _ eh,(sc.trans scm) _ _ hl,tl.same (sc.trans scm),hst.same scm,(sl.trans sm) _ _ ek⟩ ⟨rfl,kok _ (Ap (qg4 (by lia))),by show nm kinds o=_; rw [kk],knd9,λx hx => ?_,λx hx => ?_,?_,b40,u2,⟨?_,rl⟩,⟨by show ([m1,m2,m3].take x3).length <= 3; rw [A2]; show min x3 3 <= 3; lia,by show ([m4,m5].take y3).length <= 2; rw [A2]; show min y3 2 <= 2; lia⟩,yok⟩
     .rcases kin9 x hx with e | e
      .rw [e]; exact kok _ (Ap (qg4 (by lia)))
      .exact (okM x e).1
     .rcases kin9 x hx with e | e
      .rw [e]; exact w12
      .exact (okM x e).2
     .rcases hopn with ⟨e1,e2⟩ | ⟨⟨b,e1⟩,e2⟩
      .exact .inr ⟨by show ob.map (nm names)=none; rw [e1]; rfl,m0,e2⟩
      .exact .inl ⟨b,(hob b e1).1,by show ob.map (nm names)=_; rw [e1]; rfl,(hob b e1).2,e2⟩
     .have:=congrArg CF fl
      rw [Ab,A2] at this
      show lg.length <= 2
      rw [this]; exact Nat.min_le_right _ _
theorem qqd (T:Txt K mg a):FnOk P w K mg base CX0 4 a.fLawRules a.gLawRules ["_law_script", "_law_names", "_law_kinds", "_law_most"] (spLrs K):=by
 refine T.dLawRules.fn.ok qdb (λvs H Q E h => ?_) (λcdv A outer s H vs Q E hr h => ?_)
 .obtain ⟨_,_,_,_,_,_,_,rfl,_⟩:=h
  all_goals rfl
 .obtain ⟨l,pn,pk,ns,names,kinds,mo,rfl,hS,hn,hk',nnd,l6,knd,k12,k60,kok,m6,m100,k⟩:=h
  refine ⟨_,(qp (qcu (i:=4) qdb.nd rfl rfl (N:=["_law_at", "_law_script", "_law_names", "_law_kinds"]) (js:=[none,some 0,some 1,some 2]) (XN:=["_law_script", "_law_names", "_law_kinds", "_law_most", "_law_rules_here", "_law_room", "_law_rule_here", "_law_sort_here"]) (xs:=qab qgs) rfl rfl rfl (by decide +kernel) (qck rfl T.n_range (qj (zo qaq (by rfl) T.n_len qap (qj (pv 1) qt qm)) qt zu)) (λ_ _ _ _ _ _=>(qak (i:=0) (show BW (["_law_at", "_law_script", "_law_names", "_law_kinds"]:List Str) from by decide +kernel) rfl (Aw rfl) (Cq rfl))) (λ_ _ _ _ _ _=>qdf) (λ_ _ _ _ _ _=>(zn (qs7 T) (hr.mono (by decide)) rfl T.dLawRule.mgx T.dLawRule.fn.kp T.dLawRule.bd .nil qau (qj (pv 1) (qj (pv 0) (qj (pv 2) (qj (pv 3) qt qm) qm) qm) qm))))
   (qp (zh (i:=5) qdb.nd rfl (Aw rfl) (zi qfs (pv 3) (zo qaq (by rfl) T.n_len qap (qj (pv 4) qt qm))))
   (qp (qcn B4 rfl (qb1 (pv 4)) (qak (i:=6) qdb.nd rfl (Aw rfl)) (qp (qcn B4 rfl (qb1 (zr (qj qu (qj qu (qj qu (qj qu qt zc) zc) zc) zc))) (qak (i:=7) qdb.nd rfl (Aw rfl)) (qp (qmr (qbb qb2 (zz jb (pv 6) (pv 7) (λ_ _=>rfl)) qc0 (qa5 (pv 5))) (qta (pv 6) (pv 7) qnp))
   (qz (zh (i:=5) qdb.nd rfl (Aw rfl) (zi qfs (pv 5) (zo qaq (by rfl) T.n_len qap (qj (zz jb (pv 6) (pv 7) (λ_ _=>rfl)) qt zx)))))))
   (qp (zm (zg qay (pv 5) qu (qad _)) (qz (qmr qbk (qta (pv 6) qu qnp))) qag)
   (qz (zm (zg qdd (zz jb (pv 6) qu (λ_ _=>rfl)) qbk (qad _)) (qz (zh (i:=5) qdb.nd rfl (Aw rfl) (zi qfs (pv 5) qu))) qag)))))
   (qz (zd (pv 4)))))),?_⟩
  have ln:(names.map V.str).length=names.length:=Ab _
  have bnd:=rb (n:=(names.map V.str).length) (by lia)
  refine ⟨_,rfl,_,_,rfl,.inl ⟨_,SqL.of hn,rfl⟩,_,rfl,bnd.1,bnd.2,?_⟩
  refine qup (λp x q H=>∃ (k:Nat) (r:RR) (pe pa pl py:Addr) (sv:V) (us:List V),x=.int (k:Int)/\LR1 (off p H) q r pe pa pl py sv us/\GR names (owA ns) (rkA ns) kinds k r) (λp x q H H' kp => ?_) (λp x q H g => ?_) (λσ'=>∃ v,σ'=[v,some (.ref l),some (.ref pn),some (.ref pk)]) qdy (qal (by rw [Ab,BB]; lia)) ⟨none,rfl⟩ (λp v σ' H' RR' hv hp sm hp' s4 qq => ?_) qc2 λp H1 qs hp s1 e1 lq ndq gq => ?_
  .rintro ⟨k',r,pe,pa,pl,py,sv,us,e,h,g⟩
   exact ⟨k',r,pe,pa,pl,py,sv,us,e,h.same (qvc kp),g⟩
  .obtain ⟨k',r,pe,pa,pl,py,sv,us,e,h,g⟩:=g
   intro z
   have:=qoo _ _ h.hq
   rw [z] at this; cases this
  .obtain ⟨v0,rfl⟩:=s4
   obtain ⟨j,hj,rfl⟩:=AS.mp hv
   have hj:j < names.length:=by have:=Cb.mp hj; rw [ln] at this; lia
   obtain ⟨zs,hzs⟩:=hp'
   refine ⟨_,rfl,_,rfl,_,rfl,_,rfl,l,pn,pk,ns,j,names,kinds,by rw [BU]; rfl,sm.seq hS,sm _ _ hn,sm _ _ hk',nnd,hj,l6,knd,k12,k60,kok,λq H5 r pe pa pl py sv us nq n1 n2 n3 n4 s5 x g => ?_⟩
   have ne:∀ {z:Addr},H' z=none->z ≠ p:=λh e=>by rw [e,hzs] at h; cases h
   exact qq _ q H5 ⟨_,rfl⟩ s5 nq ⟨j,r,pe,pa,pl,py,sv,us,by rw [BU],x.offp (s5 _ _ hzs) (ne nq) (ne n1) (ne n2) (ne n3) (ne n4),g⟩
  rw [Ab,BB,ln,Bx] at lq
  have gj:∀ j:Nat,j < names.length->∃ (q:Addr) (r:RR),qs[j]?=some q/\LR H1 q r/\GR names (owA ns) (rkA ns) kinds j r/\q ≠ p/\H q=none:=λj hj=>by
   have ex:((Ba (((names.map V.str).length:Int)).toNat).map λi=>V.int (0 + (i:Nat)))[j]?=some (.int (0 + (j:Int))):=by
    rw [Ak,Dh (by rw [ln]; lia)]; rfl
   have eq:qs[j]?=some (qs[j]'(by lia)):=Ag (by lia)
   obtain ⟨⟨k',r,pe,pa,pl,py,sv,us,e,h,g⟩,g2,g3⟩:=gq j _ _ ex eq
   rw [BU] at e
   have e:j=k':=DF (V.int.inj e)
   subst e
   exact ⟨_,r,eq,⟨pe,pa,pl,py,sv,us,h.same qoo⟩,g,g2,g3⟩
  obtain ⟨rs0,lr0,hr0⟩:∃ rs:List RR,rs.length=names.length/\∀ (j:Nat) (r:RR),rs[j]?=some r->∃ q,qs[j]?=some q/\LR H1 q r/\GR names (owA ns) (rkA ns) kinds j r/\q ≠ p/\H q=none:=by
   have w:∀ n,n <= names.length->∃ rs:List RR,rs.length=n/\∀ (j:Nat) (r:RR),rs[j]?=some r->∃ q,qs[j]?=some q/\LR H1 q r/\GR names (owA ns) (rkA ns) kinds j r/\q ≠ p/\H q=none:=by
    intro n
    induction n with
    | zero=>exact λ_=>⟨[],rfl,λj r h=>by cases h⟩
    | succ n ih =>
     intro hn
     obtain ⟨rs,h1,h2⟩:=ih (by lia)
     obtain ⟨q,r,g1,g2⟩:=gj n (by lia)
     refine ⟨rs ++ [r],by rw [Ai,h1]; rfl,λj r' h => ?_⟩
     by_cases c:j < rs.length
     .rw [AQ c] at h; exact h2 j r' h
     .rw [AL (by lia)] at h
      have:j - rs.length < 1:=(Ae.mp h).1
      rw [show j - rs.length=0 by lia] at h
      cases h
      rw [show j=n by lia]
      exact ⟨q,g1,g2⟩
   exact w _ (Az _)
  have b0:LRs H H1 p qs rs0:=⟨s1,e1,by rw [lq,lr0],ndq,λq hq=>by
   obtain ⟨j,hj⟩:=AV hq
   have lj:=(Ae.mp hj).1
   obtain ⟨q',_,g1,_,_,g4,g5⟩:=gj j (by lia)
   rw [hj] at g1; cases g1; exact ⟨g4,g5⟩,hp,λi q r h1 h2=>by
   obtain ⟨q',g1,g2,_⟩:=hr0 i r h2
   rw [h1] at g1; cases g1; exact g2⟩
  have g0:GRs names (owA ns) (rkA ns) kinds rs0:=λkk r h=>by obtain ⟨_,_,_,g,_⟩:=hr0 kk r h; exact g
  refine ⟨_,rfl,_,rfl,_,_,rfl,.inl ⟨_,SqL.of e1,rfl⟩,_,_,rfl,rfl,?_⟩
  have er0:(mo:Int) - ((qs.map V.ref).length:Int)=((mo - names.length:Nat):Int):=by rw [Ab,lq]; lia
  refine ⟨_,rfl,_,rfl,⟨_,SqL.of e1⟩,qc7 (K:=K) (a:=p) (xs:=qs.map V.ref) (λj σ H'=>∃ (rs:List RR) (room:Nat),LRs H H' p qs rs/\rs.length=names.length/\GRs names (owA ns) (rkA ns) kinds rs/\room + ((rs.take j).map exR).sum + names.length=mo/\∃ v6 v7:Option V,σ=[some (.ref l),some (.ref pn),some (.ref pk),some (.int (mo:Int)),some (.ref p),some (.int (room:Int)),v6,v7]) ⟨rs0,mo - names.length,b0,lr0,g0,by rw [Da]; show _ + 0 + _=_; lia,none,none,by rw [<- er0]; rfl⟩ (λj σ H' _ h=>by obtain ⟨_,_,b,_⟩:=h; exact SqL.of b.hp) ?_ ?_⟩
  .rintro j v σ H' hv ⟨rs,room0,bl0,lrs,grs,hroom,v6,v7,rfl⟩
   rw [Ak] at hv
   cases hqj:qs[j]? with
   | none=>rw [hqj] at hv; cases hv
   | some q =>
   rw [hqj] at hv
   cases hv
   have lj:j < rs.length:=by have:=(Ae.mp hqj).1; have:=bl0.ln; lia
   obtain ⟨r,hrj⟩:∃ r,rs[j]?=some r:=⟨_,Ag lj⟩
   refine ⟨qal (show 4 <= 100000 by decide),λpz0 nz0 => ?_⟩
   obtain ⟨sz0,ez0⟩:=alc (o:=.lst [V.int 7,V.int 8,V.int 9,V.int 11]) nz0
   have nzl:pz0 ≠ q:=λz=>by obtain ⟨_,_,_,_,_,_,h1⟩:=bl0.lr j q r hqj hrj; rw [z,h1.hq] at nz0; cases nz0
   generalize upd H' pz0 _=H1' at sz0 ez0 |-
   refine ⟨_,rfl,⟨_,SqL.of ez0⟩,qc7 (K:=K) (a:=pz0) (xs:=[V.int 7,V.int 8,V.int 9,V.int 11]) (λt σ H2=>H2 pz0=some (.lst [V.int 7,V.int 8,V.int 9,V.int 11])/\∃ (rs1:List RR) (r1:RR) (room:Nat),LRs H H2 p qs rs1/\rs1.length=names.length/\GRs names (owA ns) (rkA ns) kinds rs1/\rs1[j]?=some r1/\rs1.take j=rs.take j/\room + qnb t r1=room0/\∃ v7:Option V,∃ vr:V,vr=.int (room:Int)/\σ=[some (.ref l),some (.ref pn),some (.ref pk),some (.int (mo:Int)),some (.ref p),some vr,some (.ref q),v7]) ⟨ez0,rs,r,room0,bl0.same sz0,lrs,grs,hrj,rfl,rfl,_,_,rfl,rfl⟩ (λt σ H2 _ h=>SqL.of h.1) ?_ ?_⟩
   .rintro t v σ H2 hv ⟨hpz,rs1,r1,room,bl,ln1,g1,hr1,tk1,hsum,v7,vr,rfl,rfl⟩
    have ht:t < 4:=(Ae.mp hv).1
    obtain ⟨pe,pa,pl,py,sv,us,h1⟩:=bl.lr j q r1 hqj hr1
    rcases (by lia:t=0 \/ t=1 \/ t=2 \/ t=3) with rfl | rfl | rfl | rfl
    .cases hv
     refine ⟨_,rfl,_,rfl,_,_,_,_,rfl,rfl,SqL.of h1.hq,rfl,_,rfl,_,rfl,_,_,rfl,SqL.of h1.he,λpz nz => ?_⟩
     rw [qpx _ room,<- BM]
     obtain ⟨sz,ez⟩:=alc (o:=.lst ((r1.ends.take room).map V.str)) nz
     have nzq:pz ≠ q:=λz=>by rw [z,h1.hq] at nz; cases nz
     generalize upd H2 pz _=H3 at sz ez |-
     have hq3:=sz _ _ h1.hq
     refine ⟨_,rfl,_,rfl,_,_,_,7,rfl,rfl,hq3,rfl,?_⟩
     have kt:KeepT [q] H3 (upd H3 q (.lst ((qfl r1 pe pa pl sv py).set 7 (V.ref pz)))):=KeepT.put (Aj.mpr rfl) hq3 (λ_ z=>nomatch z)
     obtain ⟨n0,n1,n2,n3⟩:=(h1.same sz).ne hq3
     have x4:LR1 (upd H3 q (.lst ((qfl r1 pe pa pl sv py).set 7 (V.ref pz)))) q (qdk 0 room r1) pz pa pl py sv us:=⟨zb,(zf nzq).trans ez,(zf n1).trans (sz _ _ h1.ha),(zf n2).trans (sz _ _ h1.hl),qbs (h1.tl.same sz) kt,(h1.hs.same sz).keep kt,(zf n3).trans (sz _ _ h1.hy)⟩
     have bl4:=(bl.same sz).put hqj hq3 ⟨_,_,_,_,_,_,x4⟩
     have lt:qh4 0 (qdk 0 room r1)=((r1.ends.take room).map V.str).length:=by rw [Ab]; rfl
     have hz4:=(zf (o:=.lst ((qfl r1 pe pa pl sv py).set 7 (V.ref pz))) nzl).trans (sz _ _ hpz)
     generalize upd H3 q _=H4 at x4 bl4 hz4 |-
     obtain ⟨cs1,cs2⟩:=qh6 (t:=0) (n:=room) (by decide) r1
     refine ⟨_,rfl,_,rfl,_,rfl,_,_,_,_,rfl,rfl,SqL.of x4.hq,rfl,_,_,rfl,.inl ⟨_,SqL.of x4.he,rfl⟩,_,_,rfl,rfl,?_⟩
     have hvr:V.int ((room:Int) - (((r1.ends.take room).map V.str).length:Int))=V.int ((room - qh4 0 (qdk 0 room r1):Nat):Int):=by rw [<- lt,Int.ofNat_sub cs2]
     exact ⟨hz4,⟨rs1.set j (qdk 0 room r1),qdk 0 room r1,room - qh4 0 (qdk 0 room r1),bl4,by rw [BT]; exact ln1,qh7 g1 hr1 (qh5 0 room r1),Bp (Ae.mp hr1).1,by rw [take_set']; exact tk1,by rw [cs1]; lia,_,V.int ((room:Int) - (((r1.ends.take room).map V.str).length:Int)),hvr,rfl⟩⟩
    .cases hv
     refine ⟨_,rfl,_,rfl,_,_,_,_,rfl,rfl,SqL.of h1.hq,rfl,_,rfl,_,rfl,_,_,rfl,SqL.of h1.ha,λpz nz => ?_⟩
     rw [qpx _ room,<- BM]
     obtain ⟨sz,ez⟩:=alc (o:=.lst ((r1.anew.take room).map V.str)) nz
     have nzq:pz ≠ q:=λz=>by rw [z,h1.hq] at nz; cases nz
     generalize upd H2 pz _=H3 at sz ez |-
     have hq3:=sz _ _ h1.hq
     refine ⟨_,rfl,_,rfl,_,_,_,8,rfl,rfl,hq3,rfl,?_⟩
     have kt:KeepT [q] H3 (upd H3 q (.lst ((qfl r1 pe pa pl sv py).set 8 (V.ref pz)))):=KeepT.put (Aj.mpr rfl) hq3 (λ_ z=>nomatch z)
     obtain ⟨n0,n1,n2,n3⟩:=(h1.same sz).ne hq3
     have x4:LR1 (upd H3 q (.lst ((qfl r1 pe pa pl sv py).set 8 (V.ref pz)))) q (qdk 1 room r1) pe pz pl py sv us:=⟨zb,(zf n0).trans (sz _ _ h1.he),(zf nzq).trans ez,(zf n2).trans (sz _ _ h1.hl),qbs (h1.tl.same sz) kt,(h1.hs.same sz).keep kt,(zf n3).trans (sz _ _ h1.hy)⟩
     have bl4:=(bl.same sz).put hqj hq3 ⟨_,_,_,_,_,_,x4⟩
     have lt:qh4 1 (qdk 1 room r1)=((r1.anew.take room).map V.str).length:=by rw [Ab]; rfl
     have hz4:=(zf (o:=.lst ((qfl r1 pe pa pl sv py).set 8 (V.ref pz))) nzl).trans (sz _ _ hpz)
     generalize upd H3 q _=H4 at x4 bl4 hz4 |-
     obtain ⟨cs1,cs2⟩:=qh6 (t:=1) (n:=room) (by decide) r1
     refine ⟨_,rfl,_,rfl,_,rfl,_,_,_,_,rfl,rfl,SqL.of x4.hq,rfl,_,_,rfl,.inl ⟨_,SqL.of x4.ha,rfl⟩,_,_,rfl,rfl,?_⟩
     have hvr:V.int ((room:Int) - (((r1.anew.take room).map V.str).length:Int))=V.int ((room - qh4 1 (qdk 1 room r1):Nat):Int):=by rw [<- lt,Int.ofNat_sub cs2]
     exact ⟨hz4,⟨rs1.set j (qdk 1 room r1),qdk 1 room r1,room - qh4 1 (qdk 1 room r1),bl4,by rw [BT]; exact ln1,qh7 g1 hr1 (qh5 1 room r1),Bp (Ae.mp hr1).1,by rw [take_set']; exact tk1,by rw [cs1]; lia,_,V.int ((room:Int) - (((r1.anew.take room).map V.str).length:Int)),hvr,rfl⟩⟩
    .cases hv
     refine ⟨_,rfl,_,rfl,_,_,_,_,rfl,rfl,SqL.of h1.hq,rfl,_,rfl,_,rfl,_,_,rfl,SqL.of h1.hl,λpz nz => ?_⟩
     rw [qpx _ room]
     obtain ⟨sz,ez⟩:=alc (o:=.lst (us.take room)) nz
     have nzq:pz ≠ q:=λz=>by rw [z,h1.hq] at nz; cases nz
     generalize upd H2 pz _=H3 at sz ez |-
     have hq3:=sz _ _ h1.hq
     refine ⟨_,rfl,_,rfl,_,_,_,9,rfl,rfl,hq3,rfl,?_⟩
     have kt:KeepT [q] H3 (upd H3 q (.lst ((qfl r1 pe pa pl sv py).set 9 (V.ref pz)))):=KeepT.put (Aj.mpr rfl) hq3 (λ_ z=>nomatch z)
     obtain ⟨n0,n1,n2,n3⟩:=(h1.same sz).ne hq3
     have x4:LR1 (upd H3 q (.lst ((qfl r1 pe pa pl sv py).set 9 (V.ref pz)))) q (qdk 2 room r1) pe pa pz py sv (us.take room):=⟨zb,(zf n0).trans (sz _ _ h1.he),(zf n1).trans (sz _ _ h1.ha),(zf nzq).trans ez,(by show Tups _ _ ((r1.longer.take room).map qpu); rw [BM]; exact qbs (qsq (h1.tl.same sz) room) kt),(h1.hs.same sz).keep kt,(zf n3).trans (sz _ _ h1.hy)⟩
     have bl4:=(bl.same sz).put hqj hq3 ⟨_,_,_,_,_,_,x4⟩
     have lt:qh4 2 (qdk 2 room r1)=(us.take room).length:=by show (r1.longer.take room).length=_; rw [A2,A2,show us.length=r1.longer.length by rw [h1.tl.length,Ab]]
     have hz4:=(zf (o:=.lst ((qfl r1 pe pa pl sv py).set 9 (V.ref pz))) nzl).trans (sz _ _ hpz)
     generalize upd H3 q _=H4 at x4 bl4 hz4 |-
     obtain ⟨cs1,cs2⟩:=qh6 (t:=2) (n:=room) (by decide) r1
     refine ⟨_,rfl,_,rfl,_,rfl,_,_,_,_,rfl,rfl,SqL.of x4.hq,rfl,_,_,rfl,.inl ⟨_,SqL.of x4.hl,rfl⟩,_,_,rfl,rfl,?_⟩
     have hvr:V.int ((room:Int) - ((us.take room).length:Int))=V.int ((room - qh4 2 (qdk 2 room r1):Nat):Int):=by rw [<- lt,Int.ofNat_sub cs2]
     exact ⟨hz4,⟨rs1.set j (qdk 2 room r1),qdk 2 room r1,room - qh4 2 (qdk 2 room r1),bl4,by rw [BT]; exact ln1,qh7 g1 hr1 (qh5 2 room r1),Bp (Ae.mp hr1).1,by rw [take_set']; exact tk1,by rw [cs1]; lia,_,V.int ((room:Int) - ((us.take room).length:Int)),hvr,rfl⟩⟩
    .cases hv
     refine ⟨_,rfl,_,rfl,_,_,_,_,rfl,rfl,SqL.of h1.hq,rfl,_,rfl,_,rfl,_,_,rfl,SqL.of h1.hy,λpz nz => ?_⟩
     rw [qpx _ room,<- BM]
     obtain ⟨sz,ez⟩:=alc (o:=.lst ((r1.yields.take room).map V.str)) nz
     have nzq:pz ≠ q:=λz=>by rw [z,h1.hq] at nz; cases nz
     generalize upd H2 pz _=H3 at sz ez |-
     have hq3:=sz _ _ h1.hq
     refine ⟨_,rfl,_,rfl,_,_,_,11,rfl,rfl,hq3,rfl,?_⟩
     have kt:KeepT [q] H3 (upd H3 q (.lst ((qfl r1 pe pa pl sv py).set 11 (V.ref pz)))):=KeepT.put (Aj.mpr rfl) hq3 (λ_ z=>nomatch z)
     obtain ⟨n0,n1,n2,n3⟩:=(h1.same sz).ne hq3
     have x4:LR1 (upd H3 q (.lst ((qfl r1 pe pa pl sv py).set 11 (V.ref pz)))) q (qdk 3 room r1) pe pa pl pz sv us:=⟨zb,(zf n0).trans (sz _ _ h1.he),(zf n1).trans (sz _ _ h1.ha),(zf n2).trans (sz _ _ h1.hl),qbs (h1.tl.same sz) kt,(h1.hs.same sz).keep kt,(zf nzq).trans ez⟩
     have bl4:=(bl.same sz).put hqj hq3 ⟨_,_,_,_,_,_,x4⟩
     have lt:qh4 3 (qdk 3 room r1)=((r1.yields.take room).map V.str).length:=by rw [Ab]; rfl
     have hz4:=(zf (o:=.lst ((qfl r1 pe pa pl sv py).set 11 (V.ref pz))) nzl).trans (sz _ _ hpz)
     generalize upd H3 q _=H4 at x4 bl4 hz4 |-
     obtain ⟨cs1,cs2⟩:=qh6 (t:=3) (n:=room) (by decide) r1
     refine ⟨_,rfl,_,rfl,_,rfl,_,_,_,_,rfl,rfl,SqL.of x4.hq,rfl,_,_,rfl,.inl ⟨_,SqL.of x4.hy,rfl⟩,_,_,rfl,rfl,?_⟩
     have hvr:V.int ((room:Int) - (((r1.yields.take room).map V.str).length:Int))=V.int ((room - qh4 3 (qdk 3 room r1):Nat):Int):=by rw [<- lt,Int.ofNat_sub cs2]
     exact ⟨hz4,⟨rs1.set j (qdk 3 room r1),qdk 3 room r1,room - qh4 3 (qdk 3 room r1),bl4,by rw [BT]; exact ln1,qh7 g1 hr1 (qh5 3 room r1),Bp (Ae.mp hr1).1,by rw [take_set']; exact tk1,by rw [cs1]; lia,_,V.int ((room:Int) - (((r1.yields.take room).map V.str).length:Int)),hvr,rfl⟩⟩
   .rintro σ H2 ⟨hpz,rs1,r1,room,bl,ln1,g1,hr1,tk1,hsum,v7,vr,rfl,rfl⟩
    have hsum:room + qnb 4 r1=room0:=hsum
    obtain ⟨pe,pa,pl,py,sv,us,h1⟩:=bl.lr j q r1 hqj hr1
    have lj1:=(Ae.mp hr1).1
    have ex0:r1.still=none->exR r1=qnb 4 r1:=λe=>by unfold exR qnb; rw [e]; rfl
    have ex1:∀ s,r1.still=some s->exR r1=qnb 4 r1 + 1:=λs e=>by unfold exR qnb; rw [e]; rfl
    refine ⟨_,rfl,rfl,_,rfl,qb4 (λc => ?_) (λc => ?_)⟩
    .have c:(room:Int)=0:=V.int.inj (of_decide_eq_true c)
     refine ⟨_,rfl,_,_,_,10,rfl,rfl,h1.hq,rfl,?_⟩
     have kt:KeepT [q] H2 (upd H2 q (.lst ((qfl r1 pe pa pl sv py).set 10 V.non))):=KeepT.put (Aj.mpr rfl) h1.hq (λ_ z=>nomatch z)
     obtain ⟨n0,n1,n2,n3⟩:=h1.ne h1.hq
     have few:Fewer r1 { r1 with still:=none }:=⟨rfl,rfl,rfl,rfl,rfl,rfl,rfl,BQ _,BQ _,BQ _,.inr rfl,BQ _⟩
     have x4:LR1 (upd H2 q (.lst ((qfl r1 pe pa pl sv py).set 10 V.non))) q { r1 with still:=none } pe pa pl py .non us:=⟨zb,(zf n0).trans h1.he,(zf n1).trans h1.ha,(zf n2).trans h1.hl,qbs h1.tl kt,rfl,(zf n3).trans h1.hy⟩
     have bl4:=bl.put hqj h1.hq ⟨_,_,_,_,_,_,x4⟩
     generalize upd H2 q _=H4 at x4 bl4 |-
     refine ⟨_,rfl,_,_,_,_,rfl,rfl,SqL.of x4.hq,rfl,rfl,_,rfl,qdl rfl ?_⟩
     have hx:(rs1.set j { r1 with still:=none })[j]?=some { r1 with still:=none }:=Bp lj1
     refine ⟨_,room,bl4,by rw [BT]; exact ln1,qh7 g1 hr1 few,?_,_,_,rfl⟩
     rw [qkq hx,take_set',tk1]
     have:exR { r1 with still:=none }=qnb 4 r1:=rfl
     rw [this]; lia
    .have c:room ≠ 0:=λz=>c (decide_eq_true (by rw [z]; rfl))
     have hst:=h1.hs
     cases es:r1.still with
     | none =>
      rw [es] at hst
      cases hst
      refine ⟨_,rfl,_,_,_,_,rfl,rfl,SqL.of h1.hq,rfl,rfl,_,rfl,qdl rfl ?_⟩
      exact ⟨rs1,room,bl,ln1,g1,by rw [qkq hr1,tk1,ex0 es]; lia,_,_,rfl⟩
     | some sp =>
      rw [es] at hst
      obtain ⟨ps,rfl,_⟩:=hst
      refine ⟨_,rfl,_,_,_,_,rfl,rfl,SqL.of h1.hq,rfl,rfl,_,rfl,qe7 (λz=>nomatch z) ⟨_,rfl,_,_,rfl,rfl,?_⟩⟩
      exact ⟨rs1,room - 1,bl,ln1,g1,by rw [qkq hr1,tk1,ex1 _ es]; lia,_,_,by rw [show ((room - 1:Nat):Int)=(room:Int) - 1 by lia]; rfl⟩
  .rintro σ H' ⟨rs,room,bl,lrs,grs,hroom,v6,v7,rfl⟩
   rw [Ab,lq,<- lrs,Bs] at hroom
   exact ⟨_,rfl,k p H' qs rs bl lrs grs (by rw [<- lrs]; lia)⟩
theorem qqe (T:Txt K mg a):FnOk P w K mg base CX0 1 a.fLawSorts a.gLawSorts ["_law_rule_here"] spSo:=by
 refine T.dLawSorts.fn.ok qa3 (λvs H Q E h => ?_) (λcdv A outer s H vs Q E hr h => ?_)
 .obtain ⟨_,_,rfl,_⟩:=h
  all_goals rfl
 .obtain ⟨p,r,rfl,lr,ok,k⟩:=h
  refine ⟨_,(qp (zh (i:=1) qa3.nd rfl (Cq rfl) (zz jb (pv 0) qu (λ_ _=>rfl)))
   (qp (zh (i:=2) qa3.nd rfl (Aw rfl) (zi qaa zq (qb3 qsi (by rfl) T.n_str qeo (qj (zz jb (pv 0) qu (λ_ _=>rfl)) qt zx))))
   (qp (zm (zg qdd (zz jb (pv 0) qu (λ_ _=>rfl)) qbk (qad _)) (qz (zh (i:=2) qa3.nd rfl (Aw rfl) (zi qaa zq (zz jb (pv 0) qu (λ_ _=>rfl))))) qag)
   (qp (zh (i:=3) qa3.nd rfl (Aw rfl) (zi qaa (zi qaa (zi qaa (zi qaa (zi qaa zq (pv 1)) zq) (zz jb (pv 0) qu (λ_ _=>rfl))) zq) (zz jb (pv 0) qu (λ_ _=>rfl))))
   (qp (zh (i:=3) qa3.nd rfl (Aw rfl) (zi qaa (zi qaa (zi qaa (zi qaa (zi qaa (zi qaa (pv 3) zq) (pv 2)) zq) (qb3 qd5 (by rfl) T.n_str qeo (qj (zz jb (pv 0) qu (λ_ _=>rfl)) qt zx))) zq) (zz jb (pv 0) qu (λ_ _=>rfl))))
   (qp (qcu (i:=4) qa3.nd rfl rfl (N:=["_law_kind", "_law_name"]) (js:=[none,some 1]) (XN:=["_law_rule_here", "_law_name", "_law_way", "_law_head", "_law_ends", "_law_anew", "_law_longer", "_law_kind", "_law_units", "_law_times", "_law_row", "_law_still", "_law_yields_here"]) (xs:=qab qee) rfl rfl rfl (by decide +kernel) (qb1 (zz jb (pv 0) qu (λ_ _=>rfl))) (λ_ _ _ _ _ _=>(qak (i:=0) (show BW (["_law_kind", "_law_name"]:List Str) from by decide +kernel) rfl (Aw rfl) (Cq rfl))) (λ_ _ _ _ _ _=>qdf) (λ_ _ _ _ _ _=>(zi qaa (zi qaa (zi qaa zq (pv 1)) zq) (pv 0))))
   (qp (qcu (i:=5) qa3.nd rfl rfl (N:=["_law_kind", "_law_name"]) (js:=[none,some 1]) (XN:=["_law_rule_here", "_law_name", "_law_way", "_law_head", "_law_ends", "_law_anew", "_law_longer", "_law_kind", "_law_units", "_law_times", "_law_row", "_law_still", "_law_yields_here"]) (xs:=qab qee) rfl rfl rfl (by decide +kernel) (qb1 (zz jb (pv 0) qu (λ_ _=>rfl))) (λ_ _ _ _ _ _=>(qak (i:=0) (show BW (["_law_kind", "_law_name"]:List Str) from by decide +kernel) rfl (Aw rfl) (Cq rfl))) (λ_ _ _ _ _ _=>qdf) (λ_ _ _ _ _ _=>(zi qaa (zi qaa (zi qaa zq (pv 1)) zq) (pv 0))))
   (qp (zh (i:=6) qa3.nd rfl (Aw rfl) (zr qt))
   (qp (qcn B4 rfl (qb1 (zz jb (pv 0) qu (λ_ _=>rfl))) (qie rfl (qbn (qak (i:=7) qa3.nd rfl (Aw rfl)) (qbn (qak (i:=8) qa3.nd rfl (Aw rfl)) (qbn (qak (i:=9) qa3.nd rfl (Aw rfl)) qgo)))) (qp (zh (i:=10) qa3.nd rfl (Aw rfl) (zi qaa (zi qaa (zi qaa (zi qaa (zi qaa zq (pv 1)) zq) (pv 7)) zq) (qb3 qd5 (by rfl) T.n_str qeo (qj (pv 8) qt qm))))
   (qz (zk (qcb A9 AE AF qa0 (pv 6) (qj (zi qaa (zi qaa (pv 10) zq) (qb3 qd5 (by rfl) T.n_str qeo (qj (pv 9) qt qm))) qt zw))))))
   (qp (zh (i:=11) qa3.nd rfl (Aw rfl) (zr qt))
   (qp (zm (zg qdd (zz jb (pv 0) qu (λ_ _=>rfl)) qbk (qad _)) (qz (zh (i:=11) qa3.nd rfl (Aw rfl) (zr (qj (zi qaa (zi qaa (zi qaa (zi qaa (zi qaa zq (pv 1)) zq) (zz ja (zz jb (pv 0) qu (λ_ _=>rfl)) qu (λ_ _=>rfl))) zq) (zz ja (zz jb (pv 0) qu (λ_ _=>rfl)) qu (λ_ _=>rfl))) qt zw)))) qag)
   (qp (qcu (i:=12) qa3.nd rfl rfl (N:=["_law_other", "_law_name"]) (js:=[none,some 1]) (XN:=["_law_rule_here", "_law_name", "_law_way", "_law_head", "_law_ends", "_law_anew", "_law_longer", "_law_kind", "_law_units", "_law_times", "_law_row", "_law_still", "_law_yields_here"]) (xs:=qab qee) rfl rfl rfl (by decide +kernel) (qb1 (zz jb (pv 0) qu (λ_ _=>rfl))) (λ_ _ _ _ _ _=>(qak (i:=0) (show BW (["_law_other", "_law_name"]:List Str) from by decide +kernel) rfl (Aw rfl) (Cq rfl))) (λ_ _ _ _ _ _=>qdf) (λ_ _ _ _ _ _=>(zi qaa (zi qaa (zi qaa zq (pv 1)) zq) (pv 0))))
   (qz (zd (zr (qj (zr (qj (pv 3) qt qm)) (qj (pv 4) (qj (pv 5) (qj (pv 6) (qj (pv 11) (qj (pv 12) qt qm) qm) qm) qm) qm) qtt)))))))))))))))),?_⟩
  obtain ⟨pe,pa,pl,py,sv,us,h1⟩:=lr
  obtain ⟨l1,l2,l3,l4,l5,l6,l7,l8,l9,l10,l11,l12,l13⟩:=qkt
  obtain ⟨k1,k2,k3,k4,k5,k6⟩:=ok.kin
  obtain ⟨z1,z2,z3,z4⟩:=ok.sz
  have n8:r.name.length <= 8:=ok.nm.2.1
  have w8:r.who.length <= 8:=ok.wh.2.1
  have o8:r.owes.length <= 8:=k1.2.1
  have u8:r.unit.length <= 5:=(qnc ok.un).2.2
  have m8:(Aa (toString r.many)).length <= 2:=(qh8 ok.mn.1 ok.mn.2).2.2.2.1
  have op8:(r.opens.getD "None").length <= 8:=by
   cases eo:r.opens with
   | none=>show (Aa "None").length <= 8; lia
   | some x=>exact (k5 x eo).2.1
  refine ⟨_,rfl,_,_,_,_,rfl,rfl,SqL.of (h1.hq),rfl,?_⟩
  refine ⟨_,rfl,_,_,_,_,rfl,rfl,SqL.of (h1.hq),rfl,r.opens,by cases r.opens <;> rfl,_,_,rfl,rfl,fz,?_⟩
  have hb':r.base=none \/ ∃ y,r.base=some y:=by
   cases r.base with
   | none=>exact .inl rfl
   | some y=>exact .inr ⟨y,rfl⟩
  have way8:(qlf r).length <= 15:=by
   unfold qlf
   cases eb:r.base with
   | none=>show (Aa "from " ++ r.opens.getD "None").length <= 15; rw [qgw]; lia
   | some y=>have:y.length <= 8:=(ok.ba y eb).2.1; show (Aa "behind " ++ y).length <= 15; rw [qgw]; lia
  apply useV (p:=λx=>x=some (.str (qlf r)))
  .intro fin
   refine hb'.elim (λz => ?_) (λz => ?_)
   .refine ⟨_,rfl,_,_,_,_,rfl,rfl,SqL.of (h1.hq),rfl,rfl,_,rfl,qdl (by rw [z]; rfl) ?_⟩
    have ew:(some (V.str (Aa "from " ++ r.opens.getD "None")):Option V)=some (.str (qlf r)):=by unfold qlf; rw [z]
    generalize (some (V.str (Aa "from " ++ r.opens.getD "None")):Option V)=x2 at ew |-
    exact fin x2 ew
   .obtain ⟨y,eb⟩:=z
    have eb':qd1 r.base=.str y:=by rw [eb]; rfl
    have y8:y.length <= 8:=(ok.ba y eb).2.1
    refine ⟨_,rfl,_,_,_,_,rfl,rfl,SqL.of (h1.hq),rfl,rfl,_,rfl,qe7 (λz=>by rw [eb'] at z; cases z) ?_⟩
    refine ⟨_,rfl,_,_,_,_,rfl,rfl,SqL.of (h1.hq),rfl,_,y,rfl,eb',qal (by lia),?_⟩
    exact fin _ (by unfold qlf; rw [eb])
  rintro x2 rfl
  refine ⟨_,rfl,_,_,rfl,rfl,fz,_,_,rfl,rfl,fz,_,rfl,_,_,_,_,rfl,rfl,SqL.of (h1.hq),rfl,_,_,rfl,rfl,fz,_,_,rfl,rfl,fz,_,rfl,_,_,_,_,rfl,rfl,SqL.of (h1.hq),rfl,_,_,rfl,rfl,fz,?_⟩
  refine ⟨_,rfl,_,_,rfl,rfl,fz,_,rfl,_,_,rfl,rfl,fz,_,_,rfl,rfl,fz,_,rfl,_,_,_,_,rfl,rfl,SqL.of (h1.hq),rfl,_,rfl,qpz (by have:=ok.mn; lia),_,_,rfl,rfl,fz,_,_,rfl,rfl,fz,_,rfl,_,_,_,_,rfl,rfl,SqL.of (h1.hq),rfl,_,_,rfl,rfl,fz,?_⟩
  have elt:=qss r
  have s00:=Same.refl H
  rw [show (Aa "term " ++ r.name ++ Aa " of " ++ r.who ++ Aa " due " ++ r.owes ++ Aa " " ++ qlf r ++ Aa " " ++ Aa (toString r.many) ++ Aa " " ++ r.unit)=qam (qcc r) from elt]
  refine ⟨_,rfl,_,_,_,_,rfl,rfl,SqL.of (s00 _ _ h1.hq),rfl,_,rfl,⟨_,SqL.of (s00 _ _ h1.he)⟩,?_⟩
  refine qc1 (λv=>match v with | .str y=>.str (qam (.ends r.name y)) | _=>.non) (λσ'=>∃ v,σ'=[v,some (.str r.name)]) (qdo (K:=K) (SqL.of (s00 _ _ h1.he))) (qal (by rw [Ab]; lia)) ⟨none,rfl⟩ (λv σ' J RR' hv sm s4 qq => ?_) qc2 λp1 np1 => ?_
  .obtain ⟨v0,rfl⟩:=s4
   obtain ⟨y,hy,rfl⟩:=AS.mp hv
   have y8:y.length <= 8:=(k2 y hy).2.1
   have qq:=qq [some (.str y),some (.str r.name)] ⟨_,rfl⟩
   dsimp only at qq
   rw [<- qmd] at qq
   exact ⟨_,rfl,_,_,rfl,rfl,fz,_,_,rfl,rfl,fz,_,rfl,_,_,rfl,rfl,fz,qq⟩
  rw [show ((r.ends).map V.str).map (λv=>match v with | .str y=>V.str (qam (.ends r.name y)) | _=>.non)=qbz ((r.ends).map (.ends r.name)) by unfold qbz; rw [Bf,Bf,Bf]; rfl]
  obtain ⟨s0,e1⟩:=alc (o:=.lst (qbz ((r.ends).map (.ends r.name)))) np1
  generalize upd H p1 _=H1 at s0 e1 |-
  have s10:=s0
  refine ⟨_,rfl,_,_,_,_,rfl,rfl,SqL.of (s10 _ _ h1.hq),rfl,_,rfl,⟨_,SqL.of (s10 _ _ h1.ha)⟩,?_⟩
  refine qc1 (λv=>match v with | .str y=>.str (qam (.anew r.name y)) | _=>.non) (λσ'=>∃ v,σ'=[v,some (.str r.name)]) (qdo (K:=K) (SqL.of (s10 _ _ h1.ha))) (qal (by rw [Ab]; lia)) ⟨none,rfl⟩ (λv σ' J RR' hv sm s4 qq => ?_) qc2 λp2 np2 => ?_
  .obtain ⟨v0,rfl⟩:=s4
   obtain ⟨y,hy,rfl⟩:=AS.mp hv
   have y8:y.length <= 8:=(k3 y hy).2.1
   have qq:=qq [some (.str y),some (.str r.name)] ⟨_,rfl⟩
   dsimp only at qq
   rw [<- qme] at qq
   exact ⟨_,rfl,_,_,rfl,rfl,fz,_,_,rfl,rfl,fz,_,rfl,_,_,rfl,rfl,fz,qq⟩
  rw [show ((r.anew).map V.str).map (λv=>match v with | .str y=>V.str (qam (.anew r.name y)) | _=>.non)=qbz ((r.anew).map (.anew r.name)) by unfold qbz; rw [Bf,Bf,Bf]; rfl]
  obtain ⟨s1,e2⟩:=alc (o:=.lst (qbz ((r.anew).map (.anew r.name)))) np2
  generalize upd H1 p2 _=H2 at s1 e2 |-
  have s20:=s10.trans s1
  refine ⟨qe3,λp3 n3 => ?_⟩
  obtain ⟨s2,e3⟩:=alc (o:=.lst []) n3
  generalize upd H2 p3 _=H3 at s2 e3 |-
  have s30:=s20.trans s2
  have lu:us.length=r.longer.length:=by rw [h1.tl.length,Ab]
  refine ⟨_,rfl,_,_,_,_,rfl,rfl,SqL.of (s30 _ _ h1.hq),rfl,_,rfl,⟨_,SqL.of (s30 _ _ h1.hl)⟩,qc7 (K:=K) (a:=pl) (xs:=us) (λi σ J=>Same H2 J/\J p3=some (.lst (qbz ((r.longer.take i).map λt=>.longer r.name t.1 t.2.1 t.2.2)))/\∃ v7 v8 v9 v10:Option V,σ=[some (.ref p),some (.str r.name),some (.str (qlf r)),some (.str (qam (qcc r))),some (.ref p1),some (.ref p2),some (.ref p3),v7,v8,v9,v10,none,none]) ⟨s2,e3,none,none,none,none,rfl⟩ (λi σ J _ h=>SqL.of ((s20.trans h.1) _ _ h1.hl)) ?_ ?_⟩
  .rintro i v σ J hv ⟨sJ,hJ,v7,v8,v9,v10,rfl⟩
   obtain ⟨b,t,rfl,g1,g2⟩:=h1.tl.get' hv
   rw [Ak] at g1
   cases eg:r.longer[i]? with
   | none=>rw [eg] at g1; cases g1
   | some tr =>
   rw [eg] at g1
   cases g1
   have hi:i < r.longer.length:=(Ae.mp eg).1
   have tm:=Ap eg
   obtain ⟨⟨b1,b2⟩,b3,b4⟩:=ok.lg tr tm
   have t8:tr.1.length <= 8:=(k4 tr tm).2.1
   have a2:(Aa (toString tr.2.1)).length <= 2:=(qh8 b1 (by lia)).2.2.2.1
   have a3:(Aa (toString tr.2.2)).length <= 2:=(qh8 b3 (by lia)).2.2.2.1
   refine ⟨_,_,rfl,SqT.of ((s20.trans sJ) _ _ g2),rfl,_,_,rfl,_,_,rfl,_,_,rfl,rfl,?_⟩
   refine ⟨_,rfl,_,_,rfl,rfl,fz,_,_,rfl,rfl,fz,_,rfl,_,_,rfl,rfl,fz,_,_,rfl,rfl,fz,_,rfl,_,rfl,qpz (by lia),_,_,rfl,rfl,fz,?_⟩
   refine ⟨_,rfl,.inl ⟨rfl,_,SqL.of hJ⟩,_,rfl,_,_,rfl,rfl,fz,_,rfl,_,rfl,qpz (by lia),_,_,rfl,rfl,fz,_,_,_,rfl,rfl,hJ,qb6 (by unfold qbz; rw [Ab,Ab,Ab,A2]; lia),?_⟩
   refine ⟨qaj sJ n3,?_,_,_,_,_,rfl⟩
   rw [zb,qbg eg,Ar]
   unfold qbz
   rw [Ar,Ar]
   show some (HO.lst (_ ++ [V.str (wS "longer " ++ r.name ++ wS " " ++ tr.1 ++ wS " " ++ nS tr.2.1 ++ wS " times " ++ nS tr.2.2)]))=_
   rw [qop]; rfl
  .rintro σ H4 ⟨s4,e4,v7,v8,v9,v10,rfl⟩
   rw [lu,Bs] at e4
   have s40:=s20.trans s4
   refine ⟨qe3,λp5 n5 => ?_⟩
   obtain ⟨s5,e5⟩:=alc (o:=.lst []) n5
   generalize upd H4 p5 _=H5 at s5 e5 |-
   have s50:=s40.trans s5
   have hs5:=h1.hs.same s50
   have hst':r.still=none \/ ∃ s,r.still=some s:=by
    cases r.still with
    | none=>exact .inl rfl
    | some s=>exact .inr ⟨s,rfl⟩
   apply use2 (p:=λ(H6:Hp) (x:Option V)=>∃ p6,x=some (.ref p6)/\Same H5 H6/\H6 p6=some (.lst (qbz (qgj r.name r.still))))
   .intro fin
    refine hst'.elim (λz => ?_) (λz => ?_)
    .rw [z] at hs5
     have hs5:sv=.non:=hs5
     refine ⟨_,rfl,_,_,_,_,rfl,rfl,SqL.of (s50 _ _ h1.hq),rfl,rfl,_,rfl,qdl hs5 ?_⟩
     obtain ⟨H6,hH6⟩:∃ H6,H6=H5:=⟨_,rfl⟩
     have qq:∃ p6,some (V.ref p5)=some (.ref p6)/\Same H5 H6/\H6 p6=some (.lst (qbz (qgj r.name r.still))):=⟨p5,rfl,by rw [hH6]; exact Same.refl _,by rw [hH6,z,e5]; rfl⟩
     rw [<- hH6]
     generalize (some (V.ref p5):Option V)=x11 at qq |-
     exact fin H6 x11 qq
    .obtain ⟨s,es⟩:=z
     rw [es] at hs5
     obtain ⟨b,hb,hs5⟩:=hs5
     obtain ⟨q1,q2⟩:=k6 s es
     have q1:s.1.length <= 8:=q1.2.1
     have q2:s.2.length <= 8:=q2.2.1
     refine ⟨_,rfl,_,_,_,_,rfl,rfl,SqL.of (s50 _ _ h1.hq),rfl,rfl,_,rfl,qe7 (λz=>by rw [hb] at z; cases z) ?_⟩
     refine ⟨_,rfl,_,_,rfl,rfl,fz,_,_,rfl,rfl,fz,_,rfl,_,_,_,_,rfl,rfl,SqL.of (s50 _ _ h1.hq),rfl,_,_,_,_,hb,rfl,SqT.of hs5,rfl,_,_,rfl,rfl,fz,_,_,rfl,rfl,fz,_,rfl,_,_,_,_,rfl,rfl,SqL.of (s50 _ _ h1.hq),rfl,_,_,_,_,hb,rfl,SqT.of hs5,rfl,_,_,rfl,rfl,fz,qal (show 1 <= 100000 by decide),λp6 n6 => ?_⟩
     refine fin _ (some (.ref p6)) ⟨p6,rfl,zj n6,?_⟩
     rw [zb,es]
     show some (HO.lst [V.str (wS "still " ++ r.name ++ wS " " ++ s.1 ++ wS " " ++ s.2)])=_
     rw [qdr]; rfl
   rintro H6 x11 ⟨p6,rfl,s6,e6⟩
   have s60:=s50.trans s6
   have z4':=z4
   refine ⟨_,rfl,_,_,_,_,rfl,rfl,SqL.of (s60 _ _ h1.hq),rfl,_,rfl,⟨_,SqL.of (s60 _ _ h1.hy)⟩,?_⟩
   refine qc1 (λv=>match v with | .str y=>.str (qam (.yields r.name y)) | _=>.non) (λσ'=>∃ v,σ'=[v,some (.str r.name)]) (qdo (K:=K) (SqL.of (s60 _ _ h1.hy))) (qal (by rw [Ab]; lia)) ⟨none,rfl⟩ (λv σ' J RR' hv sm s4 qq => ?_) qc2 λp7 np7 => ?_
   .obtain ⟨v0,rfl⟩:=s4
    obtain ⟨y,hy,rfl⟩:=AS.mp hv
    have y8:y.length <= 8:=(ok.yl y hy).2.1
    have qq:=qq [some (.str y),some (.str r.name)] ⟨_,rfl⟩
    dsimp only at qq
    rw [<- qi6] at qq
    exact ⟨_,rfl,_,_,rfl,rfl,fz,_,_,rfl,rfl,fz,_,rfl,_,_,rfl,rfl,fz,qq⟩
   rw [show ((r.yields).map V.str).map (λv=>match v with | .str y=>V.str (qam (.yields r.name y)) | _=>.non)=qbz ((r.yields).map (.yields r.name)) by unfold qbz; rw [Bf,Bf,Bf]; rfl]
   obtain ⟨s6',e7⟩:=alc (o:=.lst (qbz ((r.yields).map (.yields r.name)))) np7
   generalize upd H6 p7 _=H7 at s6' e7 |-
   have s70:=s60.trans s6'
   refine ⟨_,rfl,qal (show 1 <= 100000 by decide),λp8 n8' => ?_⟩
   obtain ⟨s8,e8⟩:=alc (o:=.lst [V.str (qam (qcc r))]) n8'
   generalize upd H7 p8 _=H8 at s8 e8 |-
   have s80:=s70.trans s8
   refine ⟨_,rfl,_,rfl,_,rfl,_,rfl,_,rfl,qal (show 6 <= 100000 by decide),λq nq => ?_⟩
   have s9:=zj (o:=.lst [V.ref p8,V.ref p1,V.ref p2,V.ref p3,V.ref p6,V.ref p7]) nq
   have s89:=s8.trans s9
   have s79:=s6'.trans s89
   have s59:=s6.trans s79
   have s49:=s5.trans s59
   have s29:=s4.trans s49
   refine k q _ _ (s80.free nq) (s80.trans s9) zb rfl λi v rw hv hrw => ?_
   have hi:i < 6:=(Ae.mp hv).1
   rcases (by lia:i=0 \/ i=1 \/ i=2 \/ i=3 \/ i=4 \/ i=5) with rfl | rfl | rfl | rfl | rfl | rfl
   .cases hv; cases hrw; exact ⟨p8,rfl,s9 _ _ e8⟩
   .cases hv; cases hrw; exact ⟨p1,rfl,(s1.trans s29) _ _ e1⟩
   .cases hv; cases hrw; exact ⟨p2,rfl,s29 _ _ e2⟩
   .cases hv; cases hrw; exact ⟨p3,rfl,s49 _ _ e4⟩
   .cases hv; cases hrw; exact ⟨p6,rfl,s79 _ _ e6⟩
   .cases hv; cases hrw; exact ⟨p7,rfl,s89 _ _ e7⟩
theorem qmn (T:Txt K mg a):FnOk P w K mg base CX0 2 a.fLawRows a.gLawRows ["_law_rule_here"] spRws:=by
 refine T.dLawRows.fn.ok qgu (λvs H Q E h => ?_) (λcdv A outer s H vs Q E hr h => ?_)
 .obtain ⟨_,_,rfl,_⟩:=h
  all_goals rfl
 .obtain ⟨p,r,rfl,lr,ok,k⟩:=h
  refine ⟨_,(qp (zh (i:=1) qgu.nd rfl (Aw rfl) (zr qt))
   (qp (qcn B4 rfl (qb1 (zn (qqe T) (hr.mono (by decide)) rfl T.dLawSorts.mgx T.dLawSorts.fn.kp T.dLawSorts.bd .nil qau (qj (pv 0) qt qm))) (qak (i:=2) qgu.nd rfl (Aw rfl)) (qz (zh (i:=1) qgu.nd rfl (Aw rfl) (zi qde (pv 1) (pv 2)))))
   (qz (zd (pv 1))))),?_⟩
  refine ⟨qe3,λq0 n0 => ?_⟩
  obtain ⟨s0,e0⟩:=alc (o:=.lst []) n0
  generalize upd H q0 _=H0 at s0 e0 |-
  refine ⟨_,rfl,p,r,rfl,lr.same s0,ok,λps H1 us nps s1 es lus hus => ?_⟩
  have s01:=s0.trans s1
  have sl:=qvg ok
  have lS:(qg5 r).length=6:=rfl
  refine ⟨_,rfl,⟨_,SqL.of es⟩,qc7 (K:=K) (a:=ps) (xs:=us) (λi σ J=>Same H1 J/\(∃ q,J q=some (.lst (qbz ((qg5 r).take i).flatten))/\H q=none/\∃ v2:Option V,σ=[some (.ref p),some (.ref q),v2])/\((qg5 r).take i).flatten.length <= 100 * i) ⟨Same.refl _,⟨q0,s1 _ _ e0,n0,none,rfl⟩,by simp⟩ (λi σ J _ h=>SqL.of (h.1 _ _ es)) ?_ ?_⟩
  .rintro i v σ J hv ⟨sJ,⟨q,hq,nq,v2,rfl⟩,li⟩
   have hi:i < 6:=by rw [<- lus]; exact (Ae.mp hv).1
   obtain ⟨rw',hrw⟩:∃ rw',(qg5 r)[i]?=some rw':=⟨_,Ag (by rw [lS]; exact hi)⟩
   obtain ⟨b,rfl,hb⟩:=hus i v rw' hv hrw
   have lb:=sl rw' (Ap hrw)
   have lz:∀ z:List Rw7,(qbz z).length=z.length:=λz=>by unfold qbz; rw [Ab,Ab]
   refine ⟨_,rfl,_,rfl,_,_,_,_,rfl,rfl,hq,sJ _ _ hb,qal (by rw [lz,lz]; lia),λq2 n2 => ?_⟩
   refine ⟨sJ.trans (zj n2),⟨q2,?_,(s01.trans sJ).free n2,_,rfl⟩,?_⟩
   .rw [zb,qbg hrw,List.flatten_append]
    unfold qbz
    rw [Ar,Ar]
    simp
   .rw [qbg hrw,List.flatten_append,Ai]
    simp only [List.flatten_cons,List.flatten_nil,Be]
    lia
  .rintro σ J ⟨sJ,⟨q,hq,nq,v2,rfl⟩,li⟩
   rw [lus,<- lS,Bs] at hq
   exact ⟨_,rfl,k q J nq (s01.trans sJ) hq⟩
theorem qs8 (T:Txt K mg a):FnOk P w K mg base CX0 8 a.fLawTold a.gLawTold ["_law_text"] (spTo a):=by
 refine T.dLawTold.fn.ok qbd (λvs H Q E h => ?_) (λcdv A outer s H vs Q E hr h => ?_)
 .obtain ⟨_,rfl,_⟩:=h
  all_goals rfl
 .obtain ⟨ls,rfl,hls,k,ke⟩:=h
  refine ⟨_,(qp (zh (i:=1) qbd.nd rfl (Aw rfl) (zt (qj zq (qj qbk (qj qg2 qt zc) zc) zc)))
   (qp (qyo ⟨rfl,rfl⟩ (λ_ _ _ hx hp=>(qz (zk (qdz (qk5 T) (hr.mono (by decide)) rfl T.dReadBook.mgx T.dReadBook.fn.kp T.dReadBook.bd .nil hx (qj (pv 0) qt qm))))) (ph_no (qd0 (qc3 rfl T.m_Adrift) (qd0 (qc3 rfl T.m_Full) (qd0 (qc3 rfl T.m_NoAct) (qd0 (qc3 rfl T.m_NoDay) (qd0 (qc3 rfl T.m_NoName) (qd0 (qc3 rfl T.m_NoRow) (qd0 (qc3 rfl T.m_NoTable) (qd0 (qc3 rfl T.m_Parted) qws)))))))) (qn5 (i:=2) qbd.nd rfl rfl (qc3 rfl T.m_NoRule) (λ_=>(qp (zh (i:=3) qbd.nd rfl (Aw rfl) (qjq (zo qih (by rfl) T.n_isinstance qah (qj (pv 2) (qj (zt (qj (qbj (v:=.ref a.cNoTerm) rfl T.m_NoTerm rfl) (qj (qbj (v:=.ref a.cRing) rfl T.m_Ring rfl) (qj (qbj (v:=.ref a.cTwice) rfl T.m_Twice rfl) (qj (qbj (v:=.ref a.cUnfit) rfl T.m_Unfit rfl) qt qm) qm) qm) qm)) qt zy) qm))))
   (qz (zh (i:=1) qbd.nd rfl (Aw rfl) (zt (qj zq (qj (qhn (pv 2) rfl) (qj (qd4 (pv 3) (qd4 (zo qcv (by rfl) T.n_isinstance qah (qj (pv 2) (qj (qbj (v:=.ref a.cCourtError) rfl T.m_CourtError rfl) qt qm) qm)) (qey (zo qcv (by rfl) T.n_isinstance qah (qj (pv 2) (qj (qds (v:=.ty "ValueError") rfl T.n_ValueError qcj rfl) qt qm) qm))))) qt qf1) qci) zc)))))) (qn5 (i:=2) qbd.nd rfl rfl (qc3 rfl T.m_NoTerm) (λ_=>(qp (zh (i:=3) qbd.nd rfl (Aw rfl) (qjq (zo qih (by rfl) T.n_isinstance qah (qj (pv 2) (qj (zt (qj (qbj (v:=.ref a.cRing) rfl T.m_Ring rfl) (qj (qbj (v:=.ref a.cTwice) rfl T.m_Twice rfl) (qj (qbj (v:=.ref a.cUnfit) rfl T.m_Unfit rfl) qt qm) qm) qm)) qt zy) qm))))
   (qz (zh (i:=1) qbd.nd rfl (Aw rfl) (zt (qj zq (qj (qhn (pv 2) rfl) (qj (qd4 (pv 3) (qd4 (zo qcv (by rfl) T.n_isinstance qah (qj (pv 2) (qj (qbj (v:=.ref a.cCourtError) rfl T.m_CourtError rfl) qt qm) qm)) (qey (zo qcv (by rfl) T.n_isinstance qah (qj (pv 2) (qj (qds (v:=.ty "ValueError") rfl T.n_ValueError qcj rfl) qt qm) qm))))) qt qf1) qci) zc)))))) (qn5 (i:=2) qbd.nd rfl rfl (qc3 rfl T.m_Twice) (λ_=>(qp (zh (i:=3) qbd.nd rfl (Aw rfl) (qjq (zo qih (by rfl) T.n_isinstance qah (qj (pv 2) (qj (zt (qj (qbj (v:=.ref a.cRing) rfl T.m_Ring rfl) (qj (qbj (v:=.ref a.cUnfit) rfl T.m_Unfit rfl) qt qm) qm)) qt zy) qm))))
   (qz (zh (i:=1) qbd.nd rfl (Aw rfl) (zt (qj zq (qj (qhn (pv 2) rfl) (qj (qd4 (pv 3) (qd4 (zo qcv (by rfl) T.n_isinstance qah (qj (pv 2) (qj (qbj (v:=.ref a.cCourtError) rfl T.m_CourtError rfl) qt qm) qm)) (qey (zo qcv (by rfl) T.n_isinstance qah (qj (pv 2) (qj (qds (v:=.ty "ValueError") rfl T.n_ValueError qcj rfl) qt qm) qm))))) qt qf1) qci) zc)))))) (qn5 (i:=2) qbd.nd rfl rfl (qc3 rfl T.m_Unfit) (λ_=>(qp (zh (i:=3) qbd.nd rfl (Aw rfl) (qjq (zo qcv (by rfl) T.n_isinstance qah (qj (pv 2) (qj (qbj (v:=.ref a.cRing) rfl T.m_Ring rfl) qt qm) qm))))
   (qz (zh (i:=1) qbd.nd rfl (Aw rfl) (zt (qj zq (qj (qhn (pv 2) rfl) (qj (qd4 (pv 3) (qd4 (zo qcv (by rfl) T.n_isinstance qah (qj (pv 2) (qj (qbj (v:=.ref a.cCourtError) rfl T.m_CourtError rfl) qt qm) qm)) (qey (zo qcv (by rfl) T.n_isinstance qah (qj (pv 2) (qj (qds (v:=.ty "ValueError") rfl T.n_ValueError qcj rfl) qt qm) qm))))) qt qf1) qci) zc)))))) (qn5 (i:=2) qbd.nd rfl rfl (qc3 rfl T.m_Ring) (λ_=>(qz (zh (i:=1) qbd.nd rfl (Aw rfl) (zt (qj zq (qj (qhn (pv 2) rfl) (qj (qd4 (zo qcv (by rfl) T.n_isinstance qah (qj (pv 2) (qj (qbj (v:=.ref a.cCourtError) rfl T.m_CourtError rfl) qt qm) qm)) (qey (zo qcv (by rfl) T.n_isinstance qah (qj (pv 2) (qj (qds (v:=.ty "ValueError") rfl T.n_ValueError qcj rfl) qt qm) qm)))) qt qf1) qci) zc))))) qyp)))))))
   (qz (zd (pv 1))))),?_⟩
  refine ⟨qki _ _ _,λt0 n0 => ?_⟩
  obtain ⟨s0,e0⟩:=alc (o:=.tup [.str (wS "read"),.non,.bl true]) n0
  change _ at e0
  generalize hH0:upd H t0 _=H0 at s0 e0 |-
  refine ⟨_,rfl,ls,rfl,hls,λrs ok=>⟨λxb H8 As os s8 bk=>⟨_,rfl,(k rs ok).1 t0 H8 (s0.trans s8) (s8 _ _ e0)⟩,?_⟩,λe er => ?_⟩
  .intro x d0 l0 H9 r s9 ex ed el rg
   refine ⟨x,_,rfl,ex,⟨⟨qal (show 8 <= 100000 by decide),λc hc => ?_⟩,?_⟩⟩
   .simp only [Ao,At,or_false] at hc
    rcases hc with rfl | rfl | rfl | rfl | rfl | rfl | rfl | rfl
    .exact T.h_Ring_Adrift
    .exact T.h_Ring_Full
    .exact T.h_Ring_NoAct
    .exact T.h_Ring_NoDay
    .exact T.h_Ring_NoName
    .exact T.h_Ring_NoRow
    .exact T.h_Ring_NoTable
    .exact T.h_Ring_Parted
   refine qcm T.h_Ring_NoRule ?_
   refine qcm T.h_Ring_NoTerm ?_
   refine qcm T.h_Ring_Twice ?_
   refine qcm T.h_Ring_Unfit ?_
   refine qgl T.h_Ring_Ring ?_
   refine ⟨_,rfl,x,_,d0,false,_,_,rfl,ex,ed,T.x_Ring.is,ze T.n_Ring (by decide),rfl,_,rfl,_,_,_,_,_,_,_,rfl,ex,⟨_,ed⟩,T.x_Ring.is,.inr ⟨_,rfl,rfl⟩,qa6 T.k_Ring (i:=0) rfl rfl,_,rfl,qct ⟨_,rfl,_,_,_,_,_,_,_,rfl,ex,⟨_,ed⟩,T.x_Ring.is,.inl ⟨_,rfl,rfl⟩,qa6 T.k_Ring (i:=1) rfl rfl,qki _ _ _,λt ht => ?_⟩⟩
   have st:=zj (o:=.tup [.str (wS "ring"),.ref l0,.bl true]) ht
   exact ⟨_,rfl,(k rs ok).2 t l0 _ r ((s0.trans s9).trans st) zb (st _ _ el) rg⟩
  cases e with
  | rule i =>
   intro x d0 H9 s9 ex ed
   refine ⟨x,_,rfl,ex,⟨⟨qal (show 8 <= 100000 by decide),λc hc => ?_⟩,?_⟩⟩
   .simp only [Ao,At,or_false] at hc
    rcases hc with rfl | rfl | rfl | rfl | rfl | rfl | rfl | rfl
    .exact T.h_NoRule_Adrift
    .exact T.h_NoRule_Full
    .exact T.h_NoRule_NoAct
    .exact T.h_NoRule_NoDay
    .exact T.h_NoRule_NoName
    .exact T.h_NoRule_NoRow
    .exact T.h_NoRule_NoTable
    .exact T.h_NoRule_Parted
   refine qgl T.h_NoRule_NoRule ?_
   refine ⟨_,rfl,qal (show 4 <= 100000 by decide),λp hp => ?_⟩
   obtain ⟨sp,ep⟩:=alc (o:=.tup [V.ref a.cNoTerm,V.ref a.cRing,V.ref a.cTwice,V.ref a.cUnfit]) hp
   generalize upd H9 p _=H10 at sp ep |-
   have kz:([Al a.cNoTerm,Al a.cRing,Al a.cTwice,Al a.cUnfit].map λc=>B6 K (.ref a.cNoRule) c)=[Al a.cNoTerm,Al a.cRing,Al a.cTwice,Al a.cUnfit].map (λ_=>some false):=by
    simp only [A4,Bu]
    rw [qa6 T.k_NoRule (i:=3) (c:=.ref a.cNoTerm) (b:=false) rfl rfl,qa6 T.k_NoRule (i:=6) (c:=.ref a.cRing) (b:=false) rfl rfl,qa6 T.k_NoRule (i:=4) (c:=.ref a.cTwice) (b:=false) rfl rfl,qa6 T.k_NoRule (i:=5) (c:=.ref a.cUnfit) (b:=false) rfl rfl]
   refine ⟨_,_,_,_,_,[a.cNoTerm,a.cRing,a.cTwice,a.cUnfit],false,rfl,sp _ _ ex,⟨_,sp _ _ ed⟩,T.x_NoRule.is,ep,qd8 kz,_,rfl,?_⟩
   refine ⟨_,rfl,x,_,d0,false,_,_,rfl,(sp _ _ ex),(sp _ _ ed),T.x_NoRule.is,ze T.n_NoRule (by decide),rfl,_,rfl,_,rfl,qct ⟨_,rfl,_,_,_,_,_,_,_,rfl,(sp _ _ ex),⟨_,(sp _ _ ed)⟩,T.x_NoRule.is,.inr ⟨_,rfl,rfl⟩,qa6 T.k_NoRule (i:=0) rfl rfl,_,rfl,qct ⟨_,rfl,_,_,_,_,_,_,_,rfl,(sp _ _ ex),⟨_,(sp _ _ ed)⟩,T.x_NoRule.is,.inl ⟨_,rfl,rfl⟩,qa6 T.k_NoRule (i:=1) rfl rfl,qki _ _ _,λt ht => ?_⟩⟩⟩
   have st:=zj (o:=.tup [.str (wS "rule"),.int (i:Int),.bl true]) ht
   exact ⟨_,rfl,ke _ er t _ ((s0.trans (s9.trans sp)).trans st) zb⟩
  | term y =>
   intro x d0 H9 s9 ex ed
   refine ⟨x,_,rfl,ex,⟨⟨qal (show 8 <= 100000 by decide),λc hc => ?_⟩,?_⟩⟩
   .simp only [Ao,At,or_false] at hc
    rcases hc with rfl | rfl | rfl | rfl | rfl | rfl | rfl | rfl
    .exact T.h_NoTerm_Adrift
    .exact T.h_NoTerm_Full
    .exact T.h_NoTerm_NoAct
    .exact T.h_NoTerm_NoDay
    .exact T.h_NoTerm_NoName
    .exact T.h_NoTerm_NoRow
    .exact T.h_NoTerm_NoTable
    .exact T.h_NoTerm_Parted
   refine qcm T.h_NoTerm_NoRule ?_
   refine qgl T.h_NoTerm_NoTerm ?_
   refine ⟨_,rfl,qal (show 3 <= 100000 by decide),λp hp => ?_⟩
   obtain ⟨sp,ep⟩:=alc (o:=.tup [V.ref a.cRing,V.ref a.cTwice,V.ref a.cUnfit]) hp
   generalize upd H9 p _=H10 at sp ep |-
   have kz:([Al a.cRing,Al a.cTwice,Al a.cUnfit].map λc=>B6 K (.ref a.cNoTerm) c)=[Al a.cRing,Al a.cTwice,Al a.cUnfit].map (λ_=>some false):=by
    simp only [A4,Bu]
    rw [qa6 T.k_NoTerm (i:=6) (c:=.ref a.cRing) (b:=false) rfl rfl,qa6 T.k_NoTerm (i:=4) (c:=.ref a.cTwice) (b:=false) rfl rfl,qa6 T.k_NoTerm (i:=5) (c:=.ref a.cUnfit) (b:=false) rfl rfl]
   refine ⟨_,_,_,_,_,[a.cRing,a.cTwice,a.cUnfit],false,rfl,sp _ _ ex,⟨_,sp _ _ ed⟩,T.x_NoTerm.is,ep,qd8 kz,_,rfl,?_⟩
   refine ⟨_,rfl,x,_,d0,false,_,_,rfl,(sp _ _ ex),(sp _ _ ed),T.x_NoTerm.is,ze T.n_NoTerm (by decide),rfl,_,rfl,_,rfl,qct ⟨_,rfl,_,_,_,_,_,_,_,rfl,(sp _ _ ex),⟨_,(sp _ _ ed)⟩,T.x_NoTerm.is,.inr ⟨_,rfl,rfl⟩,qa6 T.k_NoTerm (i:=0) rfl rfl,_,rfl,qct ⟨_,rfl,_,_,_,_,_,_,_,rfl,(sp _ _ ex),⟨_,(sp _ _ ed)⟩,T.x_NoTerm.is,.inl ⟨_,rfl,rfl⟩,qa6 T.k_NoTerm (i:=1) rfl rfl,qki _ _ _,λt ht => ?_⟩⟩⟩
   have st:=zj (o:=.tup [.str (wS "term"),.str y,.bl true]) ht
   exact ⟨_,rfl,ke _ er t _ ((s0.trans (s9.trans sp)).trans st) zb⟩
  | twice y =>
   intro x d0 H9 s9 ex ed
   refine ⟨x,_,rfl,ex,⟨⟨qal (show 8 <= 100000 by decide),λc hc => ?_⟩,?_⟩⟩
   .simp only [Ao,At,or_false] at hc
    rcases hc with rfl | rfl | rfl | rfl | rfl | rfl | rfl | rfl
    .exact T.h_Twice_Adrift
    .exact T.h_Twice_Full
    .exact T.h_Twice_NoAct
    .exact T.h_Twice_NoDay
    .exact T.h_Twice_NoName
    .exact T.h_Twice_NoRow
    .exact T.h_Twice_NoTable
    .exact T.h_Twice_Parted
   refine qcm T.h_Twice_NoRule ?_
   refine qcm T.h_Twice_NoTerm ?_
   refine qgl T.h_Twice_Twice ?_
   refine ⟨_,rfl,qal (show 2 <= 100000 by decide),λp hp => ?_⟩
   obtain ⟨sp,ep⟩:=alc (o:=.tup [V.ref a.cRing,V.ref a.cUnfit]) hp
   generalize upd H9 p _=H10 at sp ep |-
   have kz:([Al a.cRing,Al a.cUnfit].map λc=>B6 K (.ref a.cTwice) c)=[Al a.cRing,Al a.cUnfit].map (λ_=>some false):=by
    simp only [A4,Bu]
    rw [qa6 T.k_Twice (i:=6) (c:=.ref a.cRing) (b:=false) rfl rfl,qa6 T.k_Twice (i:=5) (c:=.ref a.cUnfit) (b:=false) rfl rfl]
   refine ⟨_,_,_,_,_,[a.cRing,a.cUnfit],false,rfl,sp _ _ ex,⟨_,sp _ _ ed⟩,T.x_Twice.is,ep,qd8 kz,_,rfl,?_⟩
   refine ⟨_,rfl,x,_,d0,false,_,_,rfl,(sp _ _ ex),(sp _ _ ed),T.x_Twice.is,ze T.n_Twice (by decide),rfl,_,rfl,_,rfl,qct ⟨_,rfl,_,_,_,_,_,_,_,rfl,(sp _ _ ex),⟨_,(sp _ _ ed)⟩,T.x_Twice.is,.inr ⟨_,rfl,rfl⟩,qa6 T.k_Twice (i:=0) rfl rfl,_,rfl,qct ⟨_,rfl,_,_,_,_,_,_,_,rfl,(sp _ _ ex),⟨_,(sp _ _ ed)⟩,T.x_Twice.is,.inl ⟨_,rfl,rfl⟩,qa6 T.k_Twice (i:=1) rfl rfl,qki _ _ _,λt ht => ?_⟩⟩⟩
   have st:=zj (o:=.tup [.str (wS "twice"),.str y,.bl true]) ht
   exact ⟨_,rfl,ke _ er t _ ((s0.trans (s9.trans sp)).trans st) zb⟩
  | unfit i =>
   intro x d0 H9 s9 ex ed
   refine ⟨x,_,rfl,ex,⟨⟨qal (show 8 <= 100000 by decide),λc hc => ?_⟩,?_⟩⟩
   .simp only [Ao,At,or_false] at hc
    rcases hc with rfl | rfl | rfl | rfl | rfl | rfl | rfl | rfl
    .exact T.h_Unfit_Adrift
    .exact T.h_Unfit_Full
    .exact T.h_Unfit_NoAct
    .exact T.h_Unfit_NoDay
    .exact T.h_Unfit_NoName
    .exact T.h_Unfit_NoRow
    .exact T.h_Unfit_NoTable
    .exact T.h_Unfit_Parted
   refine qcm T.h_Unfit_NoRule ?_
   refine qcm T.h_Unfit_NoTerm ?_
   refine qcm T.h_Unfit_Twice ?_
   refine qgl T.h_Unfit_Unfit ?_
   refine ⟨_,rfl,_,_,_,_,_,_,_,rfl,ex,⟨_,ed⟩,T.x_Unfit.is,.inr ⟨_,rfl,rfl⟩,qa6 T.k_Unfit (i:=6) rfl rfl,_,rfl,?_⟩
   refine ⟨_,rfl,x,_,d0,false,_,_,rfl,ex,ed,T.x_Unfit.is,ze T.n_Unfit (by decide),rfl,_,rfl,_,rfl,qct ⟨_,rfl,_,_,_,_,_,_,_,rfl,ex,⟨_,ed⟩,T.x_Unfit.is,.inr ⟨_,rfl,rfl⟩,qa6 T.k_Unfit (i:=0) rfl rfl,_,rfl,qct ⟨_,rfl,_,_,_,_,_,_,_,rfl,ex,⟨_,ed⟩,T.x_Unfit.is,.inl ⟨_,rfl,rfl⟩,qa6 T.k_Unfit (i:=1) rfl rfl,qki _ _ _,λt ht => ?_⟩⟩⟩
   have st:=zj (o:=.tup [.str (wS "unfit"),.int (i:Int),.bl true]) ht
   exact ⟨_,rfl,ke _ er t _ ((s0.trans s9).trans st) zb⟩
theorem qk7 (T:Txt K mg a):FnOk P w K mg base CX0 9 a.fLawRight a.gLawRight ["_law_text", "_law_word", "_law_field"] spRi:=by
 refine T.dLawRight.fn.ok qkh (λvs H Q E h => ?_) (λcdv A outer s H vs Q E hr h => ?_)
 .obtain ⟨_,_,rfl,_⟩:=h
  all_goals rfl
 .obtain ⟨ls,er,rfl,hls,her,k⟩:=h
  refine ⟨_,(qp (zh (i:=3) qkh.nd rfl (Aw rfl) (zn (qs8 T) (hr.mono (by decide)) rfl T.dLawTold.mgx T.dLawTold.fn.kp T.dLawTold.bd .nil qau (qj (pv 0) qt qm)))
   (qp (zm (PW.pt (qix (zg qte (zz ja (pv 3) qu (λ_ _=>rfl)) (pv 1) (qad _)) (qix (zg qwn (zz ja (pv 3) qu (λ_ _=>rfl)) qg2 (qad _)) (qjp (zp (zo qf0 (by rfl) T.n_isinstance qah (qj (zz ja (pv 3) qu (λ_ _=>rfl)) (qj (qds (v:=.ty "bool") rfl T.n_bool qsj rfl) qt qm) zx))))))) (qz (zd qg2)) qag)
   (qp (zm (zg qed (pv 1) (zt (qj zq (qj zq qt zc) zc)) (by with_unfolding_all rfl)) (qz (zd (qd4 (zo qf0 (by rfl) T.n_isinstance qah (qj (zz ja (pv 3) qu (λ_ _=>rfl)) (qj (qds (v:=.ty "int") rfl T.n_int qgd rfl) qt qm) zx)) (qey (qdu qay (zz ja (pv 3) qu (λ_ _=>rfl)) (pv 2) (qad _)))))) qag)
   (qz (zd (qd4 (zo qf0 (by rfl) T.n_isinstance qah (qj (zz ja (pv 3) qu (λ_ _=>rfl)) (qj (qds (v:=.ty "str") rfl T.n_str qeo rfl) qt qm) zx)) (qey (qdu qay (zz ja (pv 3) qu (λ_ _=>rfl)) (pv 2) (qad _))))))))),?_⟩
  refine ⟨_,rfl,ls,rfl,hls,(λrs ok=>(by rw [ok] at her; cases her)),λe er2 t H1 s1 ht => ?_⟩
  rw [her] at er2
  cases er2
  cases er with
  | rule i =>
   refine ⟨_,rfl,_,_,_,_,rfl,rfl,SqT.of ht,rfl,_,rfl,rfl,_,rfl,qdl rfl ⟨_,rfl,_,_,_,_,rfl,rfl,SqT.of ht,rfl,_,_,rfl,rfl,_,rfl,qbo ⟨_,rfl,_,_,_,_,rfl,rfl,SqT.of ht,rfl,_,_,_,_,rfl,.int _,qhl,_,rfl,qbo ?_⟩⟩⟩
   refine ⟨_,rfl,qal (show 2 <= 100000 by decide),λt2 n2 => ?_⟩
   obtain ⟨s2,e2⟩:=alc (o:=.tup [.str (wS "rule"),.str (wS "unfit")]) n2
   generalize upd H1 t2 _=H2 at s2 e2 |-
   have ht2:=s2 _ _ ht
   refine ⟨_,_,rfl,.inr (SqT.of e2),rfl,rfl,_,rfl,qct ?_⟩
   exact ⟨_,rfl,_,_,_,_,rfl,rfl,SqT.of ht2,rfl,_,_,_,_,rfl,.int _,qfz,_,rfl,qct ⟨_,rfl,_,_,_,_,rfl,rfl,SqT.of ht2,rfl,_,rfl,rfl,by rw [decide_eq_true (rfl:(erF _).2=(erF _).2)]; exact k H2 (s1.trans s2)⟩⟩
  | term y =>
   refine ⟨_,rfl,_,_,_,_,rfl,rfl,SqT.of ht,rfl,_,rfl,rfl,_,rfl,qdl rfl ⟨_,rfl,_,_,_,_,rfl,rfl,SqT.of ht,rfl,_,_,rfl,rfl,_,rfl,qbo ⟨_,rfl,_,_,_,_,rfl,rfl,SqT.of ht,rfl,_,_,_,_,rfl,.str _,qhm,_,rfl,qbo ?_⟩⟩⟩
   refine ⟨_,rfl,qal (show 2 <= 100000 by decide),λt2 n2 => ?_⟩
   obtain ⟨s2,e2⟩:=alc (o:=.tup [.str (wS "rule"),.str (wS "unfit")]) n2
   generalize upd H1 t2 _=H2 at s2 e2 |-
   have ht2:=s2 _ _ ht
   refine ⟨_,_,rfl,.inr (SqT.of e2),rfl,rfl,_,rfl,qbo ?_⟩
   exact ⟨_,rfl,_,_,_,_,rfl,rfl,SqT.of ht2,rfl,_,_,_,_,rfl,.str _,qf2,_,rfl,qct ⟨_,rfl,_,_,_,_,rfl,rfl,SqT.of ht2,rfl,_,rfl,rfl,by rw [decide_eq_true (rfl:(erF _).2=(erF _).2)]; exact k H2 (s1.trans s2)⟩⟩
  | twice y =>
   refine ⟨_,rfl,_,_,_,_,rfl,rfl,SqT.of ht,rfl,_,rfl,rfl,_,rfl,qdl rfl ⟨_,rfl,_,_,_,_,rfl,rfl,SqT.of ht,rfl,_,_,rfl,rfl,_,rfl,qbo ⟨_,rfl,_,_,_,_,rfl,rfl,SqT.of ht,rfl,_,_,_,_,rfl,.str _,qhm,_,rfl,qbo ?_⟩⟩⟩
   refine ⟨_,rfl,qal (show 2 <= 100000 by decide),λt2 n2 => ?_⟩
   obtain ⟨s2,e2⟩:=alc (o:=.tup [.str (wS "rule"),.str (wS "unfit")]) n2
   generalize upd H1 t2 _=H2 at s2 e2 |-
   have ht2:=s2 _ _ ht
   refine ⟨_,_,rfl,.inr (SqT.of e2),rfl,rfl,_,rfl,qbo ?_⟩
   exact ⟨_,rfl,_,_,_,_,rfl,rfl,SqT.of ht2,rfl,_,_,_,_,rfl,.str _,qf2,_,rfl,qct ⟨_,rfl,_,_,_,_,rfl,rfl,SqT.of ht2,rfl,_,rfl,rfl,by rw [decide_eq_true (rfl:(erF _).2=(erF _).2)]; exact k H2 (s1.trans s2)⟩⟩
  | unfit i =>
   refine ⟨_,rfl,_,_,_,_,rfl,rfl,SqT.of ht,rfl,_,rfl,rfl,_,rfl,qdl rfl ⟨_,rfl,_,_,_,_,rfl,rfl,SqT.of ht,rfl,_,_,rfl,rfl,_,rfl,qbo ⟨_,rfl,_,_,_,_,rfl,rfl,SqT.of ht,rfl,_,_,_,_,rfl,.int _,qhl,_,rfl,qbo ?_⟩⟩⟩
   refine ⟨_,rfl,qal (show 2 <= 100000 by decide),λt2 n2 => ?_⟩
   obtain ⟨s2,e2⟩:=alc (o:=.tup [.str (wS "rule"),.str (wS "unfit")]) n2
   generalize upd H1 t2 _=H2 at s2 e2 |-
   have ht2:=s2 _ _ ht
   refine ⟨_,_,rfl,.inr (SqT.of e2),rfl,rfl,_,rfl,qct ?_⟩
   exact ⟨_,rfl,_,_,_,_,rfl,rfl,SqT.of ht2,rfl,_,_,_,_,rfl,.int _,qfz,_,rfl,qct ⟨_,rfl,_,_,_,_,rfl,rfl,SqT.of ht2,rfl,_,rfl,rfl,by rw [decide_eq_true (rfl:(erF _).2=(erF _).2)]; exact k H2 (s1.trans s2)⟩⟩
theorem qqf (T:Txt K mg a):FnOk P w K mg base CX0 5 a.fLawDrawn a.gLawDrawn ["_law_script"] (spDr K):=by
 refine T.dLawDrawn.fn.ok qdp (λvs H Q E h => ?_) (λcdv A outer s H vs Q E hr h => ?_)
 .obtain ⟨_,_,rfl,_⟩:=h
  all_goals rfl
 .obtain ⟨l,ns,rfl,hS,k⟩:=h
  refine ⟨_,(qp (zh (i:=1) qdp.nd rfl (Aw rfl) (zi qas (zn (qa7 T) (hr.mono (by decide)) rfl T.dLawCellAt.mgx T.dLawCellAt.fn.kp T.dLawCellAt.bd .nil qau (qj (pv 0) (qj qu qt zc) qm)) qu))
   (qp (zh (i:=2) qdp.nd rfl (Aw rfl) (zn (qk6 T) (hr.mono (by decide)) rfl T.dLawWords.mgx T.dLawWords.fn.kp T.dLawWords.bd .nil qau (qj (zn (qa7 T) (hr.mono (by decide)) rfl T.dLawCellAt.mgx T.dLawCellAt.fn.kp T.dLawCellAt.bd .nil qau (qj (pv 0) (qj qu qt zc) qm)) (qj (zi qa1 (pv 1) qu) qt zw) zu)))
   (qp (zh (i:=3) qdp.nd rfl (Aw rfl) (qb3 qlm (by rfl) T.n_int qgd (qj (qdu qay (zi qas (zi qbe (zn (qa7 T) (hr.mono (by decide)) rfl T.dLawCellAt.mgx T.dLawCellAt.fn.kp T.dLawCellAt.bd .nil qau (qj (pv 0) (qj qu qt zc) qm)) qu) qu) qu (qad _)) qt qnx)))
   (qp (zh (i:=4) qdp.nd rfl (Aw rfl) (zn (qk6 T) (hr.mono (by decide)) rfl T.dLawWords.mgx T.dLawWords.fn.kp T.dLawWords.bd .nil qau (qj (zn (qa7 T) (hr.mono (by decide)) rfl T.dLawCellAt.mgx T.dLawCellAt.fn.kp T.dLawCellAt.bd .nil qau (qj (pv 0) (qj (zi qfs qu (pv 3)) qt zw) qm)) (qj qu qt zc) zu)))
   (qp (zh (i:=5) qdp.nd rfl (Aw rfl) (zn (qqd T) (hr.mono (by decide)) rfl T.dLawRules.mgx T.dLawRules.fn.kp T.dLawRules.bd .nil qau (qj (pv 0) (qj (qbb qb2 (pv 2) qc0 (qa5 (pv 1))) (qj (pv 4) (qj qu qt zc) qm) zx) qm)))
   (qz (zd (zt (qj (pv 5) (qj (qbb qb2 (pv 2) (qa5 (pv 1)) qc0) (qj (pv 4) qt qm) zx) qm))))))))),?_⟩
  refine ⟨_,rfl,_,_,_,rfl,hS,by decide,_,_,rfl,rfl,(pos (by decide)),?_⟩
  dsimp only []
  obtain ⟨m,em,hm⟩:∃ m:Nat,cell ns 0 % 7=(m:Int)/\m <= 6:=⟨(cell ns 0 % 7).toNat,by lia,by lia⟩
  rw [em]
  refine ⟨_,rfl,_,_,_,rfl,hS,by decide,_,rfl,_,_,rfl,rfl,?_⟩
  dsimp only []
  refine ⟨_,m + 1,rfl,.inl (by lia),λp1 H1 nms n1 s1 e1 l1 nd1 ok1 => ?_⟩
  refine ⟨_,rfl,_,_,_,rfl,s1.seq hS,by decide,_,_,rfl,rfl,⟨by decide,by decide⟩,_,_,rfl,rfl,(pos (by decide)),rfl,.inr ⟨_,rfl,?_⟩⟩
  dsimp only []
  obtain ⟨sm,es,hs0,hs1⟩:∃ sm:Int,(if decide (V.int (cell ns 0 / 7 % 3)=V.int 1)=true then (1:Int) else 0)=sm/\0 <= sm/\sm <= 1:=⟨_,rfl,by split <;> decide,by split <;> decide⟩
  rw [es]
  refine ⟨_,rfl,_,rfl,_,_,rfl,rfl,_,_,_,rfl,s1.seq hS,by lia,?_⟩
  dsimp only []
  refine ⟨_,16,rfl,.inl (by decide),λp2 H2 kinds n2 s2 e2 l2 nd2 ok2 => ?_⟩
  have s12:=s1.trans s2
  refine ⟨_,rfl,_,rfl,_,rfl,_,rfl,_,_,rfl,SqL.of (s2 _ _ e1),λp3 n3 => ?_⟩
  rw [qpx,<- BM]
  obtain ⟨s3,e3⟩:=alc (o:=.lst ((nms.take m).map V.str)) n3
  generalize upd H2 p3 _=H3 at s3 e3 |-
  have s13:=s12.trans s3
  have ltm:(nms.take m).length=m:=by rw [A2]; lia
  have ndt:(nms.take m).Nodup:=BW.sublist (BJ _ _) nd1
  have okt:∀ x ∈ nms.take m,qa8 x:=λx hx=>ok1 x (BD hx)
  refine ⟨_,rfl,l,p3,p2,ns,nms.take m,kinds,39,rfl,s13.seq hS,e3,s3 _ _ e2,ndt,by lia,nd2,by lia,by lia,ok2,by decide,by decide,λp4 H4 qs rs lrs lnr grs sum => ?_⟩
  have s14:=s13.trans lrs.sm
  refine ⟨_,rfl,_,rfl,_,rfl,_,rfl,_,_,rfl,SqL.of ((s2.trans (s3.trans lrs.sm)) _ _ e1),λp5 n5 => ?_⟩
  obtain ⟨x,ex⟩:∃ x,nms.drop m=[x]:=by
   match h:nms.drop m with
   | [x]=>exact ⟨x,rfl⟩
   | []=>have:=congrArg CF h; rw [Bl] at this; simp at this; lia
   | _ :: _ :: _=>have:=congrArg CF h; rw [Bl] at this; simp at this; lia
  rw [qhu _ m (by rw [Ab]; lia),<- C7,ex]
  obtain ⟨s5,e5⟩:=alc (o:=.lst ([x].map V.str)) n5
  generalize upd H4 p5 _=H5 at s5 e5 |-
  refine ⟨_,rfl,qki _ _ _,λt nt => ?_⟩
  have st:=zj (o:=.tup [.ref p4,.ref p5,.ref p2]) nt
  have s5t:=s5.trans st
  have et:nms=nms.take m ++ [x]:=by rw [<- ex,Bv]
  have gn:=qsz grs lnr
  refine k t p4 p5 p2 _ qs rs x kinds (s14.trans s5t) (s5t _ _ lrs.hp) lrs.ln (λi q r h1 h2=>(lrs.lr i q r h1 h2).same s5t) zb (st _ _ e5) ((s3.trans (lrs.sm.trans s5t)) _ _ e2) ⟨gt_of grs lnr okt ndt (by lia) (by decide) sum,?_,ok1 x (by rw [et]; exact AD _ (Aj.mpr rfl)),l2,nd2,ok2,?_,_,ranked grs lnr ndt⟩
  .rw [gn]
   rw [et] at nd1
   exact λh=>(AY.mp nd1).2.2 x h x (Aj.mpr rfl) rfl
  .rw [qvl,lnr]; exact sum
theorem qqg (T:Txt K mg a):FnOk P w K mg base CX0 3 a.fLawHeads a.gLawHeads ["_law_rules_here"] spHd:=by
 refine T.dLawHeads.fn.ok qeq (λvs H Q E h => ?_) (λcdv A outer s H vs Q E hr h => ?_)
 .obtain ⟨_,_,rfl,_⟩:=h
  all_goals rfl
 .obtain ⟨p,rs,rfl,hp,rok,l6,l40,k⟩:=h
  refine ⟨_,(qp (zh (i:=1) qeq.nd rfl (Aw rfl) (zr qt))
   (qp (zh (i:=2) qeq.nd rfl (Aw rfl) qu)
   (qp (qcn B4 rfl (qb1 (pv 0)) (qak (i:=3) qeq.nd rfl (Aw rfl)) (qp (zk (qcb A9 AE AF qa0 (pv 1) (qj (pv 2) qt qm)))
   (qz (zh (i:=2) qeq.nd rfl (Aw rfl) (zi qa1 (pv 2) (zo qaq (by rfl) T.n_len qap (qj (zn (qmn T) (hr.mono (by decide)) rfl T.dLawRows.mgx T.dLawRows.fn.kp T.dLawRows.bd .nil qau (qj (pv 3) qt qm)) qt zu)))))))
   (qz (zd (pv 1)))))),?_⟩
  refine ⟨qe3,λq nq => ?_⟩
  obtain ⟨s0,e0⟩:=alc (o:=.lst []) nq
  generalize upd H q _=H0 at s0 e0 |-
  obtain ⟨qs,hqs,lq,hlr⟩:=hp
  refine ⟨_,rfl,_,rfl,⟨_,SqL.of (s0 _ _ hqs)⟩,qc7 (K:=K) (a:=p) (xs:=qs.map V.ref) (λi σ J=>Same H J/\J q=some (.lst ((Ba i).map λk=>V.int (hd rs k:Int)))/\∃ v3:Option V,σ=[some (.ref p),some (.ref q),some (.int (hd rs i:Int)),v3]) ⟨s0,e0,none,rfl⟩ (λi σ J _ h=>SqL.of (h.1 _ _ hqs)) ?_ ?_⟩
  .rintro i v σ J hv ⟨sJ,hJ,v3,rfl⟩
   rw [Ak] at hv
   cases eq:qs[i]? with
   | none=>rw [eq] at hv; cases hv
   | some qi =>
   rw [eq] at hv
   cases hv
   have hi:i < rs.length:=by rw [<- lq]; exact (Ae.mp eq).1
   have hr:rs[i]?=some rs[i]:=Ag hi
   have hdl:=qrg hr
   refine ⟨_,rfl,.inl ⟨rfl,_,SqL.of hJ⟩,_,rfl,_,_,_,rfl,rfl,hJ,qb6 (by rw [Ab,BB]; lia),?_⟩
   have sA:=qaj (o:=.lst (((Ba i).map λk=>V.int (hd rs k:Int)) ++ [.int (hd rs i:Int)])) sJ nq
   have eA:=zb (H:=J) (a:=q) (o:=.lst (((Ba i).map λk=>V.int (hd rs k:Int)) ++ [.int (hd rs i:Int)]))
   generalize upd J q _=J1 at sA eA |-
   refine ⟨_,rfl,_,rfl,qi,rs[i],rfl,(hlr i qi _ eq hr).same sA,rok _ (Br hi),λpz J3 nz s3 ez => ?_⟩
   refine ⟨_,_,rfl,.inl ⟨_,SqL.of ez,rfl⟩,_,_,rfl,rfl,?_⟩
   refine ⟨sA.trans s3,?_,some (.ref qi),?_⟩
   .rw [s3 _ _ eA,List.range_succ,Ar]; rfl
   .rw [qri hr]
    unfold qbz
    rw [Ab,Ab]
    rfl
  .rintro σ J ⟨sJ,hJ,v3,rfl⟩
   rw [Ab,lq] at hJ
   exact ⟨_,rfl,k q J nq sJ hJ⟩
theorem qmo (T:Txt K mg a):FnOk P w K mg base CX0 1 a.fLawSort a.gLawSort ["_law_cell", "_law_name", "_law_kind", "_law_other"] spSt9:=by
 refine T.dLawSort.fn.ok ql9 (λvs H Q E h => ?_) (λcdv A outer s H vs Q E hr h => ?_)
 .obtain ⟨_,_,_,_,rfl,_⟩:=h
  all_goals rfl
 .obtain ⟨c,x,kd,ot,rfl,hx,hk,ho,k⟩:=h
  refine ⟨_,(qp (zh (i:=4) ql9.nd rfl (Aw rfl) (zr (qj (zi qaa (zi qaa (zi qaa zq (pv 1)) zq) (pv 2)) (qj (zi qaa (zi qaa (zi qaa zq (pv 1)) zq) (pv 2)) qt zw) zw)))
   (qp (zk (qcb A9 AE AF qa0 (pv 4) (qj (zi qaa (zi qaa (zi qaa (zi qaa zq (pv 1)) zq) (pv 2)) zq) qt zw)))
   (qp (zk (qcb A9 AE AF qa0 (pv 4) (qj (zi qaa (zi qaa (zi qaa (zi qaa (zi qaa zq (pv 1)) zq) (pv 2)) zq) (pv 3)) qt zw)))
   (qp (zk (qcb A9 AE AF qa0 (pv 4) (qj (zi qaa (zi qaa (zi qaa (zi qaa (zi qaa zq (pv 1)) zq) (pv 3)) zq) (pv 2)) qt zw)))
   (qz (zd (zz jb (pv 4) (zi qas (pv 0) qu) (λ_ _=>rfl)))))))),?_⟩
  obtain ⟨l1,l2,l3,l4,l5,l6,l7,l8,l9,l10,l11,l12,l13⟩:=qkt
  obtain ⟨m1,m2,m3,m4,m5⟩:=qp5
  have x8:x.length <= 8:=hx.2.1
  have k8:kd.length <= 8:=hk.2.1
  have o8:ot.length <= 8:=ho.2.1
  refine ⟨_,rfl,_,_,rfl,rfl,fz,_,_,rfl,rfl,fz,_,rfl,_,_,rfl,rfl,fz,_,rfl,_,_,rfl,rfl,fz,_,_,rfl,rfl,fz,_,rfl,_,_,rfl,rfl,fz,qal (show 2 <= 100000 by decide),λq nq => ?_⟩
  obtain ⟨s0,e0⟩:=alc (o:=.lst [.str (wS "ends " ++ x ++ wS " " ++ kd),.str (wS "anew " ++ x ++ wS " " ++ kd)]) nq
  generalize upd H q _=H0 at s0 e0 |-
  refine ⟨_,rfl,.inl ⟨rfl,_,SqL.of e0⟩,_,rfl,_,_,rfl,rfl,fz,_,_,rfl,rfl,fz,_,rfl,_,_,rfl,rfl,fz,_,_,rfl,rfl,fz,_,_,_,rfl,rfl,e0,qb6 (by simp),?_⟩
  have s1:=qaj (o:=.lst ([.str (wS "ends " ++ x ++ wS " " ++ kd),.str (wS "anew " ++ x ++ wS " " ++ kd)] ++ [.str (wS "longer " ++ x ++ wS " " ++ kd ++ wS " 7 times 2")])) s0 nq
  have e1:=zb (H:=H0) (a:=q) (o:=.lst ([.str (wS "ends " ++ x ++ wS " " ++ kd),.str (wS "anew " ++ x ++ wS " " ++ kd)] ++ [.str (wS "longer " ++ x ++ wS " " ++ kd ++ wS " 7 times 2")]))
  generalize upd H0 q _=H1 at s1 e1 |-
  refine ⟨_,rfl,.inl ⟨rfl,_,SqL.of e1⟩,_,rfl,_,_,rfl,rfl,fz,_,_,rfl,rfl,fz,_,rfl,_,_,rfl,rfl,fz,_,_,rfl,rfl,fz,_,rfl,_,_,rfl,rfl,fz,_,_,_,rfl,rfl,e1,qb6 (by simp),?_⟩
  have s2:=qaj (o:=.lst (([.str (wS "ends " ++ x ++ wS " " ++ kd),.str (wS "anew " ++ x ++ wS " " ++ kd)] ++ [.str (wS "longer " ++ x ++ wS " " ++ kd ++ wS " 7 times 2")]) ++ [.str (wS "still " ++ x ++ wS " " ++ kd ++ wS " " ++ ot)])) s1 nq
  have e2:=zb (H:=H1) (a:=q) (o:=.lst (([.str (wS "ends " ++ x ++ wS " " ++ kd),.str (wS "anew " ++ x ++ wS " " ++ kd)] ++ [.str (wS "longer " ++ x ++ wS " " ++ kd ++ wS " 7 times 2")]) ++ [.str (wS "still " ++ x ++ wS " " ++ kd ++ wS " " ++ ot)]))
  generalize upd H1 q _=H2 at s2 e2 |-
  refine ⟨_,rfl,.inl ⟨rfl,_,SqL.of e2⟩,_,rfl,_,_,rfl,rfl,fz,_,_,rfl,rfl,fz,_,rfl,_,_,rfl,rfl,fz,_,_,rfl,rfl,fz,_,rfl,_,_,rfl,rfl,fz,_,_,_,rfl,rfl,e2,qb6 (by simp),?_⟩
  have s3:=qaj (o:=.lst ((([.str (wS "ends " ++ x ++ wS " " ++ kd),.str (wS "anew " ++ x ++ wS " " ++ kd)] ++ [.str (wS "longer " ++ x ++ wS " " ++ kd ++ wS " 7 times 2")]) ++ [.str (wS "still " ++ x ++ wS " " ++ kd ++ wS " " ++ ot)]) ++ [.str (wS "still " ++ x ++ wS " " ++ ot ++ wS " " ++ kd)])) s2 nq
  have e3:=zb (H:=H2) (a:=q) (o:=.lst ((([.str (wS "ends " ++ x ++ wS " " ++ kd),.str (wS "anew " ++ x ++ wS " " ++ kd)] ++ [.str (wS "longer " ++ x ++ wS " " ++ kd ++ wS " 7 times 2")]) ++ [.str (wS "still " ++ x ++ wS " " ++ kd ++ wS " " ++ ot)]) ++ [.str (wS "still " ++ x ++ wS " " ++ ot ++ wS " " ++ kd)]))
  generalize upd H2 q _=H3 at s3 e3 |-
  refine ⟨_,rfl,_,rfl,_,_,rfl,rfl,(pos (by decide)),?_⟩
  dsimp only []
  rcases (by lia:c % 5=0 \/ c % 5=1 \/ c % 5=2 \/ c % 5=3 \/ c % 5=4) with z | z | z | z | z <;> rw [z] <;> refine ⟨_,_,_,_,rfl,rfl,SqL.of e3,rfl,?_⟩
  .have:=k (.ends x kd) H3 s3 ⟨hx,hk⟩ rfl rfl (Aj.mpr rfl); rw [<- qmd] at this; exact this
  .have:=k (.anew x kd) H3 s3 ⟨hx,hk⟩ rfl rfl (Aj.mpr rfl); rw [<- qme] at this; exact this
  .have:=k (.longer x kd 7 2) H3 s3 ⟨hx,hk,by decide,by decide⟩ rfl rfl (Aj.mpr rfl); rw [<- qxk] at this; exact this
  .have:=k (.still x kd ot) H3 s3 ⟨hx,hk,ho⟩ rfl rfl Aq; rw [<- qdr] at this; exact this
  .have:=k (.still x ot kd) H3 s3 ⟨hx,ho,hk⟩ rfl rfl (Au _ (Aj.mpr rfl)); rw [<- qdr] at this; exact this
theorem qqh (T:Txt K mg a):FnOk P w K mg base CX0 1 a.fLawKnown a.gLawKnown ["_law_rule_here", "_law_rows_here"] spKn9:=by
 refine T.dLawKnown.fn.ok qer (λvs H Q E h => ?_) (λcdv A outer s H vs Q E hr h => ?_)
 .obtain ⟨_,_,_,_,rfl,_⟩:=h
  all_goals rfl
 .obtain ⟨p,q,r,rows,rfl,lr,hq,rok,l40,k⟩:=h
  refine ⟨_,(qp (zh (i:=2) qer.nd rfl (Aw rfl) (zr (qj (zz jb (pv 0) qu (λ_ _=>rfl)) qt zx)))
   (qp (zm (zg qdd (zz jb (pv 0) qu (λ_ _=>rfl)) qbk (qad _)) (qz (zk (qcb A9 AE AF qa0 (pv 2) (qj (zz jb (pv 0) qu (λ_ _=>rfl)) qt zx)))) qag)
   (qp (qcn B4 rfl (qb1 (pv 1)) (qak (i:=3) qer.nd rfl (Aw rfl)) (qp (zh (i:=4) qer.nd rfl (Aw rfl) (qcb Cf Dz D0 qj2 (pv 3) (qj zq qt zc)))
   (qp (zm (PW.pt (qd3 (zg qed (zz jb (pv 4) qu (λ_ _=>rfl)) (zt (qj zq (qj zq (qj zq qt zc) zc) zc)) (by with_unfolding_all rfl)) (qdt (zg qay (zz jb (pv 4) qu (λ_ _=>rfl)) (zz jb (pv 0) qu (λ_ _=>rfl)) (qad _))))) (qz (zk (qcb A9 AE AF qa0 (pv 2) (qj (zz jb (pv 4) qu (λ_ _=>rfl)) qt zx)))) qag)
   (qz (zm (PW.pt (qd3 (zg qay (zz jb (pv 4) qu (λ_ _=>rfl)) zq (qad _)) (qdt (zg qay (zz jb (pv 4) qu (λ_ _=>rfl)) (zz jb (pv 0) qu (λ_ _=>rfl)) (qad _))))) (qz (zh (i:=2) qer.nd rfl (Aw rfl) (zi qde (pv 2) (qbb qb2 (pv 4) (qa5 qu) (qa5 qu))))) qag)))))
   (qz (zd (pv 2)))))),?_⟩
  obtain ⟨pe,pa,pl,py,sv,us,h1⟩:=lr
  refine ⟨_,rfl,_,_,_,_,rfl,rfl,SqL.of (h1.hq),rfl,qal (show 1 <= 100000 by decide),λq0 n0 => ?_⟩
  obtain ⟨s0,e0⟩:=alc (o:=.lst [.str r.owes]) n0
  generalize upd H q0 _=H0 at s0 e0 |-
  apply qvn (p:=λH1=>Same H H1/\H1 q0=some (.lst ((r.owes :: r.opens.toList).map V.str)))
  .intro fin
   cases eo:r.opens with
   | none =>
    refine ⟨_,rfl,_,_,_,_,rfl,rfl,SqL.of (s0 _ _ h1.hq),rfl,rfl,_,rfl,qdl (by rw [eo]; rfl) ?_⟩
    obtain ⟨H6,hH6⟩:∃ H6,H6=H0:=⟨_,rfl⟩
    rw [<- hH6]
    exact fin H6 ⟨by rw [hH6]; exact s0,by rw [hH6,eo]; exact e0⟩
   | some o =>
    have eo':qd1 r.opens=.str o:=by rw [eo]; rfl
    refine ⟨_,rfl,_,_,_,_,rfl,rfl,SqL.of (s0 _ _ h1.hq),rfl,rfl,_,rfl,qe7 (λz=>by rw [eo'] at z; cases z) ?_⟩
    refine ⟨_,rfl,.inl ⟨rfl,_,SqL.of e0⟩,_,rfl,_,_,_,_,rfl,rfl,SqL.of (s0 _ _ h1.hq),rfl,_,_,_,rfl,rfl,e0,qb6 (by simp),?_⟩
    exact fin _ ⟨qaj s0 n0,by rw [zb,eo]; rfl⟩
  rintro H1 ⟨s1,e1⟩
  refine ⟨_,rfl,_,rfl,⟨_,SqL.of (s1 _ _ hq)⟩,qc7 (K:=K) (a:=q) (xs:=qbz rows) (λi σ J=>Same H J/\∃ qw,J qw=some (.lst ((knO r (rows.take i)).map V.str))/\H qw=none/\∃ v3 v4:Option V,σ=[some (.ref p),some (.ref q),some (.ref qw),v3,v4]) ⟨s1,⟨q0,by rw [e1]; unfold knO; rw [Da,List.flatMap_nil,Be],n0,none,none,rfl⟩⟩ (λi σ J _ h=>SqL.of (h.1 _ _ hq)) ?_ ?_⟩
  .rintro i v σ J hv ⟨sJ,qw,hw,nqw,v3,v4,rfl⟩
   obtain ⟨row,hrow,rfl⟩:=lns_at hv
   have ro:=rok row (Ap hrow)
   have hi:i < rows.length:=(Ae.mp hrow).1
   have lk:=qrj (r:=r) (rows.take i)
   rw [A2] at lk
   obtain ⟨sl1,sl2⟩:=ql5 (qam row) 32
   rw [<- qoh] at sl1 sl2
   have eb:=qf8 (qam row) 32
   rw [<- qoh] at eb
   have sz:(qam row).length <= 90:=(qnd ro).1
   refine ⟨_,rfl,rfl,_,_,rfl,rfl,rfl,qal (A1 sz (by decide)),qal (A1 sl1 (by lia)),qal (A1 eb (by lia)),λpp n1' => ?_⟩
   rw [qks ro]
   have s01':=Same.refl J
   obtain ⟨sp,ep⟩:=alc (o:=.lst ((qao row).map V.str)) n1'
   generalize upd J pp _=J1 at sp ep |-
   have s01:=sJ.trans sp
   have hw1:=sp _ _ hw
   rcases qxm row with ⟨w,x,kd,qa9,ew,hwd,en,ek⟩ | ⟨x,kd,kl,ew,en,ek⟩ | ⟨w,x,qa9,ew,hwd,en,ek⟩
   .rw [ew] at ep
    rcases hwd with rfl | rfl | rfl
    all_goals
     refine ⟨_,rfl,_,_,_,_,rfl,rfl,SqL.of ep,qaz (j:=0) rfl,qal (show 3 <= 100000 by decide),λt3 n3 => ?_⟩
     obtain ⟨s3,e3⟩:=alc (o:=.tup [.str (wS "ends"),.str (wS "anew"),.str (wS "longer")]) n3
     generalize upd J1 t3 _=J2 at s3 e3 |-
     have s02:=s01.trans s3
     have ep2:=s3 _ _ ep
     have hw2:=s3 _ _ hw1
     refine ⟨_,_,rfl,.inr (SqT.of e3),rfl,rfl,_,rfl,qct ⟨_,rfl,_,_,_,_,rfl,rfl,SqL.of ep2,qaz (j:=1) rfl,_,rfl,_,_,_,_,rfl,rfl,SqL.of (s02 _ _ h1.hq),rfl,rfl,_,rfl,qb4 (λc1 => ?_) (λc1 => ?_)⟩⟩
     .have c1:x=r.name:=V.str.inj (of_decide_eq_true c1)
      refine ⟨_,rfl,.inl ⟨rfl,_,SqL.of hw2⟩,_,rfl,_,_,_,_,rfl,rfl,SqL.of ep2,qaz (j:=2) rfl,_,_,_,rfl,rfl,hw2,qb6 (by rw [Ab]; lia),?_⟩
      have nep:pp ≠ qw:=λe=>by rw [e,s01' _ _ hw] at n1'; cases n1'
      refine ⟨_,rfl,_,_,_,_,rfl,rfl,SqL.of ((zf nep).trans ep2),qaz (j:=0) rfl,rfl,_,rfl,qax (by decide +kernel) ?_⟩
      refine ⟨qaj s02 nqw,⟨_,?_,nqw,_,_,rfl⟩⟩
      rw [zb,qgm hrow,ek,if_pos (en.trans c1),Ar]; rfl
     .have c1:¬ x=r.name:=λz=>c1 (decide_eq_true (by rw [z]))
      refine ⟨_,rfl,_,_,_,_,rfl,rfl,SqL.of ep2,qaz (j:=0) rfl,rfl,_,rfl,qax (by decide +kernel) ?_⟩
      refine ⟨s02,⟨_,?_,nqw,_,_,rfl⟩⟩
      rw [hw2,qgm hrow,ek,if_neg (λz=>c1 (en.symm.trans z)),Be]
   .rw [ew] at ep
    refine ⟨_,rfl,_,_,_,_,rfl,rfl,SqL.of ep,qaz (j:=0) rfl,qal (show 3 <= 100000 by decide),λt3 n3 => ?_⟩
    obtain ⟨s3,e3⟩:=alc (o:=.tup [.str (wS "ends"),.str (wS "anew"),.str (wS "longer")]) n3
    generalize upd J1 t3 _=J2 at s3 e3 |-
    have s02:=s01.trans s3
    have ep2:=s3 _ _ ep
    have hw2:=s3 _ _ hw1
    refine ⟨_,_,rfl,.inr (SqT.of e3),rfl,rfl,_,rfl,qbo ?_⟩
    refine ⟨_,rfl,_,_,_,_,rfl,rfl,SqL.of ep2,qaz (j:=0) rfl,rfl,_,rfl,qe2 rfl ⟨_,rfl,_,_,_,_,rfl,rfl,SqL.of ep2,qaz (j:=1) rfl,_,rfl,_,_,_,_,rfl,rfl,SqL.of (s02 _ _ h1.hq),rfl,rfl,_,rfl,qb4 (λc1 => ?_) (λc1 => ?_)⟩⟩
    .have c1:x=r.name:=V.str.inj (of_decide_eq_true c1)
     refine ⟨_,rfl,_,rfl,_,rfl,_,rfl,_,_,rfl,SqL.of ep2,λp5 n5 => ?_⟩
     rw [show qgz ([wS "still",x,kd,kl].map V.str) (some 2) (some 4)=[kd,kl].map V.str from rfl]
     obtain ⟨s5,e5⟩:=alc (o:=.lst ([kd,kl].map V.str)) n5
     generalize upd J2 p5 _=J5 at s5 e5 |-
     refine ⟨_,_,_,_,rfl,rfl,s5 _ _ hw2,e5,qal (by rw [Ab,Ab]; show _ + 2 <= _; lia),λq6 n6 => ?_⟩
     refine ⟨(s02.trans s5).trans (zj n6),⟨_,?_,(s02.trans s5).free n6,_,_,rfl⟩⟩
     rw [zb,qgm hrow,ek,if_pos (en.trans c1),Ar]
    .have c1:¬ x=r.name:=λz=>c1 (decide_eq_true (by rw [z]))
     refine ⟨s02,⟨_,?_,nqw,_,_,rfl⟩⟩
     rw [hw2,qgm hrow,ek,if_neg (λz=>c1 (en.symm.trans z)),Be]
   .rw [ew] at ep
    rcases hwd with rfl | rfl
    all_goals
     refine ⟨_,rfl,_,_,_,_,rfl,rfl,SqL.of ep,qaz (j:=0) rfl,qal (show 3 <= 100000 by decide),λt3 n3 => ?_⟩
     obtain ⟨s3,e3⟩:=alc (o:=.tup [.str (wS "ends"),.str (wS "anew"),.str (wS "longer")]) n3
     generalize upd J1 t3 _=J2 at s3 e3 |-
     have s02:=s01.trans s3
     have ep2:=s3 _ _ ep
     have hw2:=s3 _ _ hw1
     refine ⟨_,_,rfl,.inr (SqT.of e3),rfl,rfl,_,rfl,qbo ?_⟩
     refine ⟨_,rfl,_,_,_,_,rfl,rfl,SqL.of ep2,qaz (j:=0) rfl,rfl,_,rfl,qax (by decide +kernel) ?_⟩
     refine ⟨s02,⟨_,?_,nqw,_,_,rfl⟩⟩
     rw [hw2,qgm hrow,ek,ite_self,Be]
  .rintro σ J ⟨sJ,qw,hw,nqw,v3,v4,rfl⟩
   rw [qex,Bs] at hw
   exact ⟨_,rfl,k qw J nqw sJ hw⟩
theorem qfo (T:Txt K mg a):FnOk P w K mg base CX0 1 a.fLawTermRow a.gLawTermRow ["_law_name", "_law_one", "_law_two"] spTr9:=by
 refine T.dLawTermRow.fn.ok qm5 (λvs H Q E h => ?_) (λcdv A outer s H vs Q E hr h => ?_)
 .obtain ⟨_,_,_,rfl,_⟩:=h
  all_goals rfl
 .obtain ⟨x,o,y,rfl,hx,ho,hy,k⟩:=h
  refine ⟨_,(qz (zd (zi qaa (zi qaa (zi qaa (zi qaa (zi qaa (zi qaa zq (pv 0)) zq) (pv 1)) zq) (pv 2)) zq))),?_⟩
  obtain ⟨l1,l2,l3,l4,l5,l6,l7,l8,l9,l10,l11,l12,l13⟩:=qkt
  obtain ⟨m1,m2,m3,m4,m5⟩:=qp5
  have x8:x.length <= 8:=hx.2.1
  have y8:y.length <= 8:=hy.2.1
  have o8:o.length <= 8:=ho.2.1
  have:=k H (Same.refl _)
  rw [<- qvm] at this
  exact ⟨_,rfl,_,_,rfl,rfl,fz,_,_,rfl,rfl,fz,_,rfl,_,_,rfl,rfl,fz,_,_,rfl,rfl,fz,_,rfl,_,_,rfl,rfl,fz,_,_,rfl,rfl,fz,this⟩
theorem qnh (T:Txt K mg a):FnOk P w K mg base CX0 2 a.fLawNewTerm a.gLawNewTerm ["_law_way", "_law_cell", "_law_told_here", "_law_spare", "_law_kinds", "_law_at"] spNt9:=by
 refine T.dLawNewTerm.fn.ok qfi (λvs H Q E h => ?_) (λcdv A outer s H vs Q E hr h => ?_)
 .obtain ⟨_,_,_,_,_,_,_,_,_,rfl,_⟩:=h
  all_goals rfl
 .obtain ⟨w0,c,pt,pk,x,n,rs,kinds,tl,rfl,dw,hk,ht,l6,hin,hn,k⟩:=h
  refine ⟨_,(qp (zh (i:=6) qfi.nd rfl (Aw rfl) (zz jb (pv 4) (zi qa1 qu (zi qas (pv 1) qu)) (λ_ _=>rfl)))
   (qp (zm (PW.pt (qd3 (zg qay (pv 0) qu (qad _)) (qdt (zg (qpe hr.units0) (pv 2) (zr qt) (qad _))))) (qp (zh (i:=7) qfi.nd rfl (Aw rfl) (zz jb (pv 2) (zi qas (zi qbe (pv 1) qu) (zo qaq (by rfl) T.n_len qap (qj (pv 2) qt qm))) (λ_ _=>rfl)))
   (qz (zd (zt (qj (pv 5) (qj (zn (qfo T) (hr.mono (by decide)) rfl T.dLawTermRow.mgx T.dLawTermRow.fn.kp T.dLawTermRow.bd .nil qau (qj (pv 7) (qj (zz jb (pv 4) qu (λ_ _=>rfl)) (qj (pv 6) qt qm) zx) qm)) (qj zq (qj (pv 7) qt qm) zc) zu) qm))))) qag)
   (qz (zd (zt (qj (pv 5) (qj (zn (qfo T) (hr.mono (by decide)) rfl T.dLawTermRow.mgx T.dLawTermRow.fn.kp T.dLawTermRow.bd .nil qau (qj (pv 3) (qj (zz jb (pv 4) qu (λ_ _=>rfl)) (qj (zz jb (pv 4) qu (λ_ _=>rfl)) qt zx) zx) qm)) (qj zq (qj (pv 5) qt qm) zc) zu) qm)))))),?_⟩
  obtain ⟨a14,a15,v14,v15,o14,o15⟩:=dw.two
  obtain ⟨tw,etw,otw⟩:=dw.odd c
  refine ⟨_,rfl,_,rfl,_,_,rfl,rfl,(pos (by decide)),_,_,rfl,rfl,_,_,_,_,rfl,rfl,SqL.of hk,etw,?_⟩
  have flb:(tl.map V.str).all qcr=true:=by rw [CJ]; exact AZ.mpr λ_ _=>rfl
  refine ⟨_,rfl,rfl,_,rfl,qb4 (λc1 => ?_) (λc1 => ?_)⟩
  .refine ⟨_,rfl,qe3,λpe npe => ?_⟩
   obtain ⟨s6,e6⟩:=alc (o:=.lst []) npe
   generalize upd H pe _=H6 at s6 e6 |-
   have ht6:=s6 _ _ ht
   have hk6:=s6 _ _ hk
   refine ⟨_,_,_,_,rfl,rfl,SqL.of ht6,SqL.of e6,flb,rfl,_,rfl,qb4 (λc2 => ?_) (λc2 => ?_)⟩
   .have l1:1 <= tl.length:=by
     cases tl with
     | nil=>exact absurd c2 (by decide)
     | cons _ _=>exact DY _
    have z0:=CQ (c / 2) (show ((tl.length:Nat):Int) ≠ 0 by lia)
    have z1:=Cw (c / 2) (show (0:Int) < (tl.length:Nat) by lia)
    obtain ⟨j,ej⟩:∃ j:Nat,c / 2 % ((tl.length:Nat):Int)=(j:Int):=⟨(c / 2 % ((tl.length:Nat):Int)).toNat,by lia⟩
    have hj:j < tl.length:=by lia
    obtain ⟨k1,r1,g1,g2,g3⟩:=hin _ (Br hj)
    have on:qa8 tl[j]:=by rw [<- g2]; exact (dw.gt.ok r1 (Ap g1)).nm
    refine ⟨_,rfl,_,rfl,_,_,rfl,rfl,⟨by decide,by decide⟩,_,rfl,_,_,rfl,.inl ⟨_,SqL.of ht6,rfl⟩,_,_,rfl,rfl,(pos (by rw [Ab]; lia)),?_⟩
    dsimp only []
    rw [Ab,ej]
    refine ⟨_,_,_,_,rfl,rfl,SqL.of ht6,qp6 hj,?_⟩
    refine ⟨_,rfl,_,rfl,_,rfl,_,_,_,_,rfl,rfl,SqL.of hk6,v14,_,rfl,tl[j],a14,tw,rfl,on,o14,otw,λH7 s7=>⟨_,rfl,qal (show 4 <= 100000 by decide),λt nt => ?_⟩⟩
    refine k t _ n _ (.twice tl[j]) (s6.trans (s7.trans (zj nt))) zb ?_
    have:=qsx dw.gt hn g1 g3 (w:=wS "who") (o:=a14) (d:=false) (y:=tw) (m:=3) (u:=wS "court") (by rw [g2]; exact qjn on o14 otw)
    rw [g2] at this
    exact this
   .refine ⟨_,rfl,_,rfl,_,rfl,_,_,_,_,rfl,rfl,SqL.of hk6,v14,_,rfl,_,_,_,_,rfl,rfl,SqL.of hk6,v14,x,a14,a14,rfl,dw.xo,o14,o14,λH7 s7=>⟨_,rfl,qal (show 4 <= 100000 by decide),λt nt => ?_⟩⟩
    exact k t _ n _ (.unfit n) (s6.trans (s7.trans (zj nt))) zb (qml dw.gt hn dw.nx (qjn dw.xo o14 o14))
  .refine qbo ?_
   have s6:=Same.refl H
   .refine ⟨_,rfl,_,rfl,_,rfl,_,_,_,_,rfl,rfl,SqL.of hk,v14,_,rfl,_,_,_,_,rfl,rfl,SqL.of hk,v14,x,a14,a14,rfl,dw.xo,o14,o14,λH7 s7=>⟨_,rfl,qal (show 4 <= 100000 by decide),λt nt => ?_⟩⟩
    exact k t _ n _ (.unfit n) (s6.trans (s7.trans (zj nt))) zb (qml dw.gt hn dw.nx (qjn dw.xo o14 o14))
theorem qli (T:Txt K mg a):FnOk P w K mg base CX0 2 a.fLawOtherRow a.gLawOtherRow ["_law_way", "_law_cell", "_law_rule_here", "_law_rows_here", "_law_at", "_law_kinds"] spOr9:=by
 refine T.dLawOtherRow.fn.ok qcl (λvs H Q E h => ?_) (λcdv A outer s H vs Q E hr h => ?_)
 .obtain ⟨_,_,_,_,_,_,_,_,_,_,_,rfl,_⟩:=h
  all_goals rfl
 .obtain ⟨w0,c,q,pw,pk,x,n,k0,r,rs,kinds,rfl,dw,lr,hr0,hk,hw,h0,hn,k⟩:=h
  refine ⟨_,(qp (zh (i:=6) qcl.nd rfl (Aw rfl) (zn (qqh T) (hr.mono (by decide)) rfl T.dLawKnown.mgx T.dLawKnown.fn.kp T.dLawKnown.bd .nil qau (qj (pv 2) (qj (qbb qb2 (pv 3) qc0 (qa5 (pv 4))) qt zx) qm)))
   (qp (zh (i:=7) qcl.nd rfl (Aw rfl) (zz jb (pv 2) qu (λ_ _=>rfl)))
   (qp (zm (zg qay (pv 0) qu (qad _)) (qp (zh (i:=8) qcl.nd rfl (Aw rfl) (zn (qmo T) (hr.mono (by decide)) rfl T.dLawSort.mgx T.dLawSort.fn.kp T.dLawSort.bd .nil qau (qj (pv 1) (qj (pv 7) (qj (zz jb (pv 6) (zi qas (zi qbe (pv 1) qu) (zo qaq (by rfl) T.n_len qap (qj (pv 6) qt qm))) (λ_ _=>rfl)) (qj (zz jb (pv 5) qu (λ_ _=>rfl)) qt zx) zx) qm) qm)))
   (qz (zd (zt (qj (pv 4) (qj (pv 8) (qj zq (qj (pv 4) qt qm) zc) qm) qm))))) qag)
   (qp (zm (zg qay (pv 0) qu (qad _)) (qz (zd (zt (qj (pv 4) (qj (zi qaa (zi qaa (zi qaa (zi qaa (zi qaa zq (pv 7)) zq) (zz jb (pv 5) qu (λ_ _=>rfl))) zq) (zz jb (pv 5) qu (λ_ _=>rfl))) (qj zq (qj (pv 4) qt qm) zc) zw) qm)))) qag)
   (qp (zm (PW.pt (qd3 (zg qay (pv 0) qu (qad _)) (qdt (zg qdd (zz jb (pv 2) qu (λ_ _=>rfl)) qbk (qad _))))) (qp (zh (i:=8) qcl.nd rfl (Aw rfl) (zi qaa (zi qaa (zi qaa (zi qaa (zi qaa zq (pv 7)) zq) (zz jb (pv 5) qu (λ_ _=>rfl))) zq) (zz jb (pv 5) qu (λ_ _=>rfl))))
   (qz (zd (zt (qj (zo qaq (by rfl) T.n_len qap (qj (pv 3) qt qm)) (qj (pv 8) (qj zq (qj (zo qaq (by rfl) T.n_len qap (qj (pv 3) qt qm)) qt zu) zc) qm) zu))))) qag)
   (qp (zm (zg qay (zo qaq (by rfl) T.n_len qap (qj (zz jb (pv 2) qu (λ_ _=>rfl)) qt zx)) qu (qad _)) (qp (zh (i:=8) qcl.nd rfl (Aw rfl) (zi qaa (zi qaa (zi qaa (zi qaa zq (pv 7)) zq) (zz jb (pv 5) qu (λ_ _=>rfl))) zq))
   (qz (zd (zt (qj (zo qaq (by rfl) T.n_len qap (qj (pv 3) qt qm)) (qj (pv 8) (qj zq (qj (zo qaq (by rfl) T.n_len qap (qj (pv 3) qt qm)) qt zu) zc) qm) zu))))) qag)
   (qz (zd (zt (qj (pv 4) (qj (zi qaa (zi qaa (zi qaa (zi qaa (zi qaa zq (pv 7)) zq) (zz jb (pv 5) qu (λ_ _=>rfl))) zq) (zz jb (pv 5) qu (λ_ _=>rfl))) (qj zq (qj (pv 4) qt qm) zc) zw) qm)))))))))),?_⟩
  obtain ⟨a14,a15,v14,v15,o14,o15⟩:=dw.two
  obtain ⟨l1,l2,l3,l4,l5,l6,l7,l8,l9,l10,l11,l12,l13⟩:=qkt
  obtain ⟨m1,m2,m3,m4,m5⟩:=qp5
  have rok:=dw.gt.ok r (Ap hr0)
  have n8:r.name.length <= 8:=rok.nm.2.1
  have k14:a14.length <= 8:=o14.2.1
  have k15:a15.length <= 8:=o15.2.1
  have l39:=dw.l39
  have aok:=qnf dw.gt.ok
  refine ⟨_,rfl,_,rfl,_,rfl,_,rfl,_,_,rfl,SqL.of hw,λp2 n2 => ?_⟩
  rw [qpx,show (qbz (qac rs)).take n=qbz ((qac rs).take n) by unfold qbz; rw [BM,BM]]
  obtain ⟨s2,e2⟩:=alc (o:=.lst (qbz ((qac rs).take n))) n2
  generalize upd H p2 _=H2 at s2 e2 |-
  refine ⟨q,p2,r,(qac rs).take n,rfl,lr.same s2,e2,λrow hr=>aok row (BD hr),by rw [A2]; lia,λqk H3 nk s3 ek => ?_⟩
  have s23:=s2.trans s3
  have hk3:=s23 _ _ hk
  have hw3:=s23 _ _ hw
  have kok:=knO_ok rok (rows:=(qac rs).take n) λrow hr=>aok row (BD hr)
  have kl:=qrj (r:=r) ((qac rs).take n)
  obtain ⟨pe,pa,pl,py,sv,us,h1⟩:=lr.same s23
  refine ⟨_,rfl,_,_,_,_,rfl,rfl,SqL.of (h1.hq),rfl,?_⟩
  refine ⟨_,rfl,rfl,_,rfl,qb4 (λc1 => ?_) (λc1 => ?_)⟩
  .have kz:1 <= (knO r ((qac rs).take n)).length:=by unfold knO; rw [An]; lia
   generalize hkn:knO r ((qac rs).take n)=kn at ek kok kl kz
   have z0:=CQ (c / 5) (show ((kn.length:Nat):Int) ≠ 0 by lia)
   have z1:=Cw (c / 5) (show (0:Int) < (kn.length:Nat) by lia)
   obtain ⟨j,ej⟩:∃ j:Nat,c / 5 % ((kn.length:Nat):Int)=(j:Int):=⟨(c / 5 % ((kn.length:Nat):Int)).toNat,by lia⟩
   have hj:j < kn.length:=by lia
   refine ⟨_,rfl,_,rfl,_,rfl,_,rfl,_,_,rfl,rfl,⟨by decide,by decide⟩,_,rfl,_,_,rfl,.inl ⟨_,SqL.of ek,rfl⟩,_,_,rfl,rfl,(pos (by rw [Ab]; lia)),?_⟩
   dsimp only []
   rw [Ab,ej]
   refine ⟨_,_,_,_,rfl,rfl,SqL.of ek,qp6 hj,_,rfl,_,_,_,_,rfl,rfl,SqL.of hk3,v14,c,r.name,kn[j],a14,rfl,rok.nm,kok _ (Br hj),o14,λrow H7 s7 ro ti tn tk => ?_⟩
   refine ⟨_,rfl,_,rfl,_,rfl,qal (show 4 <= 100000 by decide),λt nt => ?_⟩
   exact k t _ n row (.unfit n) (s23.trans (s7.trans (zj nt))) zb (qk0 dw.gt hn hr0 h0 ti tn ro (.inl ⟨_,tk,by rw [hkn]; exact Br hj⟩))
  refine ⟨_,rfl,rfl,_,rfl,qb4 (λc2 => ?_) (λc2 => ?_)⟩
  .refine ⟨_,rfl,_,rfl,_,_,rfl,rfl,fz,_,_,rfl,rfl,fz,_,rfl,_,_,_,_,rfl,rfl,SqL.of hk3,v14,_,_,rfl,rfl,fz,_,_,rfl,rfl,fz,_,rfl,_,_,_,_,rfl,rfl,SqL.of hk3,v14,_,_,rfl,rfl,fz,_,rfl,qal (show 4 <= 100000 by decide),λt nt => ?_⟩
   refine k t _ n (.still r.name a14 a14) (.unfit n) (s23.trans (zj nt)) ?_ (qk0 dw.gt hn hr0 h0 rfl rfl ⟨rok.nm,o14,o14⟩ (.inr λs=>by simp [qoj]))
   rw [zb,<- qdr]; rfl
  have lwl:(qbz (qac rs)).length=(qac rs).length:=qex _
  apply qvn (p:=λH4=>H4=H3)
  .intro fin
   refine ⟨_,rfl,rfl,_,rfl,qb4 (λc3 => ?_) (λc3 => ?_)⟩
   .have hst:r.still=none \/ ∃ s,r.still=some s:=by
     cases r.still with
     | none=>exact .inl rfl
     | some s=>exact .inr ⟨s,rfl⟩
    refine hst.elim (λz => ?_) (λz => ?_)
    .have hs5:=h1.hs
     rw [z] at hs5
     have hs5:sv=.non:=hs5
     exact ⟨_,rfl,_,_,_,_,rfl,rfl,SqL.of (h1.hq),rfl,rfl,_,rfl,qdl hs5 (fin H3 rfl)⟩
    .obtain ⟨s,es⟩:=z
     have hs5:=h1.hs
     rw [es] at hs5
     obtain ⟨b,hb,hs5⟩:=hs5
     refine ⟨_,rfl,_,_,_,_,rfl,rfl,SqL.of (h1.hq),rfl,rfl,_,rfl,qe7 (λz=>by rw [hb] at z; cases z) ?_⟩
     refine ⟨_,rfl,_,_,rfl,rfl,fz,_,_,rfl,rfl,fz,_,rfl,_,_,_,_,rfl,rfl,SqL.of hk3,v14,_,_,rfl,rfl,fz,_,_,rfl,rfl,fz,_,rfl,_,_,_,_,rfl,rfl,SqL.of hk3,v15,_,_,rfl,rfl,fz,?_⟩
     refine ⟨_,rfl,_,_,rfl,.inl ⟨_,SqL.of hw3,rfl⟩,_,rfl,_,rfl,_,_,rfl,.inl ⟨_,SqL.of hw3,rfl⟩,qal (show 4 <= 100000 by decide),λt nt => ?_⟩
     refine k t _ (qac rs).length (.still r.name a14 a15) (.unfit (qac rs).length) (s23.trans (zj nt)) ?_ (qrh dw.gt hr0 rfl rfl ⟨rok.nm,o14,o15⟩ (by show (r.still.isSome || _)=true; rw [es]; rfl))
     rw [zb,<- qdr,lwl]; rfl
   .exact qbo (fin H3 rfl)
  rintro H4 rfl
  have lu:us.length=r.longer.length:=by rw [h1.tl.length,Ab]
  refine ⟨_,rfl,_,_,_,_,rfl,rfl,SqL.of (h1.hq),rfl,_,_,rfl,.inl ⟨_,SqL.of h1.hl,rfl⟩,rfl,_,rfl,qb4 (λc4 => ?_) (λc4 => ?_)⟩
  .have l2':r.longer.length=2:=by
    have:=V.int.inj (of_decide_eq_true c4)
    lia
   refine ⟨_,rfl,_,_,rfl,rfl,fz,_,_,rfl,rfl,fz,_,rfl,_,_,_,_,rfl,rfl,SqL.of hk3,v15,_,_,rfl,rfl,fz,_,_,rfl,rfl,fz,?_⟩
   refine ⟨_,rfl,_,_,rfl,.inl ⟨_,SqL.of hw3,rfl⟩,_,rfl,_,rfl,_,_,rfl,.inl ⟨_,SqL.of hw3,rfl⟩,qal (show 4 <= 100000 by decide),λt nt => ?_⟩
   refine k t _ (qac rs).length (.longer r.name a15 1 1) (.unfit (qac rs).length) (s23.trans (zj nt)) ?_ (qrh dw.gt hr0 rfl rfl ⟨rok.nm,o15,by decide,by decide⟩ (by show decide (r.longer.length=2)=true; rw [l2']; rfl))
   rw [zb,<- qxl,lwl]; rfl
  .refine ⟨_,rfl,_,rfl,_,_,rfl,rfl,fz,_,_,rfl,rfl,fz,_,rfl,_,_,_,_,rfl,rfl,SqL.of hk3,v15,_,_,rfl,rfl,fz,_,_,rfl,rfl,fz,_,rfl,_,_,_,_,rfl,rfl,SqL.of hk3,v15,_,_,rfl,rfl,fz,_,rfl,qal (show 4 <= 100000 by decide),λt nt => ?_⟩
   refine k t _ n (.still r.name a15 a15) (.unfit n) (s23.trans (zj nt)) ?_ (qk0 dw.gt hn hr0 h0 rfl rfl ⟨rok.nm,o15,o15⟩ (.inr λs=>by simp [qoj]))
   rw [zb,<- qdr]; rfl
theorem qqi (T:Txt K mg a):FnOk P w K mg base CX0 4 a.fLawFault a.gLawFault ["_law_script", "_law_rules_here", "_law_spare", "_law_kinds", "_law_rows_here"] (spFa9 K):=by
 refine T.dLawFault.fn.ok qbc (λvs H Q E h => ?_) (λcdv A outer s H vs Q E hr h => ?_)
 .obtain ⟨_,_,_,_,_,_,_,_,rfl,_⟩:=h
  all_goals rfl
 .obtain ⟨l,p,pk,pw,ns,x,rs,kinds,rfl,hS,hp,dw,hk,hw,k⟩:=h
  refine ⟨_,(qp (zh (i:=5) qbc.nd rfl (Aw rfl) (zn (qa7 T) (hr.mono (by decide)) rfl T.dLawCellAt.mgx T.dLawCellAt.fn.kp T.dLawCellAt.bd .nil qau (qj (pv 0) (qj qu qt zc) qm)))
   (qp (zh (i:=6) qbc.nd rfl (Aw rfl) (zi qas (zn (qa7 T) (hr.mono (by decide)) rfl T.dLawCellAt.mgx T.dLawCellAt.fn.kp T.dLawCellAt.bd .nil qau (qj (pv 0) (qj qu qt zc) qm)) qu))
   (qp (zh (i:=7) qbc.nd rfl (Cq rfl) (zn (qqg T) (hr.mono (by decide)) rfl T.dLawHeads.mgx T.dLawHeads.fn.kp T.dLawHeads.bd .nil qau (qj (pv 1) qt qm)))
   (qp (zm (PW.pt (qd3 (zg qay (pv 6) qu (qad _)) (qdt (zg qay (zo qaq (by rfl) T.n_len qap (qj (pv 1) qt qm)) qu (qad _))))) (qp (zh (i:=8) qbc.nd rfl (Cq rfl) (zi qa1 (zi qa1 (zz jb (pv 7) qu (λ_ _=>rfl)) qu) (zi qas (pv 5) (zi qfs (zo qaq (by rfl) T.n_len qap (qj (pv 4) qt qm)) (zz jb (pv 7) qu (λ_ _=>rfl))))))
   (qz (zd (zt (qj (pv 8) (qj (zn (qfo T) (hr.mono (by decide)) rfl T.dLawTermRow.mgx T.dLawTermRow.fn.kp T.dLawTermRow.bd .nil qau (qj (pv 2) (qj (zz jb (pv 3) qu (λ_ _=>rfl)) (qj (zz jb (pv 3) qu (λ_ _=>rfl)) qt zx) zx) qm)) (qj zq (qj (pv 8) qt qm) zc) zu) qm))))) qag)
   (qp (zh (i:=9) qbc.nd rfl (Aw rfl) (zn (qa7 T) (hr.mono (by decide)) rfl T.dLawCellAt.mgx T.dLawCellAt.fn.kp T.dLawCellAt.bd .nil qau (qj (pv 0) (qj qu qt zc) qm)))
   (qp (zm (PW.pt (qix (zg qqo (pv 6) qu (qad _)) (qix (zg (quq hr.units0) (pv 1) (zr qt) (qad _)) (qjp (zg qay (pv 6) qu (qad _)))))) (qp (zh (i:=8) qbc.nd rfl (Cq rfl) (zi qas (pv 9) (zi qa1 (zo qaq (by rfl) T.n_len qap (qj (pv 4) qt qm)) qu)))
   (qp (qcu (i:=10) qbc.nd rfl rfl (N:=["_law_k", "_law_rules_here", "_law_at", "_law_heads_here"]) (js:=[none,some 1,some 8,some 7]) (XN:=["_law_script", "_law_rules_here", "_law_spare", "_law_kinds", "_law_rows_here", "_law_cell", "_law_way", "_law_heads_here", "_law_at", "_law_turn", "_law_told_here", "_law_later", "_law_name", "_law_rest", "_law_k"]) (xs:=qab qe6) rfl rfl rfl (by decide +kernel) (qck rfl T.n_range (qj (zo qaq (by rfl) T.n_len qap (qj (pv 1) qt qm)) qt zu)) (λ_ _ _ _ _ _=>(qak (i:=0) (show BW (["_law_k", "_law_rules_here", "_law_at", "_law_heads_here"]:List Str) from by decide +kernel) rfl (Aw rfl) (Cq rfl))) (λ_ _ _ _ _ _=>(qmx (zg qqo (zz (qdh (K:=K) rfl) (pv 3) (pv 0) (λ_ _=>rfl)) (pv 2) (qad _)))) (λ_ _ _ _ _ _=>(zz (qdh (K:=K) rfl) (zz (qdh (K:=K) rfl) (pv 1) (pv 0) (λ_ _=>rfl)) qu (λ_ _=>rfl))))
   (qz (zd (zn (qnh T) (hr.mono (by decide)) rfl T.dLawNewTerm.mgx T.dLawNewTerm.fn.kp T.dLawNewTerm.bd .nil qau (qj (pv 6) (qj (pv 5) (qj (pv 10) (qj (pv 2) (qj (pv 3) (qj (pv 8) qt qm) qm) qm) qm) qm) qm)))))) qag)
   (qp (zm (zg qay (pv 6) qu (qad _)) (qp (zh (i:=8) qbc.nd rfl (Cq rfl) (zi qas (pv 9) (zi qa1 (zo qaq (by rfl) T.n_len qap (qj (pv 4) qt qm)) qu)))
   (qp (zh (i:=11) qbc.nd rfl (Aw rfl) (zi qde (qgp (N:=["_law_k", "_law_rules_here", "_law_at", "_law_heads_here"]) (js:=[none,some 1,some 8,some 7]) (XN:=["_law_script", "_law_rules_here", "_law_spare", "_law_kinds", "_law_rows_here", "_law_cell", "_law_way", "_law_heads_here", "_law_at", "_law_turn", "_law_told_here", "_law_later", "_law_name", "_law_rest", "_law_k"]) (xs:=qab qe6) rfl rfl rfl (by decide +kernel) (qck rfl T.n_range (qj (zo qaq (by rfl) T.n_len qap (qj (pv 1) qt qm)) qt zu)) (λ_ _ _ _ _ _=>(qak (i:=0) (show BW (["_law_k", "_law_rules_here", "_law_at", "_law_heads_here"]:List Str) from by decide +kernel) rfl (Aw rfl) (Cq rfl))) (λ_ _ _ _ _ _=>(qmx (zg op_ge (zz (qdh (K:=K) rfl) (pv 3) (pv 0) (λ_ _=>rfl)) (pv 2) (qad _)))) (λ_ _ _ _ _ _=>(zz (qdh (K:=K) rfl) (zz (qdh (K:=K) rfl) (pv 1) (pv 0) (λ_ _=>rfl)) qu (λ_ _=>rfl)))) (zr (qj (pv 2) qt qm))))
   (qp (zh (i:=12) qbc.nd rfl (Aw rfl) (zz jb (pv 11) (zi qas (zi qbe (pv 5) qu) (zo qaq (by rfl) T.n_len qap (qj (pv 11) qt qm))) (λ_ _=>rfl)))
   (qp (zh (i:=13) qbc.nd rfl (Aw rfl) (zr (qj (zi qaa (zi qaa (zi qaa zq (pv 12)) zq) (pv 12)) (qj (zn (qmo T) (hr.mono (by decide)) rfl T.dLawSort.mgx T.dLawSort.fn.kp T.dLawSort.bd .nil qau (qj (pv 5) (qj (pv 12) (qj (zz jb (pv 3) qu (λ_ _=>rfl)) (qj (zz jb (pv 3) (zi qa1 qu (zi qas (pv 9) qu)) (λ_ _=>rfl)) qt zx) zx) qm) qm)) qt zu) zw)))
   (qz (zd (zt (qj (pv 8) (qj (zz jb (pv 13) (qb3 qlm (by rfl) T.n_int qgd (qj (qdu op_gt (zi qas (zi qbe (pv 5) qu) qu) qu (qad _)) qt qnx)) (λ_ _=>rfl)) (qj zq (qj (pv 12) qt qm) zc) zx) qm)))))))) qag)
   (qp (zh (i:=14) qbc.nd rfl (Aw rfl) (zi qas (pv 9) (zo qaq (by rfl) T.n_len qap (qj (pv 1) qt qm))))
   (qp (zh (i:=8) qbc.nd rfl (Cq rfl) (zi qa1 (zi qa1 (zz jb (pv 7) (pv 14) (λ_ _=>rfl)) qu) (zi qas (zi qbe (pv 9) qu) (zi qfs (zo qaq (by rfl) T.n_len qap (qj (pv 4) qt qm)) (zz jb (pv 7) (pv 14) (λ_ _=>rfl))))))
   (qz (zd (zn (qli T) (hr.mono (by decide)) rfl T.dLawOtherRow.mgx T.dLawOtherRow.fn.kp T.dLawOtherRow.bd .nil qau (qj (pv 6) (qj (pv 5) (qj (zz jb (pv 1) (pv 14) (λ_ _=>rfl)) (qj (pv 4) (qj (pv 8) (qj (pv 3) qt qm) qm) qm) zx) qm) qm))))))))))))),?_⟩
  obtain ⟨a14,a15,v14,v15,o14,o15⟩:=dw.two
  have l39:=dw.l39
  have l6:=dw.gt.l6
  have lwl:(qbz (qac rs)).length=(qac rs).length:=qex _
  have hp':=hp
  obtain ⟨qs,hqs,lq,hlr⟩:=hp'
  refine ⟨_,rfl,_,_,_,rfl,hS,by decide,?_⟩
  dsimp only []
  generalize cell ns 36=c
  refine ⟨_,rfl,_,_,_,rfl,hS,by decide,_,_,rfl,rfl,(pos (by decide)),?_⟩
  dsimp only []
  generalize cell ns 35 % 7=w0
  refine ⟨_,rfl,p,rs,rfl,hp,dw.gt.ok,l6,by lia,λqh H1 nh s1 eh => ?_⟩
  have hq1:=s1 _ _ hqs
  have hk1:=s1 _ _ hk
  have hw1:=s1 _ _ hw
  apply qvn (p:=λH4=>H4=H1)
  .intro fin
   refine ⟨_,rfl,rfl,_,rfl,qb4 (λc1 => ?_) (λc1 => ?_)⟩
   .refine ⟨_,rfl,_,_,rfl,.inl ⟨_,SqL.of hq1,rfl⟩,rfl,_,rfl,qb4 (λc2 => ?_) (λc2 => ?_)⟩
    .have r6:rs.length=6:=by
      have:=V.int.inj (of_decide_eq_true c2)
      rw [Ab] at this
      lia
     have h5:hd rs 5 < (qac rs).length:=qrg (Ag (by lia))
     have x5:=qox rs (j:=5) (by lia)
     obtain ⟨n,en,n1,n2⟩:=qrl c h5
     refine ⟨_,rfl,_,_,_,_,rfl,rfl,SqL.of eh,x5,_,_,rfl,rfl,_,rfl,_,rfl,_,_,rfl,.inl ⟨_,SqL.of hw1,rfl⟩,_,rfl,_,_,_,_,rfl,rfl,SqL.of eh,x5,_,_,rfl,rfl,_,_,rfl,rfl,(pos (by rw [lwl]; lia)),_,_,rfl,rfl,?_⟩
     dsimp only []
     rw [lwl,en]
     refine ⟨_,rfl,_,rfl,_,rfl,_,_,_,_,rfl,rfl,SqL.of hk1,v14,_,rfl,_,_,_,_,rfl,rfl,SqL.of hk1,v15,x,a14,a15,rfl,dw.xo,o14,o15,λH7 s7=>⟨_,rfl,qal (show 4 <= 100000 by decide),λt nt => ?_⟩⟩
     exact k t _ n _ (.unfit n) (s1.trans (s7.trans (zj nt))) zb (qov dw.gt n2 dw.nx r6 n1 (qjn dw.xo o14 o15))
    .exact fin H1 rfl
   .exact qbo (fin H1 rfl)
  rintro H1 rfl
  refine ⟨_,rfl,_,_,_,rfl,s1.seq hS,by decide,?_⟩
  dsimp only []
  generalize cell ns 37=tn
  apply useAB (p:=λH4=>Same H1 H4) (p':=λH4=>Same H1 H4/\rs ≠ [])
  .intro finA finB
   refine ⟨_,rfl,_,_,rfl,rfl,_,rfl,qb4 (λc1 => ?_) (λc1 => ?_)⟩
   .exact qct (finA H1 (Same.refl _))
   .refine ⟨_,rfl,qe3,λpe npe => ?_⟩
    obtain ⟨s6,e6⟩:=alc (o:=.lst []) npe
    generalize upd H1 pe _=H6 at s6 e6 |-
    refine ⟨_,_,_,rfl,rfl,SqL.of (s6 _ _ hq1),SqL.of e6,_,rfl,qb4 (λc2 => ?_) (λc2 => ?_)⟩
    .exact qct (finA H6 s6)
    .refine ⟨_,rfl,rfl,_,rfl,qb4 (λc3 => ?_) (λc3 => ?_)⟩
     .exact finA H6 s6
     .refine finB H6 ⟨s6,λe=>c2 ?_⟩
      rw [e] at lq
      rw [List.length_eq_zero_iff.mp lq]; rfl
  .intro H4 s14
   have s4:=s1.trans s14
   obtain ⟨n,en,n1⟩:=qk1 tn (m:=(qac rs).length + 1) (by lia)
   refine ⟨_,rfl,_,rfl,_,_,rfl,.inl ⟨_,SqL.of (s4 _ _ hw),rfl⟩,_,_,rfl,rfl,_,_,rfl,rfl,(pos (by rw [lwl]; lia)),?_⟩
   dsimp only []
   rw [lwl,show (((qac rs).length:Nat):Int) + 1=(((qac rs).length + 1:Nat):Int) from rfl,en]
   have bnd:=rb (n:=(qs.map V.ref).length) (by rw [Ab]; lia)
   refine ⟨_,rfl,_,_,rfl,.inl ⟨_,SqL.of (s4 _ _ hqs),rfl⟩,_,rfl,bnd.1,bnd.2,?_⟩
   refine qii (pF λj=>decide ((hd rs j:Int) < (n:Int))) (nF rs) (λσ'=>∃ v,σ'=[v,some (.ref p),some (.int (n:Int)),some (.ref qh)]) qdy (qal (by rw [Ab,BB,Ab,Bx]; lia)) ⟨none,rfl⟩ (λv σ' J N RR hv sm s5 kn ky => ?_) qc2 λp5 hp5 => ?_
   .obtain ⟨v0,rfl⟩:=s5
    obtain ⟨j,hj,rfl⟩:=AS.mp hv
    have hj:j < rs.length:=by have:=Cb.mp hj; rw [Ab,Bx] at this; lia
    have ej:(0:Int) + (j:Int)=(j:Int):=BU _
    rw [ej] at kn ky |-
    have hr:rs[j]?=some rs[j]:=Ag hj
    have hq:qs[j]?=some (qs[j]'(by lia)):=Ag (by lia)
    obtain ⟨pe,pa,pl,py,sv,us,h1⟩:=(hlr j _ _ hq hr).same (s4.trans sm)
    refine ⟨_,rfl,_,rfl,_,_,_,_,rfl,rfl,SqL.of ((s14.trans sm) _ _ eh),qox rs hj,_,rfl,_,_,rfl,rfl,_,rfl,qb4 (λc1 => ?_) (λc1 => ?_)⟩
    .have c2:(decide ((hd rs j:Int) < (n:Int)))=true:=c1
     have:=ky [some (.int (j:Int)),some (.ref p),some (.int (n:Int)),some (.ref qh)] ⟨_,rfl⟩ c2
     rw [show nF rs (.int (j:Int))=.str rs[j].name by show V.str (rs.getD j r0).name=_; rw [qdw hr]] at this
     exact ⟨_,rfl,_,rfl,_,_,_,_,rfl,rfl,SqL.of ((s4.trans sm) _ _ hqs),qaz (by rw [Ak,hq]; rfl),_,_,_,_,rfl,rfl,SqL.of h1.hq,rfl,this⟩
    .exact kn _ ⟨_,rfl⟩ (by cases e:decide ((hd rs j:Int) < (n:Int)) with | true=>exact absurd e c1 | false=>exact e)
   rw [Ab,Bx,lq]
   obtain ⟨tl,etl,ltl,htl⟩:=qrk rs λj=>decide ((hd rs j:Int) < (n:Int))
   rw [etl]
   obtain ⟨s5,e5⟩:=alc (o:=.lst (tl.map V.str)) hp5
   generalize upd H4 p5 _=H5 at s5 e5 |-
   have s45:=s4.trans s5
   refine ⟨_,rfl,_,rfl,_,rfl,_,rfl,_,rfl,_,rfl,w0,c,p5,pk,x,n,rs,kinds,tl,rfl,dw,s45 _ _ hk,e5,by lia,λy hy => ?_,by lia,λt H' n' row e s9=>k t H' n' row e (s45.trans s9)⟩
   obtain ⟨k1,r1,g1,g2,g3⟩:=htl y hy
   have g3:=of_decide_eq_true g3
   exact ⟨k1,r1,g1,g2,by lia⟩
  rintro H4 ⟨s14,ne⟩
  have s4:=s1.trans s14
  have l1:1 <= rs.length:=by
   cases rs with
   | nil=>exact absurd rfl ne
   | cons _ _=>exact DY _
  refine ⟨_,rfl,rfl,_,rfl,qb4 (λc1 => ?_) (λc1 => ?_)⟩
  .obtain ⟨n,en,n1⟩:=qk1 tn (m:=(qac rs).length + 1) (by lia)
   refine ⟨_,rfl,_,rfl,_,_,rfl,.inl ⟨_,SqL.of (s4 _ _ hw),rfl⟩,_,_,rfl,rfl,_,_,rfl,rfl,(pos (by rw [lwl]; lia)),?_⟩
   dsimp only []
   rw [lwl,show (((qac rs).length:Nat):Int) + 1=(((qac rs).length + 1:Nat):Int) from rfl,en]
   have bnd:=rb (n:=(qs.map V.ref).length) (by rw [Ab]; lia)
   refine ⟨_,rfl,_,_,rfl,.inl ⟨_,SqL.of (s4 _ _ hqs),rfl⟩,_,rfl,bnd.1,bnd.2,?_⟩
   refine qii (pF λj=>decide ((n:Int) <= (hd rs j:Int))) (nF rs) (λσ'=>∃ v,σ'=[v,some (.ref p),some (.int (n:Int)),some (.ref qh)]) qdy (qal (by rw [Ab,BB,Ab,Bx]; lia)) ⟨none,rfl⟩ (λv σ' J N RR hv sm s5 kn ky => ?_) qc2 λp5 hp5 => ?_
   .obtain ⟨v0,rfl⟩:=s5
    obtain ⟨j,hj,rfl⟩:=AS.mp hv
    have hj:j < rs.length:=by have:=Cb.mp hj; rw [Ab,Bx] at this; lia
    have ej:(0:Int) + (j:Int)=(j:Int):=BU _
    rw [ej] at kn ky |-
    have hr:rs[j]?=some rs[j]:=Ag hj
    have hq:qs[j]?=some (qs[j]'(by lia)):=Ag (by lia)
    obtain ⟨pe,pa,pl,py,sv,us,h1⟩:=(hlr j _ _ hq hr).same (s4.trans sm)
    refine ⟨_,rfl,_,rfl,_,_,_,_,rfl,rfl,SqL.of ((s14.trans sm) _ _ eh),qox rs hj,_,rfl,_,_,rfl,rfl,_,rfl,qb4 (λc1 => ?_) (λc1 => ?_)⟩
    .have c2:(decide ((n:Int) <= (hd rs j:Int)))=true:=c1
     have:=ky [some (.int (j:Int)),some (.ref p),some (.int (n:Int)),some (.ref qh)] ⟨_,rfl⟩ c2
     rw [show nF rs (.int (j:Int))=.str rs[j].name by show V.str (rs.getD j r0).name=_; rw [qdw hr]] at this
     exact ⟨_,rfl,_,rfl,_,_,_,_,rfl,rfl,SqL.of ((s4.trans sm) _ _ hqs),qaz (by rw [Ak,hq]; rfl),_,_,_,_,rfl,rfl,SqL.of h1.hq,rfl,this⟩
    .exact kn _ ⟨_,rfl⟩ (by cases e:decide ((n:Int) <= (hd rs j:Int)) with | true=>exact absurd e c1 | false=>exact e)
   rw [Ab,Bx,lq]
   obtain ⟨tl,etl,ltl,htl⟩:=qrk rs λj=>decide ((n:Int) <= (hd rs j:Int))
   rw [etl]
   obtain ⟨s5,e5⟩:=alc (o:=.lst (tl.map V.str)) hp5
   generalize upd H4 p5 _=H5 at s5 e5 |-
   have s45:=s4.trans s5
   refine ⟨_,rfl,qal (show 1 <= 100000 by decide),λp6 n6 => ?_⟩
   obtain ⟨s6,e6⟩:=alc (o:=.lst ([x].map V.str)) n6
   generalize hH6:upd H5 p6 (.lst ([x].map V.str))=H6 at s6 e6
   rw [show upd H5 p6 (.lst [V.str x])=H6 from hH6]
   refine ⟨_,_,_,_,rfl,rfl,s6 _ _ e5,e6,qal (by rw [Ab,Ab]; show _ + 1 <= _; lia),λp7 n7 => ?_⟩
   rw [<- Ar]
   obtain ⟨s7,e7⟩:=alc (o:=.lst ((tl ++ [x]).map V.str)) n7
   generalize upd H6 p7 _=H7 at s7 e7 |-
   have s47:=s45.trans (s6.trans s7)
   have hxl:∀ y ∈ tl ++ [x],qa8 y/\((∃ k r,rs[k]?=some r/\r.name=y/\n <= hd rs k) \/ y ∉ rs.map RR.name):=λy hy=>by
    rcases A5.mp hy with hy | hy
    .obtain ⟨k1,r1,g1,g2,g3⟩:=htl y hy
     have g3:=of_decide_eq_true g3
     exact ⟨by rw [<- g2]; exact (dw.gt.ok r1 (Ap g1)).nm,.inl ⟨k1,r1,g1,g2,by lia⟩⟩
    .cases Aj.mp hy
     exact ⟨dw.xo,.inr dw.nx⟩
   have ll:1 <= (tl ++ [x]).length:=by rw [Ai]; show 1 <= _ + 1; lia
   have ll7:(tl ++ [x]).length <= 7:=by rw [Ai]; show _ + 1 <= _; lia
   generalize tl ++ [x]=lt at s7 e7 hxl ll ll7 |-
   obtain ⟨j,ej,hj⟩:=qk1 (c / 5) ll
   refine ⟨_,rfl,_,rfl,_,_,rfl,rfl,⟨by decide,by decide⟩,_,rfl,_,_,rfl,.inl ⟨_,SqL.of e7,rfl⟩,_,_,rfl,rfl,(pos (by rw [Ab]; lia)),?_⟩
   dsimp only []
   rw [Ab,ej]
   refine ⟨_,_,_,_,rfl,rfl,SqL.of e7,qp6 hj,?_⟩
   obtain ⟨oy,hy⟩:=hxl _ (Br hj)
   generalize lt[j]=y at oy hy |-
   obtain ⟨b,eb,ob⟩:=dw.odd tn
   obtain ⟨l1',l2,l3,l4,l5,l6',l7,l8,l9,l10,l11,l12,l13⟩:=qkt
   have y8:y.length <= 8:=oy.2.1
   refine ⟨_,rfl,_,_,rfl,rfl,fz,_,_,rfl,rfl,fz,_,rfl,_,_,rfl,rfl,fz,_,rfl,_,rfl,_,rfl,_,_,_,_,rfl,rfl,SqL.of (s47 _ _ hk),v14,_,rfl,_,rfl,_,_,rfl,rfl,(pos (by decide)),_,_,rfl,rfl,_,_,_,_,rfl,rfl,SqL.of (s47 _ _ hk),eb,c,y,a14,b,rfl,oy,o14,ob,λrow H8 s8 ro ti tn' tk=>⟨qal (show 2 <= 100000 by decide),λp9 n9 => ?_⟩⟩
   obtain ⟨s9,e9⟩:=alc (o:=.lst [.str (qam (.yields y y)),.str (qam row)]) n9
   rw [show (Aa "yields " ++ y ++ Aa " " ++ y)=qam (.yields y y) from qi6 y y]
   generalize upd H8 p9 _=H9 at s9 e9 |-
   have s49:=s47.trans (s8.trans s9)
   refine ⟨_,rfl,_,rfl,_,rfl,_,_,rfl,rfl,⟨by decide,by decide⟩,_,_,rfl,rfl,(pos (by decide)),_,_,rfl,rfl,.inr ⟨_,rfl,?_⟩⟩
   obtain ⟨row',er',ro',ti',tn2⟩:∃ row':Rw7,atI [V.str (qam (.yields y y)),.str (qam row)] (if decide (c / 40 % 6 > 0)=true then (1:Int) else 0)=some (.str (qam row'))/\qcz row'/\isT row'=false/\qan row'=y:=by
    split
    .exact ⟨row,rfl,ro,ti,tn'⟩
    .exact ⟨.yields y y,rfl,⟨oy,oy⟩,rfl,rfl⟩
   refine ⟨_,_,_,_,rfl,rfl,SqL.of e9,er',_,rfl,qal (show 4 <= 100000 by decide),λt nt => ?_⟩
   refine k t _ n row' (.term (qan row')) (s49.trans (zj nt)) (by rw [tn2]; exact zb) (qp3 dw.gt (by lia) ti' ro' (by rw [tn2]; exact hy))
  obtain ⟨j,ej,hj⟩:=qk1 tn l1
  refine ⟨_,rfl,_,rfl,_,_,rfl,.inl ⟨_,SqL.of (s4 _ _ hqs),rfl⟩,_,_,rfl,rfl,(pos (by rw [Ab]; lia)),?_⟩
  dsimp only []
  rw [Ab,lq,ej]
  have hr:rs[j]?=some rs[j]:=Ag hj
  have hq:qs[j]?=some (qs[j]'(by lia)):=Ag (by lia)
  obtain ⟨n,en,n1,n2⟩:=qrl (tn / 6) (qrg hr)
  have eh4:=s14 _ _ eh
  refine ⟨_,rfl,_,rfl,_,_,_,_,rfl,rfl,SqL.of eh4,qox rs hj,_,_,rfl,rfl,_,rfl,_,_,rfl,rfl,⟨by decide,by decide⟩,_,rfl,_,_,rfl,.inl ⟨_,SqL.of (s4 _ _ hw),rfl⟩,_,rfl,_,rfl,_,_,_,_,rfl,rfl,SqL.of eh4,qox rs hj,_,_,rfl,rfl,_,_,rfl,rfl,(pos (by have:=qrg hr; rw [lwl]; lia)),_,_,rfl,rfl,?_⟩
  dsimp only []
  rw [lwl,en]
  refine ⟨_,rfl,_,rfl,_,rfl,_,rfl,_,_,_,_,rfl,rfl,SqL.of (s4 _ _ hqs),qaz (by rw [Ak,hq]; rfl),_,rfl,_,rfl,_,rfl,w0,c,_,pw,pk,x,n,j,rs[j],rs,kinds,rfl,dw,(hlr j _ _ hq hr).same s4,hr,s4 _ _ hk,s4 _ _ hw,n1,n2,λt H' n' row e s9=>k t H' n' row e (s4.trans s9)⟩
theorem qjg (T:Txt K mg a):FnOk P w K mg base CX0 1 a.fBookTermNames a.gBookTermNames ["self"] (spTn a):=by
 refine T.dBookTermNames.fn.ok qje (λvs H Q E h => ?_) (λcdv A outer s H vs Q E hr h => ?_)
 .obtain ⟨_,_,_,_,rfl,_⟩:=h
  all_goals rfl
 .obtain ⟨x,rs,As,os,rfl,hb,ln,l6,k⟩:=h
  refine ⟨_,(qz (zd (qb3 (qpk rfl) (by rfl) T.n_list qef (qj (qba (pv 0) rfl) qt qci)))),?_⟩
  obtain ⟨dx,po,pd,h1,h2,h3⟩:=hb
  have e:(dcR rs As).map (λkv=>L2.kV kv.1)=(rs.map RR.name).map V.str:=by
   rw [show (λkv:Key × V=>L2.kV kv.1)=L2.kV ∘ Prod.fst from rfl,<- Bf,qol ln,Bf,Bf]; rfl
  refine ⟨_,rfl,_,_,_,_,_,rfl,h1,T.c_Book,ze T.n_Book (by decide),rfl,_,_,rfl,h3,λl hl => ?_⟩
  exact k l _ hl (zj hl) (by rw [zb]; exact congrArg (λz=>some (HO.lst z)) e)
theorem okLaw (T:Txt K mg a):FnOk P w K mg base CX0 10 a.fLaw a.gLaw ["_law_script"] (qq5 K):=by
 refine T.dLaw.fn.ok qfr (λvs H Q E h => ?_) (λcdv A outer s H vs Q E hr h => ?_)
 .obtain ⟨_,_,rfl,_⟩:=h
  all_goals rfl
 .obtain ⟨l,ns,rfl,hS,hlen,k⟩:=h
  refine ⟨_,(qp (qmr (zn (qqf T) (hr.mono (by decide)) rfl T.dLawDrawn.mgx T.dLawDrawn.fn.kp T.dLawDrawn.bd .nil qau (qj (pv 0) qt qm)) (qie rfl (qbn (qak (i:=1) qfr.nd rfl (Aw rfl)) (qbn (qak (i:=2) qfr.nd rfl (Aw rfl)) (qbn (qak (i:=3) qfr.nd rfl (Aw rfl)) qgo)))))
   (qp (zh (i:=4) qfr.nd rfl (Aw rfl) (zr qt))
   (qp (qcn B4 rfl (qb1 (pv 1)) (qak (i:=5) qfr.nd rfl (Aw rfl)) (qz (zh (i:=4) qfr.nd rfl (Aw rfl) (zi qde (pv 4) (zn (qmn T) (hr.mono (by decide)) rfl T.dLawRows.mgx T.dLawRows.fn.kp T.dLawRows.bd .nil qau (qj (pv 5) qt qm))))))
   (qp (qmr (zn (qqi T) (hr.mono (by decide)) rfl T.dLawFault.mgx T.dLawFault.fn.kp T.dLawFault.bd .nil qau (qj (pv 0) (qj (pv 1) (qj (zz jb (pv 2) qu (λ_ _=>rfl)) (qj (pv 3) (qj (pv 4) qt qm) qm) zx) qm) qm)) (qie rfl (qbn (qak (i:=6) qfr.nd rfl (Aw rfl)) (qbn (qak (i:=7) qfr.nd rfl (Aw rfl)) (qbn (qak (i:=8) qfr.nd rfl (Aw rfl)) (qbn (qak (i:=9) qfr.nd rfl (Aw rfl)) qgo))))))
   (qp (zh (i:=10) qfr.nd rfl (Aw rfl) (qcb Cf PySem.F.slot_str_join PySem.F.type_str_join qq1 zq (qj (zi qde (zi qde (qbb qb2 (pv 4) qc0 (qa5 (pv 6))) (zr (qj (pv 7) qt qm))) (qbb qb2 (pv 4) (qa5 (pv 6)) qc0)) qt zw)))
   (qp (zm (qid (zp (zn (qk7 T) (hr.mono (by decide)) rfl T.dLawRight.mgx T.dLawRight.fn.kp T.dLawRight.bd .nil qau (qj (pv 10) (qj (pv 8) (qj (pv 9) qt qm) qm) qm)))) (qz (zd qg2)) qag)
   (qp (zm (zg (qpe hr.units0) (qnm (zn (qk5 T) (hr.mono (by decide)) rfl T.dReadBook.mgx T.dReadBook.fn.kp T.dReadBook.bd .nil passF (qj (qcb Cf PySem.F.slot_str_join PySem.F.type_str_join qq1 zq (qj (pv 4) qt qm)) qt zu)) T.c_Book T.t_dBookTermNames (qjg T) (hr.mono (by decide)) T.dBookTermNames.bd .nil qau) (qgp (N:=["_law_rule_here"]) (js:=[none]) (XN:=["_law_script", "_law_rules_here", "_law_rest", "_law_kinds", "_law_rows_here", "_law_rule_here", "_law_at", "_law_row", "_law_word", "_law_field", "_law_text"]) (xs:=qab qpn) rfl rfl rfl (by decide +kernel) (qb1 (pv 1)) (λ_ _ _ _ _ _=>(qak (i:=0) (show BW (["_law_rule_here"]:List Str) from by decide +kernel) rfl (Aw rfl) (Cq rfl))) (λ_ _ _ _ _ _=>qdf) (λ_ _ _ _ _ _=>(zz (qdh (K:=K) rfl) (pv 0) qu (λ_ _=>rfl)))) (qad _)) (qz (zd qg2)) qag)
   (qz (zd (zn (qk7 T) (hr.mono (by decide)) rfl T.dLawRight.mgx T.dLawRight.fn.kp T.dLawRight.bd .nil qau (qj (pv 10) (qj (pv 8) (qj (pv 9) qt qm) qm) qm))))))))))),?_⟩
  refine ⟨_,rfl,l,ns,rfl,hS,λt p pr pk H1 qs rs x kinds s1 hp lq hlr ht hpr hpk dw => ?_⟩
  have l39:=dw.l39
  have l6:=dw.gt.l6
  have aok:=qnf dw.gt.ok
  refine ⟨_,_,rfl,SqT.of ht,rfl,_,_,rfl,_,_,rfl,_,_,rfl,rfl,?_⟩
  refine ⟨qe3,λq0 n0 => ?_⟩
  obtain ⟨s2,e0⟩:=alc (o:=.lst []) n0
  generalize upd H1 q0 _=H2 at s2 e0 |-
  refine ⟨_,rfl,_,rfl,⟨_,SqL.of (s2 _ _ hp)⟩,qc7 (K:=K) (a:=p) (xs:=qs.map V.ref) (λi σ J=>Same H1 J/\∃ qw,J qw=some (.lst (qbz (qac (rs.take i))))/\∃ v5:Option V,σ=[some (.ref l),some (.ref p),some (.ref pr),some (.ref pk),some (.ref qw),v5,none,none,none,none,none]) ⟨s2,q0,e0,none,rfl⟩ (λi σ J _ h=>SqL.of (h.1 _ _ hp)) ?_ ?_⟩
  .rintro i v σ J hv ⟨sJ,qw,hw,v5,rfl⟩
   rw [Ak] at hv
   cases eq:qs[i]? with
   | none=>rw [eq] at hv; cases hv
   | some qi =>
   rw [eq] at hv
   cases hv
   have hi:i < rs.length:=by rw [<- lq]; exact (Ae.mp eq).1
   have hr:rs[i]?=some rs[i]:=Ag hi
   have hnx:=qri hr
   have hll:hd rs (i + 1) <= (qac rs).length:=by
    have:=qxz (rs:=rs) (show i + 1 <= rs.length by lia)
    unfold hd at this
    rw [Bs] at this
    exact this
   unfold hd at hnx hll
   refine ⟨_,rfl,_,rfl,qi,rs[i],rfl,(hlr i qi _ eq hr).same sJ,dw.gt.ok _ (Br hi),λpz J3 nz s3 ez=>⟨_,_,_,_,rfl,rfl,s3 _ _ hw,ez,qal (by rw [qex,qex]; lia),λq2 n2 => ?_⟩⟩
   refine ⟨sJ.trans (s3.trans (zj n2)),q2,?_,_,rfl⟩
   rw [zb,qbg hr]
   unfold qac qbz
   rw [Bj,Ar,Ar]
   simp [Bd]
  rintro σ H3 ⟨s3,qw,hw,v5,rfl⟩
  rw [Ab,lq,Bs] at hw
  have s13:=s1.trans s3
  refine ⟨_,rfl,_,rfl,_,rfl,_,_,_,_,rfl,rfl,SqL.of (s3 _ _ hpr),rfl,_,rfl,_,rfl,l,p,pk,qw,ns,x,rs,kinds,rfl,s13.seq hS,⟨qs,s3 _ _ hp,lq,λi q r a b=>(hlr i q r a b).same s3⟩,dw,s3 _ _ hpk,hw,λt2 H4 n row e s4 ht2 bad => ?_⟩
  refine ⟨_,_,rfl,SqT.of ht2,rfl,_,_,rfl,_,_,rfl,_,_,rfl,_,_,rfl,rfl,?_⟩
  have hw4:=s4 _ _ hw
  have lb:=qxn aok l39 bad
  have rb7:=qsy dw.gt l39 bad
  have jo:=qow lb
  have ta:=qvo (qac rs) n (qam row)
  have hn:=bad.1
  generalize ((qac rs).take n).map qam ++ [qam row] ++ ((qac rs).drop n).map qam=LL at lb rb7 jo ta
  refine ⟨rfl,_,rfl,_,rfl,_,rfl,_,_,rfl,SqL.of hw4,λp5 n5 => ?_⟩
  rw [qpx]
  obtain ⟨s5,e5⟩:=alc (o:=.lst ((qbz (qac rs)).take n)) n5
  generalize upd H4 p5 _=H5 at s5 e5 |-
  refine ⟨_,rfl,qal (show 1 <= 100000 by decide),λp6 n6 => ?_⟩
  obtain ⟨s6,e6⟩:=alc (o:=.lst [V.str (qam row)]) n6
  generalize upd H5 p6 _=H6 at s6 e6 |-
  refine ⟨_,_,_,_,rfl,rfl,s6 _ _ e5,e6,qal (by rw [A2,qex]; show _ + 1 <= _; lia),λp7 n7 => ?_⟩
  obtain ⟨s7,e7⟩:=alc (o:=.lst ((qbz (qac rs)).take n ++ [V.str (qam row)])) n7
  generalize upd H6 p7 _=H7 at s7 e7 |-
  have s47:=s5.trans (s6.trans s7)
  refine ⟨_,rfl,_,rfl,_,rfl,_,_,rfl,SqL.of (s47 _ _ hw4),λp8 n8 => ?_⟩
  rw [qhu _ n (by rw [qex]; lia)]
  obtain ⟨s8,e8⟩:=alc (o:=.lst ((qbz (qac rs)).drop n)) n8
  generalize upd H7 p8 _=H8 at s8 e8 |-
  refine ⟨_,_,_,_,rfl,rfl,s8 _ _ e7,e8,qal (by rw [Ai,A2,Bl,qex]; show _ + 1 + _ <= _; lia),λp9 n9 => ?_⟩
  rw [<- ta]
  obtain ⟨s9,e9⟩:=alc (o:=.lst (LL.map V.str)) n9
  generalize upd H8 p9 _=H9 at s9 e9 |-
  have s49:=s47.trans (s8.trans s9)
  refine ⟨_,p9,LL,rfl,rfl,SqL.of e9,jo.1,?_⟩
  rw [jo.2]
  have lg:=qmm aok (by lia)
  have jg:=qow lg
  refine ⟨_,rfl,_,rfl,_,rfl,LL,e,rfl,lb,rb7,λHA sA=>⟨_,rfl,qbo ?_⟩⟩
  have s4A:=s49.trans sA
  refine ⟨rfl,_,rfl,_,qw,(qac rs).map qam,rfl,rfl,SqL.of (s4A _ _ hw4),jg.1,?_⟩
  rw [jg.2]
  refine ⟨_,rfl,lg,λrs' ok => ?_,(λer h=>(by rw [qmk dw.gt] at h; cases h))⟩
  rw [qmk dw.gt] at ok
  cases ok
  refine ⟨λxb HB As os sB bk => ?_,λx5 d5 l5 H5' r5 _ _ _ _ rg => ?_⟩
  .have bk':=bk.bk
   obtain ⟨dx,po,pd,hx1,hx2,hx3⟩:=bk'
   refine ⟨_,_,_,rfl,hx1,rfl,xb,rs,As,os,rfl,bk.bk,bk.ln,bk.l6,λqn HC nn sC eC => ?_⟩
   have s4C:=s4A.trans (sB.trans sC)
   have s3C:=s4.trans s4C
   have s1C:=s3.trans s3C
   refine ⟨_,rfl,_,rfl,⟨_,SqL.of (s1C _ _ hp)⟩,?_⟩
   have hdF:∀ (q:Addr) (r:RR),LR H1 q r->hdV HC (.ref q)=.str r.name:=λq r h=>by
    obtain ⟨pe,pa,pl,py,sv,us,h1⟩:=h
    unfold hdV
    dsimp only
    rw [s1C _ _ h1.hq]; rfl
   refine qc1 (hdV HC) (λσ'=>∃ v,σ'=[v]) (qdo (K:=K) (SqL.of (s1C _ _ hp))) (qal (by rw [Ab]; lia)) ⟨none,rfl⟩ (λv σ' J RR' hv sm s4' qq => ?_) qc2 λpD nD => ?_
   .obtain ⟨v0,rfl⟩:=s4'
    obtain ⟨q,hq,rfl⟩:=AS.mp hv
    obtain ⟨i,hi⟩:=AV hq
    have hi':i < rs.length:=by rw [<- lq]; exact (Ae.mp hi).1
    have hl:=hlr i q _ hi (Ag hi')
    have qq:=qq [some (.ref q)] ⟨_,rfl⟩
    rw [hdF q _ hl] at qq
    obtain ⟨pe,pa,pl,py,sv,us,h1⟩:=hl
    exact ⟨_,rfl,_,_,_,_,rfl,rfl,SqL.of (sm _ _ (s1C _ _ h1.hq)),rfl,qq⟩
   have emp:(qs.map V.ref).map (hdV HC)=(rs.map RR.name).map V.str:=by
    apply BK
    intro i
    rw [Ak,Ak,Ak,Ak]
    by_cases c:i < rs.length
    .have hq:qs[i]?=some (qs[i]'(by lia)):=Ag (by lia)
     have hr:rs[i]?=some rs[i]:=Ag c
     rw [hq,hr]
     show some (hdV HC (.ref _))=_
     rw [hdF _ _ (hlr i _ _ hq hr)]; rfl
    .rw [Bh (by lia),Bh (by lia)]; rfl
   rw [emp]
   obtain ⟨sD,eD⟩:=alc (o:=.lst ((rs.map RR.name).map V.str)) nD
   generalize upd HC pD _=HD at sD eD |-
   have flb:((rs.map RR.name).map V.str).all qcr=true:=by rw [CJ]; exact AZ.mpr λ_ _=>rfl
   refine ⟨_,_,_,_,rfl,rfl,SqL.of (sD _ _ eC),SqL.of eD,flb,flb,_,rfl,?_⟩
   rw [ql0 flb]
   exact qbo ⟨_,rfl,_,rfl,_,rfl,LL,e,rfl,lb,rb7,λHE sE=>k HE⟩
  .obtain ⟨rk,hrk⟩:=dw.rk
   exact (qxh hrk rg).elim
end
set_option maxHeartbeats 4000000 in
theorem all_mk {l:PySem.W.OpenLaw} {w:World} {K:Af} {h:Heap} {mg:Str->Option Value} {fa:Addr} (X:K.In h) (G:h.Ns A7 mg) (hfa:mg "law" = some (.ref fa))
  {C_Adrift:Addr} {C_Book:Addr} {C_CourtError:Addr} {C_Full:Addr} {C_NoAct:Addr} {C_NoDay:Addr} {C_NoName:Addr} {C_NoRow:Addr} {C_NoRule:Addr} {C_NoTable:Addr} {C_NoTerm:Addr} {C_Parted:Addr} {C_Ring:Addr} {C_Rule:Addr} {C_Twice:Addr} {C_Unfit:Addr} {f0:Addr} {f1:Addr} {f2:Addr} {f3:Addr} {f4:Addr} {f5:Addr} {f6:Addr} {f7:Addr} {f8:Addr} {f9:Addr} {f10:Addr} {f11:Addr} {f12:Addr} {od12 an12:Option Addr} {sl12:Array (Option Value)} {oc12 kV12 dc12 pm12 cd12 ct12:Value} {dV12:Value} {f13:Addr} {f14:Addr} {f15:Addr} {f16:Addr} {f17:Addr} {f18:Addr} {f19:Addr} {f20:Addr} {f21:Addr} {f22:Addr} {f23:Addr} {f24:Addr} {f25:Addr} {f26:Addr} {f27:Addr} {f28:Addr} {f29:Addr} {f30:Addr} {f31:Addr} {f32:Addr} {f33:Addr} {f34:Addr} {f35:Addr} {f36:Addr} {f37:Addr} {f38:Addr} {f39:Addr} {f40:Addr} {f41:Addr} {f42:Addr} {f43:Addr} {f44:Addr} {f45:Addr} {od45 an45:Option Addr} {sl45:Array (Option Value)} {oc45 kV45 dc45 pm45 cd45 ct45:Value} {tk_LONGEST_NAME:Tok} {tk_MOST_ROWS:Tok} {tk_MOST_TERMS:Tok} {tk_MOST_LONGER_ROWS:Tok} {A_UNITS:Addr} {oa_UNITS:Option Addr} {na_UNITS:Nat} {tt0_UNITS tt1_UNITS tt2_UNITS:Tok} {sa_UNITS:Array (Option Value)} {A_FORMS:Addr} {oa_FORMS:Option Addr} {na_FORMS:Nat} {sa_FORMS:Array (Option Value)} {A_FORMS_0:Addr} {oa_FORMS_0:Option Addr} {na_FORMS_0:Nat} {tt0_FORMS_0 tt1_FORMS_0 tt2_FORMS_0 tt3_FORMS_0 tt4_FORMS_0 tt5_FORMS_0 tt6_FORMS_0 tt7_FORMS_0 tt8_FORMS_0 tt9_FORMS_0:Tok} {sa_FORMS_0:Array (Option Value)} {A_FORMS_1:Addr} {oa_FORMS_1:Option Addr} {na_FORMS_1:Nat} {tt0_FORMS_1 tt1_FORMS_1 tt2_FORMS_1 tt3_FORMS_1 tt4_FORMS_1 tt5_FORMS_1 tt6_FORMS_1 tt7_FORMS_1 tt8_FORMS_1 tt9_FORMS_1:Tok} {sa_FORMS_1:Array (Option Value)} {A_FORMS_2:Addr} {oa_FORMS_2:Option Addr} {na_FORMS_2:Nat} {tt0_FORMS_2 tt1_FORMS_2 tt2_FORMS_2:Tok} {sa_FORMS_2:Array (Option Value)} {A_FORMS_3:Addr} {oa_FORMS_3:Option Addr} {na_FORMS_3:Nat} {tt0_FORMS_3 tt1_FORMS_3 tt2_FORMS_3:Tok} {sa_FORMS_3:Array (Option Value)} {A_FORMS_4:Addr} {oa_FORMS_4:Option Addr} {na_FORMS_4:Nat} {tt0_FORMS_4 tt1_FORMS_4 tt2_FORMS_4 tt3_FORMS_4 tt4_FORMS_4 tt5_FORMS_4:Tok} {sa_FORMS_4:Array (Option Value)} {A_FORMS_5:Addr} {oa_FORMS_5:Option Addr} {na_FORMS_5:Nat} {tt0_FORMS_5 tt1_FORMS_5 tt2_FORMS_5 tt3_FORMS_5:Tok} {sa_FORMS_5:Array (Option Value)} {A_FORMS_6:Addr} {oa_FORMS_6:Option Addr} {na_FORMS_6:Nat} {tt0_FORMS_6 tt1_FORMS_6 tt2_FORMS_6:Tok} {sa_FORMS_6:Array (Option Value)}
  (ca_Adrift:AC K A7 "Adrift" = some (some (.ref C_Adrift))) (ca_Book:AC K A7 "Book" = some (some (.ref C_Book))) (ca_CourtError:AC K A7 "CourtError" = some (some (.ref C_CourtError))) (ca_Full:AC K A7 "Full" = some (some (.ref C_Full))) (ca_NoAct:AC K A7 "NoAct" = some (some (.ref C_NoAct))) (ca_NoDay:AC K A7 "NoDay" = some (some (.ref C_NoDay))) (ca_NoName:AC K A7 "NoName" = some (some (.ref C_NoName))) (ca_NoRow:AC K A7 "NoRow" = some (some (.ref C_NoRow))) (ca_NoRule:AC K A7 "NoRule" = some (some (.ref C_NoRule))) (ca_NoTable:AC K A7 "NoTable" = some (some (.ref C_NoTable))) (ca_NoTerm:AC K A7 "NoTerm" = some (some (.ref C_NoTerm))) (ca_Parted:AC K A7 "Parted" = some (some (.ref C_Parted))) (ca_Ring:AC K A7 "Ring" = some (some (.ref C_Ring))) (ca_Rule:AC K A7 "Rule" = some (some (.ref C_Rule))) (ca_Twice:AC K A7 "Twice" = some (some (.ref C_Twice))) (ca_Unfit:AC K A7 "Unfit" = some (some (.ref C_Unfit))) (p0:Pd K "is_figure" qij f0) (p1:Pd K "is_written_number" qc4 f1) (p2:Pd K "number" qm1 f2) (p3:Pm K C_Ring "__init__" "Ring.__init__" qik f3) (p4:Pd K "untaken" qj7 f4) (p5:Pd K "hanging_order" qe0 f5) (p6:Pd K "is_small_letter" qem f6) (p7:Pd K "is_name" qjk f7) (p8:Pm K C_Book "__init__" "Book.__init__" qil f8) (p9:Pd K "lines_of" qj8 f9) (p10:Pd K "value_of" qj9 f10) (p11:Pd K "row_of" qm2 f11) (a12:AK K (.ref C_Rule) "__init__" = some (some (.ref f12))) (t12:Cc K (.ref f12)=some (.type "function")) (l12:K.lookup f12=some ⟨oc12,od12,.func (Bt "__init__" "Rule.__init__" (qbw qbr) (qbm qbr) (qab qbr) dV12 kV12 dc12 pm12 an12 cd12 ct12),sl12⟩) (c12:BR K cd12 "Rule.__init__" = true) (k12:Bg K (.ref f12)=true) (pk12:∀ (u0 u1 u2 u3 u4 u5 u6 u7 u8:Value) (S:Setting),PySem.W.peek K S (bindArgs (Bt "__init__" "Rule.__init__" (qbw qbr) (qbm qbr) (qab qbr) dV12 kV12 dc12 pm12 an12 cd12 ct12) ⟨[u0,u1,u2,u3,u4,u5,u6,u7,u8],[]⟩)=some [(Aa "self",u0),(Aa "name",u1),(Aa "who",u2),(Aa "owes",u3),(Aa "opens",u4),(Aa "base",u5),(Aa "many",u6),(Aa "unit",u7),(Aa "still",u8)]) (pe_RuleInit_8:∀ (u0 u1 u2 u3 u4 u5 u6 u7:Value) (S:Setting),PySem.W.peek K S (bindArgs (Bt "__init__" "Rule.__init__" (qbw qbr) (qbm qbr) (qab qbr) dV12 kV12 dc12 pm12 an12 cd12 ct12) ⟨[u0,u1,u2,u3,u4,u5,u6,u7],[]⟩)=some [(Aa "self",u0),(Aa "name",u1),(Aa "who",u2),(Aa "owes",u3),(Aa "opens",u4),(Aa "base",u5),(Aa "many",u6),(Aa "unit",u7),(Aa "still",BF)]) (p13:Pm K C_Twice "__init__" "Twice.__init__" qha f13) (p14:Pm K C_Unfit "__init__" "Unfit.__init__" qhb f14) (p15:Pd K "read_term" qim f15) (p16:Pm K C_NoTerm "__init__" "NoTerm.__init__" qf9 f16) (p17:Pm K C_Rule "all_kinds" "Rule.all_kinds" qdv f17) (p18:Pd K "kinds_in" qka f18) (p19:Pd K "is_unfit" qhp f19) (p20:Pd K "read_more" qin f20) (p21:Pd K "read_row" qkb f21) (p22:Pd K "settle_yields" qe1 f22) (p23:Pd K "settle_names" qfg f23) (p24:Pm K C_NoRule "__init__" "NoRule.__init__" qga f24) (p25:Pd K "read_book" qio f25) (p26:Pd K "_law_cell_at" qhc f26) (p27:Pd K "_law_words" qip f27) (p28:Pd K "_law_yields" qhd f28) (p29:Pd K "_law_base" qhq f29) (p30:Pd K "_law_rule" qhr f30) (p31:Pd K "_law_rules" qgs f31) (p32:Pd K "_law_sorts" qee f32) (p33:Pd K "_law_rows" qkc f33) (p34:Pd K "_law_told" qkd f34) (p35:Pd K "_law_right" qiq f35) (p36:Pd K "_law_drawn" qir f36) (p37:Pd K "_law_heads" qis f37) (p38:Pd K "_law_sort" qke f38) (p39:Pd K "_law_known" qit f39) (p40:Pd K "_law_term_row" qgb f40) (p41:Pd K "_law_new_term" qgc f41) (p42:Pd K "_law_other_row" qfh f42) (p43:Pd K "_law_fault" qe6 f43) (p44:Pm K C_Book "term_names" "Book.term_names" qen f44) (a45:AC K A7 "law" = some (some (.ref f45))) (l45:K.lookup f45=some ⟨oc45,od45,.func (Bt "law" "law" (qbw qpn) (qbm qpn) (qab qpn) .none kV45 dc45 pm45 an45 cd45 ct45),sl45⟩) (c45:BR K cd45 "law" = true) (k45:Bg K (.ref f45)=true) (z_ValueError:AC K A7 "ValueError" = some none) (z_all:AC K A7 "all" = some none) (z_any:AC K A7 "any" = some none) (z_bool:AC K A7 "bool" = some none) (z_enumerate:AC K A7 "enumerate" = some none) (z_int:AC K A7 "int" = some none) (z_isinstance:AC K A7 "isinstance" = some none) (z_len:AC K A7 "len" = some none) (z_list:AC K A7 "list" = some none) (z_range:AC K A7 "range" = some none) (z_reversed:AC K A7 "reversed" = some none) (z_str:AC K A7 "str" = some none) (z_zip:AC K A7 "zip" = some none) (q_LONGEST_NAME:AC K A7 "LONGEST_NAME" = some (some (.int 8 tk_LONGEST_NAME))) (q_MOST_ROWS:AC K A7 "MOST_ROWS" = some (some (.int 40 tk_MOST_ROWS))) (q_MOST_TERMS:AC K A7 "MOST_TERMS" = some (some (.int 6 tk_MOST_TERMS))) (q_MOST_LONGER_ROWS:AC K A7 "MOST_LONGER_ROWS" = some (some (.int 2 tk_MOST_LONGER_ROWS))) (q_UNITS:AC K A7 "UNITS" = some (some (.ref A_UNITS))) (lt_UNITS:K.lookup A_UNITS=some ⟨.type "tuple",oa_UNITS,.seq #[.str (Aa "days") tt0_UNITS,.str (Aa "weeks") tt1_UNITS,.str (Aa "court") tt2_UNITS] na_UNITS,sa_UNITS⟩) (q_FORMS:AC K A7 "FORMS" = some (some (.ref A_FORMS))) (lt_FORMS:K.lookup A_FORMS=some ⟨.type "tuple",oa_FORMS,.seq #[.ref A_FORMS_0,.ref A_FORMS_1,.ref A_FORMS_2,.ref A_FORMS_3,.ref A_FORMS_4,.ref A_FORMS_5,.ref A_FORMS_6] na_FORMS,sa_FORMS⟩) (lt_FORMS_0:K.lookup A_FORMS_0=some ⟨.type "tuple",oa_FORMS_0,.seq #[.str (Aa "term") tt0_FORMS_0,.str (Aa "NAME") tt1_FORMS_0,.str (Aa "of") tt2_FORMS_0,.str (Aa "NAME") tt3_FORMS_0,.str (Aa "due") tt4_FORMS_0,.str (Aa "NAME") tt5_FORMS_0,.str (Aa "from") tt6_FORMS_0,.str (Aa "NAME") tt7_FORMS_0,.int 40 tt8_FORMS_0,.str (Aa "UNIT") tt9_FORMS_0] na_FORMS_0,sa_FORMS_0⟩) (lt_FORMS_1:K.lookup A_FORMS_1=some ⟨.type "tuple",oa_FORMS_1,.seq #[.str (Aa "term") tt0_FORMS_1,.str (Aa "NAME") tt1_FORMS_1,.str (Aa "of") tt2_FORMS_1,.str (Aa "NAME") tt3_FORMS_1,.str (Aa "due") tt4_FORMS_1,.str (Aa "NAME") tt5_FORMS_1,.str (Aa "behind") tt6_FORMS_1,.str (Aa "NAME") tt7_FORMS_1,.int 40 tt8_FORMS_1,.str (Aa "UNIT") tt9_FORMS_1] na_FORMS_1,sa_FORMS_1⟩) (lt_FORMS_2:K.lookup A_FORMS_2=some ⟨.type "tuple",oa_FORMS_2,.seq #[.str (Aa "ends") tt0_FORMS_2,.str (Aa "NAME") tt1_FORMS_2,.str (Aa "NAME") tt2_FORMS_2] na_FORMS_2,sa_FORMS_2⟩) (lt_FORMS_3:K.lookup A_FORMS_3=some ⟨.type "tuple",oa_FORMS_3,.seq #[.str (Aa "anew") tt0_FORMS_3,.str (Aa "NAME") tt1_FORMS_3,.str (Aa "NAME") tt2_FORMS_3] na_FORMS_3,sa_FORMS_3⟩) (lt_FORMS_4:K.lookup A_FORMS_4=some ⟨.type "tuple",oa_FORMS_4,.seq #[.str (Aa "longer") tt0_FORMS_4,.str (Aa "NAME") tt1_FORMS_4,.str (Aa "NAME") tt2_FORMS_4,.int 20 tt3_FORMS_4,.str (Aa "times") tt4_FORMS_4,.int 3 tt5_FORMS_4] na_FORMS_4,sa_FORMS_4⟩) (lt_FORMS_5:K.lookup A_FORMS_5=some ⟨.type "tuple",oa_FORMS_5,.seq #[.str (Aa "still") tt0_FORMS_5,.str (Aa "NAME") tt1_FORMS_5,.str (Aa "NAME") tt2_FORMS_5,.str (Aa "NAME") tt3_FORMS_5] na_FORMS_5,sa_FORMS_5⟩) (lt_FORMS_6:K.lookup A_FORMS_6=some ⟨.type "tuple",oa_FORMS_6,.seq #[.str (Aa "yields") tt0_FORMS_6,.str (Aa "NAME") tt1_FORMS_6,.str (Aa "NAME") tt2_FORMS_6] na_FORMS_6,sa_FORMS_6⟩) (cc_Book:qwf K C_Book=true) (cm_Book:mkB K C_Book f8=true) (cn_Book:xNo K C_Book ["name", "who", "owes", "opens", "base", "many", "unit", "still", "ends", "anew", "longer", "yields", "order", "by_name", "names", "at"]=true) (ct_dBookTermNames:qqz K C_Book "term_names" f44=true) (cb_CourtError:qt6 K C_CourtError=true) (cx_NoRule:qpf K C_NoRule (some (.ref f24))=true) (cn_NoRule:xNo K C_NoRule ["name", "who", "owes", "opens", "base", "many", "unit", "still", "ends", "anew", "longer", "yields", "order", "by_name", "names", "at"]=true) (ck_NoRule:qf6 K C_NoRule [Al C_CourtError,BO "ValueError",Al C_NoRule,Al C_NoTerm,Al C_Twice,Al C_Unfit,Al C_Ring] [true,true,true,false,false,false,false]=true) (cx_NoTerm:qpf K C_NoTerm (some (.ref f16))=true) (cn_NoTerm:xNo K C_NoTerm ["name", "who", "owes", "opens", "base", "many", "unit", "still", "ends", "anew", "longer", "yields", "order", "by_name", "names", "at"]=true) (ck_NoTerm:qf6 K C_NoTerm [Al C_CourtError,BO "ValueError",Al C_NoRule,Al C_NoTerm,Al C_Twice,Al C_Unfit,Al C_Ring] [true,true,false,true,false,false,false]=true) (cx_Ring:qpf K C_Ring (some (.ref f3))=true) (cn_Ring:xNo K C_Ring ["name", "who", "owes", "opens", "base", "many", "unit", "still", "ends", "anew", "longer", "yields", "order", "by_name", "names", "at"]=true) (ck_Ring:qf6 K C_Ring [Al C_CourtError,BO "ValueError",Al C_NoRule,Al C_NoTerm,Al C_Twice,Al C_Unfit,Al C_Ring] [true,true,false,false,false,false,true]=true) (cc_Rule:qwf K C_Rule=true) (cm_Rule:mkB K C_Rule f12=true) (cn_Rule:xNo K C_Rule ["name", "who", "owes", "opens", "base", "many", "unit", "still", "ends", "anew", "longer", "yields", "order", "by_name", "names", "at"]=true) (ct_dRuleAllKinds:qqz K C_Rule "all_kinds" f17=true) (cx_Twice:qpf K C_Twice (some (.ref f13))=true) (cn_Twice:xNo K C_Twice ["name", "who", "owes", "opens", "base", "many", "unit", "still", "ends", "anew", "longer", "yields", "order", "by_name", "names", "at"]=true) (ck_Twice:qf6 K C_Twice [Al C_CourtError,BO "ValueError",Al C_NoRule,Al C_NoTerm,Al C_Twice,Al C_Unfit,Al C_Ring] [true,true,false,false,true,false,false]=true) (cx_Unfit:qpf K C_Unfit (some (.ref f14))=true) (cn_Unfit:xNo K C_Unfit ["name", "who", "owes", "opens", "base", "many", "unit", "still", "ends", "anew", "longer", "yields", "order", "by_name", "names", "at"]=true) (ck_Unfit:qf6 K C_Unfit [Al C_CourtError,BO "ValueError",Al C_NoRule,Al C_NoTerm,Al C_Twice,Al C_Unfit,Al C_Ring] [true,true,false,false,false,true,false]=true) (cr_NoRule:qg8 K C_NoRule=true) (ch_NoRule_Adrift:(Ac K (.ref C_NoRule) (.ref C_Adrift) == some false)=true) (ch_NoRule_Full:(Ac K (.ref C_NoRule) (.ref C_Full) == some false)=true) (ch_NoRule_NoAct:(Ac K (.ref C_NoRule) (.ref C_NoAct) == some false)=true) (ch_NoRule_NoDay:(Ac K (.ref C_NoRule) (.ref C_NoDay) == some false)=true) (ch_NoRule_NoName:(Ac K (.ref C_NoRule) (.ref C_NoName) == some false)=true) (ch_NoRule_NoRow:(Ac K (.ref C_NoRule) (.ref C_NoRow) == some false)=true) (ch_NoRule_NoRule:(Ac K (.ref C_NoRule) (.ref C_NoRule) == some true)=true) (ch_NoRule_NoTable:(Ac K (.ref C_NoRule) (.ref C_NoTable) == some false)=true) (ch_NoRule_NoTerm:(Ac K (.ref C_NoRule) (.ref C_NoTerm) == some false)=true) (ch_NoRule_Parted:(Ac K (.ref C_NoRule) (.ref C_Parted) == some false)=true) (ch_NoRule_Ring:(Ac K (.ref C_NoRule) (.ref C_Ring) == some false)=true) (ch_NoRule_Twice:(Ac K (.ref C_NoRule) (.ref C_Twice) == some false)=true) (ch_NoRule_Unfit:(Ac K (.ref C_NoRule) (.ref C_Unfit) == some false)=true) (cr_NoTerm:qg8 K C_NoTerm=true) (ch_NoTerm_Adrift:(Ac K (.ref C_NoTerm) (.ref C_Adrift) == some false)=true) (ch_NoTerm_Full:(Ac K (.ref C_NoTerm) (.ref C_Full) == some false)=true) (ch_NoTerm_NoAct:(Ac K (.ref C_NoTerm) (.ref C_NoAct) == some false)=true) (ch_NoTerm_NoDay:(Ac K (.ref C_NoTerm) (.ref C_NoDay) == some false)=true) (ch_NoTerm_NoName:(Ac K (.ref C_NoTerm) (.ref C_NoName) == some false)=true) (ch_NoTerm_NoRow:(Ac K (.ref C_NoTerm) (.ref C_NoRow) == some false)=true) (ch_NoTerm_NoRule:(Ac K (.ref C_NoTerm) (.ref C_NoRule) == some false)=true) (ch_NoTerm_NoTable:(Ac K (.ref C_NoTerm) (.ref C_NoTable) == some false)=true) (ch_NoTerm_NoTerm:(Ac K (.ref C_NoTerm) (.ref C_NoTerm) == some true)=true) (ch_NoTerm_Parted:(Ac K (.ref C_NoTerm) (.ref C_Parted) == some false)=true) (ch_NoTerm_Ring:(Ac K (.ref C_NoTerm) (.ref C_Ring) == some false)=true) (ch_NoTerm_Twice:(Ac K (.ref C_NoTerm) (.ref C_Twice) == some false)=true) (ch_NoTerm_Unfit:(Ac K (.ref C_NoTerm) (.ref C_Unfit) == some false)=true) (cr_Ring:qg8 K C_Ring=true) (ch_Ring_Adrift:(Ac K (.ref C_Ring) (.ref C_Adrift) == some false)=true) (ch_Ring_Full:(Ac K (.ref C_Ring) (.ref C_Full) == some false)=true) (ch_Ring_NoAct:(Ac K (.ref C_Ring) (.ref C_NoAct) == some false)=true) (ch_Ring_NoDay:(Ac K (.ref C_Ring) (.ref C_NoDay) == some false)=true) (ch_Ring_NoName:(Ac K (.ref C_Ring) (.ref C_NoName) == some false)=true) (ch_Ring_NoRow:(Ac K (.ref C_Ring) (.ref C_NoRow) == some false)=true) (ch_Ring_NoRule:(Ac K (.ref C_Ring) (.ref C_NoRule) == some false)=true) (ch_Ring_NoTable:(Ac K (.ref C_Ring) (.ref C_NoTable) == some false)=true) (ch_Ring_NoTerm:(Ac K (.ref C_Ring) (.ref C_NoTerm) == some false)=true) (ch_Ring_Parted:(Ac K (.ref C_Ring) (.ref C_Parted) == some false)=true) (ch_Ring_Ring:(Ac K (.ref C_Ring) (.ref C_Ring) == some true)=true) (ch_Ring_Twice:(Ac K (.ref C_Ring) (.ref C_Twice) == some false)=true) (ch_Ring_Unfit:(Ac K (.ref C_Ring) (.ref C_Unfit) == some false)=true) (cr_Twice:qg8 K C_Twice=true) (ch_Twice_Adrift:(Ac K (.ref C_Twice) (.ref C_Adrift) == some false)=true) (ch_Twice_Full:(Ac K (.ref C_Twice) (.ref C_Full) == some false)=true) (ch_Twice_NoAct:(Ac K (.ref C_Twice) (.ref C_NoAct) == some false)=true) (ch_Twice_NoDay:(Ac K (.ref C_Twice) (.ref C_NoDay) == some false)=true) (ch_Twice_NoName:(Ac K (.ref C_Twice) (.ref C_NoName) == some false)=true) (ch_Twice_NoRow:(Ac K (.ref C_Twice) (.ref C_NoRow) == some false)=true) (ch_Twice_NoRule:(Ac K (.ref C_Twice) (.ref C_NoRule) == some false)=true) (ch_Twice_NoTable:(Ac K (.ref C_Twice) (.ref C_NoTable) == some false)=true) (ch_Twice_NoTerm:(Ac K (.ref C_Twice) (.ref C_NoTerm) == some false)=true) (ch_Twice_Parted:(Ac K (.ref C_Twice) (.ref C_Parted) == some false)=true) (ch_Twice_Ring:(Ac K (.ref C_Twice) (.ref C_Ring) == some false)=true) (ch_Twice_Twice:(Ac K (.ref C_Twice) (.ref C_Twice) == some true)=true) (ch_Twice_Unfit:(Ac K (.ref C_Twice) (.ref C_Unfit) == some false)=true) (cr_Unfit:qg8 K C_Unfit=true) (ch_Unfit_Adrift:(Ac K (.ref C_Unfit) (.ref C_Adrift) == some false)=true) (ch_Unfit_Full:(Ac K (.ref C_Unfit) (.ref C_Full) == some false)=true) (ch_Unfit_NoAct:(Ac K (.ref C_Unfit) (.ref C_NoAct) == some false)=true) (ch_Unfit_NoDay:(Ac K (.ref C_Unfit) (.ref C_NoDay) == some false)=true) (ch_Unfit_NoName:(Ac K (.ref C_Unfit) (.ref C_NoName) == some false)=true) (ch_Unfit_NoRow:(Ac K (.ref C_Unfit) (.ref C_NoRow) == some false)=true) (ch_Unfit_NoRule:(Ac K (.ref C_Unfit) (.ref C_NoRule) == some false)=true) (ch_Unfit_NoTable:(Ac K (.ref C_Unfit) (.ref C_NoTable) == some false)=true) (ch_Unfit_NoTerm:(Ac K (.ref C_Unfit) (.ref C_NoTerm) == some false)=true) (ch_Unfit_Parted:(Ac K (.ref C_Unfit) (.ref C_Parted) == some false)=true) (ch_Unfit_Ring:(Ac K (.ref C_Unfit) (.ref C_Ring) == some false)=true) (ch_Unfit_Twice:(Ac K (.ref C_Unfit) (.ref C_Twice) == some false)=true) (ch_Unfit_Unfit:(Ac K (.ref C_Unfit) (.ref C_Unfit) == some true)=true)
  : ∃ fd:AB,(∀ (s:Ah) (v:Value),BindsTo s fd ⟨[v],[]⟩ [("_law_script",v)])/\∀ base:Heap,K.In base->base.Ns A7 mg->FnOk l.prog w K mg base CX0 10 fa fd ["_law_script"] (qq5 K):=by
 have e:=hfa.symm.trans (AT X G a45)
 cases e
 obtain ⟨g0,d0⟩:=qbi X G p0 (ps:=["sign"]) λ_ _ _ _ _ _=>qg0 λ_=>rfl
 obtain ⟨g1,d1⟩:=qbi X G p1 (ps:=["text", "most_figures"]) λ_ _ _ _ _ _=>qhs λ_ _=>rfl
 obtain ⟨g2,d2⟩:=qbi X G p2 (ps:=["text", "most"]) λ_ _ _ _ _ _=>qhs λ_ _=>rfl
 obtain ⟨g3,d3⟩:=qi0 p3 (ps:=["self", "names"]) λ_ _ _ _ _ _=>qhs λ_ _=>rfl
 obtain ⟨g4,d4⟩:=qbi X G p4 (ps:=["name", "bases", "taken"]) λ_ _ _ _ _ _=>qle λ_ _ _=>rfl
 obtain ⟨g5,d5⟩:=qbi X G p5 (ps:=["rules"]) λ_ _ _ _ _ _=>qg0 λ_=>rfl
 obtain ⟨g6,d6⟩:=qbi X G p6 (ps:=["sign"]) λ_ _ _ _ _ _=>qg0 λ_=>rfl
 obtain ⟨g7,d7⟩:=qbi X G p7 (ps:=["thing"]) λ_ _ _ _ _ _=>qg0 λ_=>rfl
 obtain ⟨g8,d8⟩:=qi0 p8 (ps:=["self", "rules"]) λ_ _ _ _ _ _=>qhs λ_ _=>rfl
 obtain ⟨g9,d9⟩:=qbi X G p9 (ps:=["text"]) λ_ _ _ _ _ _=>qg0 λ_=>rfl
 obtain ⟨g10,d10⟩:=qbi X G p10 (ps:=["word", "asked"]) λ_ _ _ _ _ _=>qhs λ_ _=>rfl
 obtain ⟨g11,d11⟩:=qbi X G p11 (ps:=["line"]) λ_ _ _ _ _ _=>qg0 λ_=>rfl
 obtain ⟨g13,d13⟩:=qi0 p13 (ps:=["self", "name"]) λ_ _ _ _ _ _=>qhs λ_ _=>rfl
 obtain ⟨g14,d14⟩:=qi0 p14 (ps:=["self", "at"]) λ_ _ _ _ _ _=>qhs λ_ _=>rfl
 obtain ⟨g15,d15⟩:=qbi X G p15 (ps:=["told", "at", "row"]) λ_ _ _ _ _ _=>qle λ_ _ _=>rfl
 obtain ⟨g16,d16⟩:=qi0 p16 (ps:=["self", "name"]) λ_ _ _ _ _ _=>qhs λ_ _=>rfl
 obtain ⟨g17,d17⟩:=qi0 p17 (ps:=["self"]) λ_ _ _ _ _ _=>qg0 λ_=>rfl
 obtain ⟨g18,d18⟩:=qbi X G p18 (ps:=["row"]) λ_ _ _ _ _ _=>qg0 λ_=>rfl
 obtain ⟨g19,d19⟩:=qbi X G p19 (ps:=["rule", "row"]) λ_ _ _ _ _ _=>qhs λ_ _=>rfl
 obtain ⟨g20,d20⟩:=qbi X G p20 (ps:=["rule", "at", "row"]) λ_ _ _ _ _ _=>qle λ_ _ _=>rfl
 obtain ⟨g21,d21⟩:=qbi X G p21 (ps:=["told", "at", "row"]) λ_ _ _ _ _ _=>qle λ_ _ _=>rfl
 obtain ⟨g22,d22⟩:=qbi X G p22 (ps:=["told", "rule", "at", "other"]) λ_ _ _ _ _ _=>qus λ_ _ _ _=>rfl
 obtain ⟨g23,d23⟩:=qbi X G p23 (ps:=["told", "at", "row"]) λ_ _ _ _ _ _=>qle λ_ _ _=>rfl
 obtain ⟨g24,d24⟩:=qi0 p24 (ps:=["self", "at"]) λ_ _ _ _ _ _=>qhs λ_ _=>rfl
 obtain ⟨g25,d25⟩:=qbi X G p25 (ps:=["text"]) λ_ _ _ _ _ _=>qg0 λ_=>rfl
 obtain ⟨g26,d26⟩:=qbi X G p26 (ps:=["_law_script", "_law_k"]) λ_ _ _ _ _ _=>qhs λ_ _=>rfl
 obtain ⟨g27,d27⟩:=qbi X G p27 (ps:=["_law_cell", "_law_many"]) λ_ _ _ _ _ _=>qhs λ_ _=>rfl
 obtain ⟨g28,d28⟩:=qbi X G p28 (ps:=["_law_script", "_law_at", "_law_names"]) λ_ _ _ _ _ _=>qle λ_ _ _=>rfl
 obtain ⟨g29,d29⟩:=qbi X G p29 (ps:=["_law_script", "_law_at", "_law_names"]) λ_ _ _ _ _ _=>qle λ_ _ _=>rfl
 obtain ⟨g30,d30⟩:=qbi X G p30 (ps:=["_law_script", "_law_at", "_law_names", "_law_kinds"]) λ_ _ _ _ _ _=>qus λ_ _ _ _=>rfl
 obtain ⟨g31,d31⟩:=qbi X G p31 (ps:=["_law_script", "_law_names", "_law_kinds", "_law_most"]) λ_ _ _ _ _ _=>qus λ_ _ _ _=>rfl
 obtain ⟨g32,d32⟩:=qbi X G p32 (ps:=["_law_rule_here"]) λ_ _ _ _ _ _=>qg0 λ_=>rfl
 obtain ⟨g33,d33⟩:=qbi X G p33 (ps:=["_law_rule_here"]) λ_ _ _ _ _ _=>qg0 λ_=>rfl
 obtain ⟨g34,d34⟩:=qbi X G p34 (ps:=["_law_text"]) λ_ _ _ _ _ _=>qg0 λ_=>rfl
 obtain ⟨g35,d35⟩:=qbi X G p35 (ps:=["_law_text", "_law_word", "_law_field"]) λ_ _ _ _ _ _=>qle λ_ _ _=>rfl
 obtain ⟨g36,d36⟩:=qbi X G p36 (ps:=["_law_script"]) λ_ _ _ _ _ _=>qg0 λ_=>rfl
 obtain ⟨g37,d37⟩:=qbi X G p37 (ps:=["_law_rules_here"]) λ_ _ _ _ _ _=>qg0 λ_=>rfl
 obtain ⟨g38,d38⟩:=qbi X G p38 (ps:=["_law_cell", "_law_name", "_law_kind", "_law_other"]) λ_ _ _ _ _ _=>qus λ_ _ _ _=>rfl
 obtain ⟨g39,d39⟩:=qbi X G p39 (ps:=["_law_rule_here", "_law_rows_here"]) λ_ _ _ _ _ _=>qhs λ_ _=>rfl
 obtain ⟨g40,d40⟩:=qbi X G p40 (ps:=["_law_name", "_law_one", "_law_two"]) λ_ _ _ _ _ _=>qle λ_ _ _=>rfl
 obtain ⟨g41,d41⟩:=qbi X G p41 (ps:=["_law_way", "_law_cell", "_law_told_here", "_law_spare", "_law_kinds", "_law_at"]) λ_ _ _ _ _ _=>arg6 λ_ _ _ _ _ _=>rfl
 obtain ⟨g42,d42⟩:=qbi X G p42 (ps:=["_law_way", "_law_cell", "_law_rule_here", "_law_rows_here", "_law_at", "_law_kinds"]) λ_ _ _ _ _ _=>arg6 λ_ _ _ _ _ _=>rfl
 obtain ⟨g43,d43⟩:=qbi X G p43 (ps:=["_law_script", "_law_rules_here", "_law_spare", "_law_kinds", "_law_rows_here"]) λ_ _ _ _ _ _=>arg5 λ_ _ _ _ _=>rfl
 obtain ⟨g44,d44⟩:=qi0 p44 (ps:=["self"]) λ_ _ _ _ _ _=>qg0 λ_=>rfl
 have F12:=qwj (st:=qbr) l12 c12 k12
 have b12:Binds K _ ["self", "name", "who", "owes", "opens", "base", "many", "unit", "still"] []:=quf (ds:=[]) λus hl S=>match us,hl with | [u0,u1,u2,u3,u4,u5,u6,u7,u8],_=>pk12 u0 u1 u2 u3 u4 u5 u6 u7 u8 S
 have F45:=qo8 (st:=qpn) l45 c45 k45
 have b45:=F45.binds (ps:=["_law_script"]) λ_ _ _ _ _ _ us hl=>match us,hl with | [_],_=>rfl
 have he_RuleInit_8:Binds K _ ["self", "name", "who", "owes", "opens", "base", "many", "unit", "still"] [.none]:=quf λus hl S=>match us,(show us.length=8 by rw [Ai] at hl; exact Nat.add_right_cancel hl) with | [u0,u1,u2,u3,u4,u5,u6,u7],_=>pe_RuleInit_8 u0 u1 u2 u3 u4 u5 u6 u7 S
 have T:Txt K mg { fIsFigure:=f0,gIsFigure:=g0,fIsWrittenNumber:=f1,gIsWrittenNumber:=g1,fNumber:=f2,gNumber:=g2,fRingInit:=f3,gRingInit:=g3,fUntaken:=f4,gUntaken:=g4,fHangingOrder:=f5,gHangingOrder:=g5,fIsSmallLetter:=f6,gIsSmallLetter:=g6,fIsName:=f7,gIsName:=g7,fBookInit:=f8,gBookInit:=g8,fLinesOf:=f9,gLinesOf:=g9,fValueOf:=f10,gValueOf:=g10,fRowOf:=f11,gRowOf:=g11,fRuleInit:=f12,gRuleInit:=_,fTwiceInit:=f13,gTwiceInit:=g13,fUnfitInit:=f14,gUnfitInit:=g14,fReadTerm:=f15,gReadTerm:=g15,fNoTermInit:=f16,gNoTermInit:=g16,fRuleAllKinds:=f17,gRuleAllKinds:=g17,fKindsIn:=f18,gKindsIn:=g18,fIsUnfit:=f19,gIsUnfit:=g19,fReadMore:=f20,gReadMore:=g20,fReadRow:=f21,gReadRow:=g21,fSettleYields:=f22,gSettleYields:=g22,fSettleNames:=f23,gSettleNames:=g23,fNoRuleInit:=f24,gNoRuleInit:=g24,fReadBook:=f25,gReadBook:=g25,fLawCellAt:=f26,gLawCellAt:=g26,fLawWords:=f27,gLawWords:=g27,fLawYields:=f28,gLawYields:=g28,fLawBase:=f29,gLawBase:=g29,fLawRule:=f30,gLawRule:=g30,fLawRules:=f31,gLawRules:=g31,fLawSorts:=f32,gLawSorts:=g32,fLawRows:=f33,gLawRows:=g33,fLawTold:=f34,gLawTold:=g34,fLawRight:=f35,gLawRight:=g35,fLawDrawn:=f36,gLawDrawn:=g36,fLawHeads:=f37,gLawHeads:=g37,fLawSort:=f38,gLawSort:=g38,fLawKnown:=f39,gLawKnown:=g39,fLawTermRow:=f40,gLawTermRow:=g40,fLawNewTerm:=f41,gLawNewTerm:=g41,fLawOtherRow:=f42,gLawOtherRow:=g42,fLawFault:=f43,gLawFault:=g43,fBookTermNames:=f44,gBookTermNames:=g44,fLaw:=fa,gLaw:=_,cAdrift:=C_Adrift,cBook:=C_Book,cCourtError:=C_CourtError,cFull:=C_Full,cNoAct:=C_NoAct,cNoDay:=C_NoDay,cNoName:=C_NoName,cNoRow:=C_NoRow,cNoRule:=C_NoRule,cNoTable:=C_NoTable,cNoTerm:=C_NoTerm,cParted:=C_Parted,cRing:=C_Ring,cRule:=C_Rule,cTwice:=C_Twice,cUnfit:=C_Unfit,tUNITS:=A_UNITS,tFORMS:=A_FORMS,tFORMS_0:=A_FORMS_0,tFORMS_1:=A_FORMS_1,tFORMS_2:=A_FORMS_2,tFORMS_3:=A_FORMS_3,tFORMS_4:=A_FORMS_4,tFORMS_5:=A_FORMS_5,tFORMS_6:=A_FORMS_6 }:={
  dIsFigure:=d0,
  dIsWrittenNumber:=d1,
  dNumber:=d2,
  dRingInit:=d3,
  dUntaken:=d4,
  dHangingOrder:=d5,
  dIsSmallLetter:=d6,
  dIsName:=d7,
  dBookInit:=d8,
  dLinesOf:=d9,
  dValueOf:=d10,
  dRowOf:=d11,
  dRuleInit:=⟨F12,b12,t12⟩,
  dTwiceInit:=d13,
  dUnfitInit:=d14,
  dReadTerm:=d15,
  dNoTermInit:=d16,
  dRuleAllKinds:=d17,
  dKindsIn:=d18,
  dIsUnfit:=d19,
  dReadMore:=d20,
  dReadRow:=d21,
  dSettleYields:=d22,
  dSettleNames:=d23,
  dNoRuleInit:=d24,
  dReadBook:=d25,
  dLawCellAt:=d26,
  dLawWords:=d27,
  dLawYields:=d28,
  dLawBase:=d29,
  dLawRule:=d30,
  dLawRules:=d31,
  dLawSorts:=d32,
  dLawRows:=d33,
  dLawTold:=d34,
  dLawRight:=d35,
  dLawDrawn:=d36,
  dLawHeads:=d37,
  dLawSort:=d38,
  dLawKnown:=d39,
  dLawTermRow:=d40,
  dLawNewTerm:=d41,
  dLawOtherRow:=d42,
  dLawFault:=d43,
  dBookTermNames:=d44,
  dLaw:=⟨F45,AT X G a45,b45⟩,
  m_Adrift:=AT X G ca_Adrift,
  m_Book:=AT X G ca_Book,
  c_Book:=qub cc_Book,
  k_Book:=qxv cm_Book,
  n_Book:=cn_Book,
  t_dBookTermNames:=qq0 ct_dBookTermNames,
  m_CourtError:=AT X G ca_CourtError,
  b_CourtError:=xb_of cb_CourtError,
  m_Full:=AT X G ca_Full,
  m_NoAct:=AT X G ca_NoAct,
  m_NoDay:=AT X G ca_NoDay,
  m_NoName:=AT X G ca_NoName,
  m_NoRow:=AT X G ca_NoRow,
  m_NoRule:=AT X G ca_NoRule,
  x_NoRule:=qn4 cx_NoRule,
  n_NoRule:=cn_NoRule,
  k_NoRule:=ck_NoRule,
  m_NoTable:=AT X G ca_NoTable,
  m_NoTerm:=AT X G ca_NoTerm,
  x_NoTerm:=qn4 cx_NoTerm,
  n_NoTerm:=cn_NoTerm,
  k_NoTerm:=ck_NoTerm,
  m_Parted:=AT X G ca_Parted,
  m_Ring:=AT X G ca_Ring,
  x_Ring:=qn4 cx_Ring,
  n_Ring:=cn_Ring,
  k_Ring:=ck_Ring,
  m_Rule:=AT X G ca_Rule,
  c_Rule:=qub cc_Rule,
  k_Rule:=qxv cm_Rule,
  n_Rule:=cn_Rule,
  t_dRuleAllKinds:=qq0 ct_dRuleAllKinds,
  m_Twice:=AT X G ca_Twice,
  x_Twice:=qn4 cx_Twice,
  n_Twice:=cn_Twice,
  k_Twice:=ck_Twice,
  m_Unfit:=AT X G ca_Unfit,
  x_Unfit:=qn4 cx_Unfit,
  n_Unfit:=cn_Unfit,
  k_Unfit:=ck_Unfit,
  r_NoRule:=qn6 cr_NoRule,
  h_NoRule_Adrift:=beq_iff_eq.mp ch_NoRule_Adrift,
  h_NoRule_Full:=beq_iff_eq.mp ch_NoRule_Full,
  h_NoRule_NoAct:=beq_iff_eq.mp ch_NoRule_NoAct,
  h_NoRule_NoDay:=beq_iff_eq.mp ch_NoRule_NoDay,
  h_NoRule_NoName:=beq_iff_eq.mp ch_NoRule_NoName,
  h_NoRule_NoRow:=beq_iff_eq.mp ch_NoRule_NoRow,
  h_NoRule_NoRule:=beq_iff_eq.mp ch_NoRule_NoRule,
  h_NoRule_NoTable:=beq_iff_eq.mp ch_NoRule_NoTable,
  h_NoRule_NoTerm:=beq_iff_eq.mp ch_NoRule_NoTerm,
  h_NoRule_Parted:=beq_iff_eq.mp ch_NoRule_Parted,
  h_NoRule_Ring:=beq_iff_eq.mp ch_NoRule_Ring,
  h_NoRule_Twice:=beq_iff_eq.mp ch_NoRule_Twice,
  h_NoRule_Unfit:=beq_iff_eq.mp ch_NoRule_Unfit,
  r_NoTerm:=qn6 cr_NoTerm,
  h_NoTerm_Adrift:=beq_iff_eq.mp ch_NoTerm_Adrift,
  h_NoTerm_Full:=beq_iff_eq.mp ch_NoTerm_Full,
  h_NoTerm_NoAct:=beq_iff_eq.mp ch_NoTerm_NoAct,
  h_NoTerm_NoDay:=beq_iff_eq.mp ch_NoTerm_NoDay,
  h_NoTerm_NoName:=beq_iff_eq.mp ch_NoTerm_NoName,
  h_NoTerm_NoRow:=beq_iff_eq.mp ch_NoTerm_NoRow,
  h_NoTerm_NoRule:=beq_iff_eq.mp ch_NoTerm_NoRule,
  h_NoTerm_NoTable:=beq_iff_eq.mp ch_NoTerm_NoTable,
  h_NoTerm_NoTerm:=beq_iff_eq.mp ch_NoTerm_NoTerm,
  h_NoTerm_Parted:=beq_iff_eq.mp ch_NoTerm_Parted,
  h_NoTerm_Ring:=beq_iff_eq.mp ch_NoTerm_Ring,
  h_NoTerm_Twice:=beq_iff_eq.mp ch_NoTerm_Twice,
  h_NoTerm_Unfit:=beq_iff_eq.mp ch_NoTerm_Unfit,
  r_Ring:=qn6 cr_Ring,
  h_Ring_Adrift:=beq_iff_eq.mp ch_Ring_Adrift,
  h_Ring_Full:=beq_iff_eq.mp ch_Ring_Full,
  h_Ring_NoAct:=beq_iff_eq.mp ch_Ring_NoAct,
  h_Ring_NoDay:=beq_iff_eq.mp ch_Ring_NoDay,
  h_Ring_NoName:=beq_iff_eq.mp ch_Ring_NoName,
  h_Ring_NoRow:=beq_iff_eq.mp ch_Ring_NoRow,
  h_Ring_NoRule:=beq_iff_eq.mp ch_Ring_NoRule,
  h_Ring_NoTable:=beq_iff_eq.mp ch_Ring_NoTable,
  h_Ring_NoTerm:=beq_iff_eq.mp ch_Ring_NoTerm,
  h_Ring_Parted:=beq_iff_eq.mp ch_Ring_Parted,
  h_Ring_Ring:=beq_iff_eq.mp ch_Ring_Ring,
  h_Ring_Twice:=beq_iff_eq.mp ch_Ring_Twice,
  h_Ring_Unfit:=beq_iff_eq.mp ch_Ring_Unfit,
  r_Twice:=qn6 cr_Twice,
  h_Twice_Adrift:=beq_iff_eq.mp ch_Twice_Adrift,
  h_Twice_Full:=beq_iff_eq.mp ch_Twice_Full,
  h_Twice_NoAct:=beq_iff_eq.mp ch_Twice_NoAct,
  h_Twice_NoDay:=beq_iff_eq.mp ch_Twice_NoDay,
  h_Twice_NoName:=beq_iff_eq.mp ch_Twice_NoName,
  h_Twice_NoRow:=beq_iff_eq.mp ch_Twice_NoRow,
  h_Twice_NoRule:=beq_iff_eq.mp ch_Twice_NoRule,
  h_Twice_NoTable:=beq_iff_eq.mp ch_Twice_NoTable,
  h_Twice_NoTerm:=beq_iff_eq.mp ch_Twice_NoTerm,
  h_Twice_Parted:=beq_iff_eq.mp ch_Twice_Parted,
  h_Twice_Ring:=beq_iff_eq.mp ch_Twice_Ring,
  h_Twice_Twice:=beq_iff_eq.mp ch_Twice_Twice,
  h_Twice_Unfit:=beq_iff_eq.mp ch_Twice_Unfit,
  r_Unfit:=qn6 cr_Unfit,
  h_Unfit_Adrift:=beq_iff_eq.mp ch_Unfit_Adrift,
  h_Unfit_Full:=beq_iff_eq.mp ch_Unfit_Full,
  h_Unfit_NoAct:=beq_iff_eq.mp ch_Unfit_NoAct,
  h_Unfit_NoDay:=beq_iff_eq.mp ch_Unfit_NoDay,
  h_Unfit_NoName:=beq_iff_eq.mp ch_Unfit_NoName,
  h_Unfit_NoRow:=beq_iff_eq.mp ch_Unfit_NoRow,
  h_Unfit_NoRule:=beq_iff_eq.mp ch_Unfit_NoRule,
  h_Unfit_NoTable:=beq_iff_eq.mp ch_Unfit_NoTable,
  h_Unfit_NoTerm:=beq_iff_eq.mp ch_Unfit_NoTerm,
  h_Unfit_Parted:=beq_iff_eq.mp ch_Unfit_Parted,
  h_Unfit_Ring:=beq_iff_eq.mp ch_Unfit_Ring,
  h_Unfit_Twice:=beq_iff_eq.mp ch_Unfit_Twice,
  h_Unfit_Unfit:=beq_iff_eq.mp ch_Unfit_Unfit,
  e_RuleInit_8:=he_RuleInit_8,
  n_ValueError:=Bm X G z_ValueError,
  n_all:=Bm X G z_all,
  n_any:=Bm X G z_any,
  n_bool:=Bm X G z_bool,
  n_enumerate:=Bm X G z_enumerate,
  n_int:=Bm X G z_int,
  n_isinstance:=Bm X G z_isinstance,
  n_len:=Bm X G z_len,
  n_list:=Bm X G z_list,
  n_range:=Bm X G z_range,
  n_reversed:=Bm X G z_reversed,
  n_str:=Bm X G z_str,
  n_zip:=Bm X G z_zip,
  g_LONGEST_NAME:=⟨_,AT X G q_LONGEST_NAME⟩,
  g_MOST_ROWS:=⟨_,AT X G q_MOST_ROWS⟩,
  g_MOST_TERMS:=⟨_,AT X G q_MOST_TERMS⟩,
  g_MOST_LONGER_ROWS:=⟨_,AT X G q_MOST_LONGER_ROWS⟩,
  g_UNITS:=AT X G q_UNITS,s_UNITS:=λH=>.inr ⟨_,_,_,lt_UNITS,rfl,rfl,by show 3 <= Ax; rw [Bi]; decide,.cons ⟨_,rfl⟩ (.cons ⟨_,rfl⟩ (.cons ⟨_,rfl⟩ (.nil)))⟩,
  g_FORMS:=AT X G q_FORMS,s_FORMS:=λH=>.inr ⟨_,_,_,lt_FORMS,rfl,rfl,by show 7 <= Ax; rw [Bi]; decide,.cons rfl (.cons rfl (.cons rfl (.cons rfl (.cons rfl (.cons rfl (.cons rfl (.nil)))))))⟩,
  s_FORMS_0:=λH=>.inr ⟨_,_,_,lt_FORMS_0,rfl,rfl,by show 10 <= Ax; rw [Bi]; decide,.cons ⟨_,rfl⟩ (.cons ⟨_,rfl⟩ (.cons ⟨_,rfl⟩ (.cons ⟨_,rfl⟩ (.cons ⟨_,rfl⟩ (.cons ⟨_,rfl⟩ (.cons ⟨_,rfl⟩ (.cons ⟨_,rfl⟩ (.cons ⟨_,rfl⟩ (.cons ⟨_,rfl⟩ (.nil))))))))))⟩,
  s_FORMS_1:=λH=>.inr ⟨_,_,_,lt_FORMS_1,rfl,rfl,by show 10 <= Ax; rw [Bi]; decide,.cons ⟨_,rfl⟩ (.cons ⟨_,rfl⟩ (.cons ⟨_,rfl⟩ (.cons ⟨_,rfl⟩ (.cons ⟨_,rfl⟩ (.cons ⟨_,rfl⟩ (.cons ⟨_,rfl⟩ (.cons ⟨_,rfl⟩ (.cons ⟨_,rfl⟩ (.cons ⟨_,rfl⟩ (.nil))))))))))⟩,
  s_FORMS_2:=λH=>.inr ⟨_,_,_,lt_FORMS_2,rfl,rfl,by show 3 <= Ax; rw [Bi]; decide,.cons ⟨_,rfl⟩ (.cons ⟨_,rfl⟩ (.cons ⟨_,rfl⟩ (.nil)))⟩,
  s_FORMS_3:=λH=>.inr ⟨_,_,_,lt_FORMS_3,rfl,rfl,by show 3 <= Ax; rw [Bi]; decide,.cons ⟨_,rfl⟩ (.cons ⟨_,rfl⟩ (.cons ⟨_,rfl⟩ (.nil)))⟩,
  s_FORMS_4:=λH=>.inr ⟨_,_,_,lt_FORMS_4,rfl,rfl,by show 6 <= Ax; rw [Bi]; decide,.cons ⟨_,rfl⟩ (.cons ⟨_,rfl⟩ (.cons ⟨_,rfl⟩ (.cons ⟨_,rfl⟩ (.cons ⟨_,rfl⟩ (.cons ⟨_,rfl⟩ (.nil))))))⟩,
  s_FORMS_5:=λH=>.inr ⟨_,_,_,lt_FORMS_5,rfl,rfl,by show 4 <= Ax; rw [Bi]; decide,.cons ⟨_,rfl⟩ (.cons ⟨_,rfl⟩ (.cons ⟨_,rfl⟩ (.cons ⟨_,rfl⟩ (.nil))))⟩,
  s_FORMS_6:=λH=>.inr ⟨_,_,_,lt_FORMS_6,rfl,rfl,by show 3 <= Ax; rw [Bi]; decide,.cons ⟨_,rfl⟩ (.cons ⟨_,rfl⟩ (.cons ⟨_,rfl⟩ (.nil)))⟩ }
 exact ⟨_,λs v=>.of_eq rfl,λbase _ _=>okLaw T⟩
theorem walk {l:PySem.W.OpenLaw} {q:AM} {loose:List Str} {XP:(Str->Option Value)->Heap->Prop} {YP:World->Heap->Prop} {d:DefRec} {K:Params->Af} (hn:l.most=some 63) (hdf:d.params.defaults=[])
  (hY:∀ (w:World) (h:Heap),YP w h->(K w.params).In h)
  (F:∀ (w:World) (mg:Str->Option Value) (fa:Addr) (h:Heap),(K w.params).In h->h.Ns A7 mg->mg d.name=some (.ref fa) ->
   ∃ fd:AB,(∀ (s:Ah) (u:Value),BindsTo s fd ⟨[u],[]⟩ [("_law_script",u)])/\∀ base:Heap,(K w.params).In base->base.Ns A7 mg->FnOk l.prog w (K w.params) mg base CX0 10 fa fd ["_law_script"] (qq5 (K w.params))) :
  PySem.W.WalkO q loose XP YP l.row.toRowW d [] (λf vs=>PySem.call f vs) :=
 L2.walk_of (n:=63) (k:=10) (x := "_law_script") (CX:=λ_=>CX0) (sp:=λw=>qq5 (K w.params)) hn (by decide) hdf ⟨rfl,by decide,by decide⟩ hY F (λ_ _ a ns hl _ hS=>⟨a,ns,rfl,hS,hl,λ_=>rfl⟩) λ_ _ _ _ _ z=>z
end K45
namespace PySem.W.Fast
noncomputable def tw3585371065999255232:Unit:=()
noncomputable def tw10626725172822037340:Unit:=()
noncomputable def tw8273088863153683259:Unit:=()
noncomputable def tw15357914209179157324:Unit:=()
noncomputable def tw8406011199943731615:Unit:=()
noncomputable def tw392014653308787361:Unit:=()
noncomputable def tw14825580489000223107:Unit:=()
noncomputable def tw7915377630053042128:Unit:=()
noncomputable def tw1703368652659967894:Unit:=()
noncomputable def tw11748903652631370161:Unit:=()
noncomputable def tw11106952489703006827:Unit:=()
noncomputable def tw2467316853376015589:Unit:=()
noncomputable def tw13253929338165212914:Unit:=()
noncomputable def tw14888497424729778196:Unit:=()
noncomputable def tw16274817405643694495:Unit:=()
noncomputable def tw15868682490405202619:Unit:=()
noncomputable def tw7640148524970508684:Unit:=()
noncomputable def tw2067431764950040157:Unit:=()
noncomputable def tw3628053472419285351:Unit:=()
noncomputable def tw12840403510437030349:Unit:=()
noncomputable def tw8340005169165324102:Unit:=()
noncomputable def tw13533635347172654006:Unit:=()
noncomputable def tw10644526501817311006:Unit:=()
noncomputable def tw15586490613778070964:Unit:=()
noncomputable def tw14730488842833269037:Unit:=()
noncomputable def tw13825641810883249456:Unit:=()
noncomputable def tw1162563596570215762:Unit:=()
noncomputable def tw15841803401521238524:Unit:=()
noncomputable def tw7283480449448574843:Unit:=()
noncomputable def tw1168458527229847127:Unit:=()
noncomputable def tw3007828120204135996:Unit:=()
noncomputable def tw1706700332036919791:Unit:=()
noncomputable def tw10482344046360592930:Unit:=()
noncomputable def tw1356468453514052239:Unit:=()
noncomputable def tw14752063920156938556:Unit:=()
noncomputable def tw17369871045422923161:Unit:=()
noncomputable def tw2876806891153671582:Unit:=()
noncomputable def tw11631140225942593208:Unit:=()
noncomputable def tw12088192431737540182:Unit:=()
noncomputable def tw12427057082980643957:Unit:=()
noncomputable def tw11592308257236153462:Unit:=()
noncomputable def tw16337524470405795774:Unit:=()
noncomputable def tw13466593740395774525:Unit:=()
noncomputable def tw8445173795954762146:Unit:=()
noncomputable def tw13292858352929642885:Unit:=()
noncomputable def tw16053650539728677167:Unit:=()
noncomputable def tw2227239649107601850:Unit:=()
noncomputable def tw1718862421577027998:Unit:=()
noncomputable def tw12268045848853800842:Unit:=()
noncomputable def tw7202404925845559827:Unit:=()
noncomputable def tw18120754257491338001:Unit:=()
noncomputable def tw10157376773139691871:Unit:=()
noncomputable def tw17283539065658401011:Unit:=()
noncomputable def tw7283948909166477283:Unit:=()
noncomputable def tw7350622876009888532:Unit:=()
noncomputable def tw6262181178867419614:Unit:=()
noncomputable def tw8896460946283777008:Unit:=()
noncomputable def tw3927183259769599640:Unit:=()
noncomputable def tw16530554144463478222:Unit:=()
noncomputable def tw14236031210139299415:Unit:=()
noncomputable def tw9238507440919000985:Unit:=()
noncomputable def tw1426540048680910111:Unit:=()
noncomputable def tw12349766877836139503:Unit:=()
noncomputable def tw7191930179865230753:Unit:=()
noncomputable def tw7574669836114999043:Unit:=()
noncomputable def tw6145003158321380194:Unit:=()
noncomputable def tw1717171195174768104:Unit:=()
noncomputable def tw16380053984153550883:Unit:=()
noncomputable def tw8174220046383597204:Unit:=()
noncomputable def tw9319287261357402812:Unit:=()
noncomputable def tw10275995130794271097:Unit:=()
noncomputable def tw794545058288857548:Unit:=()
noncomputable def tw1498083322929543156:Unit:=()
noncomputable def tw10110624225702229021:Unit:=()
noncomputable def tw11854223341778155191:Unit:=()
noncomputable def tw3484417488887485937:Unit:=()
noncomputable def tw3942508901238407552:Unit:=()
noncomputable def tw7396486471993954397:Unit:=()
noncomputable def tw16842559522325286590:Unit:=()
noncomputable def tw14693371550772592188:Unit:=()
noncomputable def tw785663506316878044:Unit:=()
noncomputable def tw6698544186794874951:Unit:=()
noncomputable def tw12994914885450374003:Unit:=()
noncomputable def tw8476806205491024924:Unit:=()
noncomputable def tw12983084018729701358:Unit:=()
noncomputable def tw9029449018264884272:Unit:=()
noncomputable def tw3936065266004320087:Unit:=()
noncomputable def tw16331433032441578472:Unit:=()
noncomputable def tw13985373443301874580:Unit:=()
noncomputable def tw8799645172577010141:Unit:=()
noncomputable def tw2932979460565299522:Unit:=()
noncomputable def tw7795791542383112753:Unit:=()
noncomputable def tw2769512608752331117:Unit:=()
noncomputable def tw3558162476405623142:Unit:=()
noncomputable def tw9311701382217955015:Unit:=()
noncomputable def tw8441361783395050831:Unit:=()
noncomputable def tw7795967861305899278:Unit:=()
noncomputable def tw5036979576380116009:Unit:=()
noncomputable def tw11846224334972660576:Unit:=()
noncomputable def tw6617488163693662361:Unit:=()
noncomputable def tw12175086387100637539:Unit:=()
noncomputable def tw13851703984235965096:Unit:=()
noncomputable def tw2887231140734237394:Unit:=()
noncomputable def tw9925325149397181082:Unit:=()
noncomputable def tw17504720017522552153:Unit:=()
noncomputable def tw11088143298051945546:Unit:=()
noncomputable def tw28679692476250620:Unit:=()
noncomputable def tw5631078473371051848:Unit:=()
noncomputable def tw7731376878840839011:Unit:=()
noncomputable def tw37797406156688967:Unit:=()
noncomputable def tw695926794387097342:Unit:=()
noncomputable def tw2967596845803093489:Unit:=()
noncomputable def tw6503948192077478765:Unit:=()
noncomputable def tw13295875902458694679:Unit:=()
noncomputable def tw8753043078959255049:Unit:=()
noncomputable def tw166044465324924019:Unit:=()
noncomputable def tw12284986306350546241:Unit:=()
noncomputable def tw8883016144193965272:Unit:=()
end PySem.W.Fast
open PySem PySem.W PyProof.Rows
set_option maxRecDepth 100000 in
set_option maxHeartbeats 0 in
theorem PySem.Challenge.cw_termcourt_k45_roles_apart_holds : PySem.Challenge.rw_termcourt_k45_roles_apart.Holds := by
 w_on; o_law; k_head; (case hw=>w_witness2)
 k_fill
 refine K45.walk (l:=PySem.Challenge.rw_termcourt_k45_roles_apart) rfl rfl (λw h Y=>PySem.W.kIn_of Y) ?F
 case F =>
  intro w mg fa h KX G hmg
  refine' K45.all_mk KX G hmg ?ca_Adrift ?ca_Book ?ca_CourtError ?ca_Full ?ca_NoAct ?ca_NoDay ?ca_NoName ?ca_NoRow ?ca_NoRule ?ca_NoTable ?ca_NoTerm ?ca_Parted ?ca_Ring ?ca_Rule ?ca_Twice ?ca_Unfit ?p0 ?p1 ?p2 ?p3 ?p4 ?p5 ?p6 ?p7 ?p8 ?p9 ?p10 ?p11 ?a12 ?t12 ?l12 ?c12 ?k12 ?pk12 ?pe_RuleInit_8 ?p13 ?p14 ?p15 ?p16 ?p17 ?p18 ?p19 ?p20 ?p21 ?p22 ?p23 ?p24 ?p25 ?p26 ?p27 ?p28 ?p29 ?p30 ?p31 ?p32 ?p33 ?p34 ?p35 ?p36 ?p37 ?p38 ?p39 ?p40 ?p41 ?p42 ?p43 ?p44 ?a45 ?l45 ?c45 ?k45 ?z_ValueError ?z_all ?z_any ?z_bool ?z_enumerate ?z_int ?z_isinstance ?z_len ?z_list ?z_range ?z_reversed ?z_str ?z_zip ?q_LONGEST_NAME ?q_MOST_ROWS ?q_MOST_TERMS ?q_MOST_LONGER_ROWS ?q_UNITS ?lt_UNITS ?q_FORMS ?lt_FORMS ?lt_FORMS_0 ?lt_FORMS_1 ?lt_FORMS_2 ?lt_FORMS_3 ?lt_FORMS_4 ?lt_FORMS_5 ?lt_FORMS_6 ?cc_Book ?cm_Book ?cn_Book ?ct_dBookTermNames ?cb_CourtError ?cx_NoRule ?cn_NoRule ?ck_NoRule ?cx_NoTerm ?cn_NoTerm ?ck_NoTerm ?cx_Ring ?cn_Ring ?ck_Ring ?cc_Rule ?cm_Rule ?cn_Rule ?ct_dRuleAllKinds ?cx_Twice ?cn_Twice ?ck_Twice ?cx_Unfit ?cn_Unfit ?ck_Unfit ?cr_NoRule ?ch_NoRule_Adrift ?ch_NoRule_Full ?ch_NoRule_NoAct ?ch_NoRule_NoDay ?ch_NoRule_NoName ?ch_NoRule_NoRow ?ch_NoRule_NoRule ?ch_NoRule_NoTable ?ch_NoRule_NoTerm ?ch_NoRule_Parted ?ch_NoRule_Ring ?ch_NoRule_Twice ?ch_NoRule_Unfit ?cr_NoTerm ?ch_NoTerm_Adrift ?ch_NoTerm_Full ?ch_NoTerm_NoAct ?ch_NoTerm_NoDay ?ch_NoTerm_NoName ?ch_NoTerm_NoRow ?ch_NoTerm_NoRule ?ch_NoTerm_NoTable ?ch_NoTerm_NoTerm ?ch_NoTerm_Parted ?ch_NoTerm_Ring ?ch_NoTerm_Twice ?ch_NoTerm_Unfit ?cr_Ring ?ch_Ring_Adrift ?ch_Ring_Full ?ch_Ring_NoAct ?ch_Ring_NoDay ?ch_Ring_NoName ?ch_Ring_NoRow ?ch_Ring_NoRule ?ch_Ring_NoTable ?ch_Ring_NoTerm ?ch_Ring_Parted ?ch_Ring_Ring ?ch_Ring_Twice ?ch_Ring_Unfit ?cr_Twice ?ch_Twice_Adrift ?ch_Twice_Full ?ch_Twice_NoAct ?ch_Twice_NoDay ?ch_Twice_NoName ?ch_Twice_NoRow ?ch_Twice_NoRule ?ch_Twice_NoTable ?ch_Twice_NoTerm ?ch_Twice_Parted ?ch_Twice_Ring ?ch_Twice_Twice ?ch_Twice_Unfit ?cr_Unfit ?ch_Unfit_Adrift ?ch_Unfit_Full ?ch_Unfit_NoAct ?ch_Unfit_NoDay ?ch_Unfit_NoName ?ch_Unfit_NoRow ?ch_Unfit_NoRule ?ch_Unfit_NoTable ?ch_Unfit_NoTerm ?ch_Unfit_Parted ?ch_Unfit_Ring ?ch_Unfit_Twice ?ch_Unfit_Unfit
  (case ca_Adrift | ca_Book | ca_CourtError | ca_Full | ca_NoAct | ca_NoDay | ca_NoName | ca_NoRow | ca_NoRule | ca_NoTable | ca_NoTerm | ca_Parted | ca_Ring | ca_Rule | ca_Twice | ca_Unfit=>k_is)
  (case p0 | p1 | p2=>refine' K45.pd_of ?pa ?pl ?pc ?pk; (case pa | pl | pc | pk=>k_is))
  (case p3=>refine' K45.pm_of ?pa ?pt ?pl ?pc ?pk; (case pa | pt | pl | pc | pk=>k_is))
  (case p4 | p5 | p6 | p7=>refine' K45.pd_of ?pa ?pl ?pc ?pk; (case pa | pl | pc | pk=>k_is))
  (case p8=>refine' K45.pm_of ?pa ?pt ?pl ?pc ?pk; (case pa | pt | pl | pc | pk=>k_is))
  (case p9 | p10 | p11=>refine' K45.pd_of ?pa ?pl ?pc ?pk; (case pa | pl | pc | pk=>k_is))
  (case a12 | t12 | l12 | c12 | k12=>k_is)
  (case pk12 | pe_RuleInit_8=>intros; kernel_rfl)
  (case p13 | p14=>refine' K45.pm_of ?pa ?pt ?pl ?pc ?pk; (case pa | pt | pl | pc | pk=>k_is))
  (case p15=>refine' K45.pd_of ?pa ?pl ?pc ?pk; (case pa | pl | pc | pk=>k_is))
  (case p16 | p17=>refine' K45.pm_of ?pa ?pt ?pl ?pc ?pk; (case pa | pt | pl | pc | pk=>k_is))
  (case p18 | p19 | p20 | p21 | p22 | p23=>refine' K45.pd_of ?pa ?pl ?pc ?pk; (case pa | pl | pc | pk=>k_is))
  (case p24=>refine' K45.pm_of ?pa ?pt ?pl ?pc ?pk; (case pa | pt | pl | pc | pk=>k_is))
  (case p25 | p26 | p27 | p28 | p29 | p30 | p31 | p32 | p33 | p34 | p35 | p36 | p37 | p38 | p39 | p40 | p41 | p42 | p43=>refine' K45.pd_of ?pa ?pl ?pc ?pk; (case pa | pl | pc | pk=>k_is))
  (case p44=>refine' K45.pm_of ?pa ?pt ?pl ?pc ?pk; (case pa | pt | pl | pc | pk=>k_is))
  (case a45 | l45 | c45 | k45 | z_ValueError | z_all | z_any | z_bool | z_enumerate | z_int | z_isinstance | z_len | z_list | z_range | z_reversed | z_str | z_zip | q_LONGEST_NAME | q_MOST_ROWS | q_MOST_TERMS | q_MOST_LONGER_ROWS | q_UNITS | lt_UNITS | q_FORMS | lt_FORMS | lt_FORMS_0 | lt_FORMS_1 | lt_FORMS_2 | lt_FORMS_3 | lt_FORMS_4 | lt_FORMS_5 | lt_FORMS_6=>k_is)
  (case cc_Book | cm_Book | cn_Book | ct_dBookTermNames | cb_CourtError | cx_NoRule | cn_NoRule | ck_NoRule | cx_NoTerm | cn_NoTerm | ck_NoTerm | cx_Ring | cn_Ring | ck_Ring | cc_Rule | cm_Rule | cn_Rule | ct_dRuleAllKinds | cx_Twice | cn_Twice | ck_Twice | cx_Unfit | cn_Unfit | ck_Unfit | cr_NoRule | ch_NoRule_Adrift | ch_NoRule_Full | ch_NoRule_NoAct | ch_NoRule_NoDay | ch_NoRule_NoName | ch_NoRule_NoRow | ch_NoRule_NoRule | ch_NoRule_NoTable | ch_NoRule_NoTerm | ch_NoRule_Parted | ch_NoRule_Ring | ch_NoRule_Twice | ch_NoRule_Unfit | cr_NoTerm | ch_NoTerm_Adrift | ch_NoTerm_Full | ch_NoTerm_NoAct | ch_NoTerm_NoDay | ch_NoTerm_NoName | ch_NoTerm_NoRow | ch_NoTerm_NoRule | ch_NoTerm_NoTable | ch_NoTerm_NoTerm | ch_NoTerm_Parted | ch_NoTerm_Ring | ch_NoTerm_Twice | ch_NoTerm_Unfit | cr_Ring | ch_Ring_Adrift | ch_Ring_Full | ch_Ring_NoAct | ch_Ring_NoDay | ch_Ring_NoName | ch_Ring_NoRow | ch_Ring_NoRule | ch_Ring_NoTable | ch_Ring_NoTerm | ch_Ring_Parted | ch_Ring_Ring | ch_Ring_Twice | ch_Ring_Unfit | cr_Twice | ch_Twice_Adrift | ch_Twice_Full | ch_Twice_NoAct | ch_Twice_NoDay | ch_Twice_NoName | ch_Twice_NoRow | ch_Twice_NoRule | ch_Twice_NoTable | ch_Twice_NoTerm | ch_Twice_Parted | ch_Twice_Ring | ch_Twice_Twice | ch_Twice_Unfit | cr_Unfit | ch_Unfit_Adrift | ch_Unfit_Full | ch_Unfit_NoAct | ch_Unfit_NoDay | ch_Unfit_NoName | ch_Unfit_NoRow | ch_Unfit_NoRule | ch_Unfit_NoTable | ch_Unfit_NoTerm | ch_Unfit_Parted | ch_Unfit_Ring | ch_Unfit_Twice | ch_Unfit_Unfit=>kernel_rfl)
