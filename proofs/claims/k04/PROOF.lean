import PyProof.Rows.All
import PyProof.EqAt
import PyProof.EqKinds
import PyProof.TupleCall
import PyProof.NeKinds
import PyProof.StrWalks
import PyProof.Rows.SetFrom
import PyProof.WalksMore
import KE.KIntText
import PyProof.ExcClass3
import PyProof.ExcInit
import PyProof.StationsW
import OpenK.KOwn
import PyProof.RulesAs
import PyProof.RulesDel
import PyProof.ExcAttrAll.ValueError
import KE.KIsAll
import PyProof.InstStoreFacts
import PyProof.ExcBaseAll.ValueError
import PyProof.Walks
import PyProof.StrOps2
import PyProof.StrLawsTight
import PyProof.StrLawsOcc
import PyProof.StrLawsIn
import Wide.Line
import KE.KDictOf
import KE.KFromBytes
import KE.KItem
import PySem.Challenge.RW_stationrow_k04_one_too_many
open PySem.W (Frag InstAt KitX LeftO Looks any_some callWith_K cellsFrom_some check_slot clsGoodW clsIn codeIn codeRec_of emptyDict findIn fnOf handedIn hasDictIn instObj isFn kHook keepIn kia_one kitAny kitOne kitx_dict kitx_list kitx_none kitx_tuple lookIn looks_clsIn looks_find looks_findIn looks_mroIn looseW methodObj mg_of mroIn nsIn nsOkIn osa_eq plainGet recOk specialIn tailIn takesIn wideGood xlAt)
noncomputable section
open PySem PySem.Spec PyProof.Rows
set_option Elab.async false
set_option linter.all false
set_option maxRecDepth 100000
namespace L2
def bH (s:Stmt):Arguments:=match s with
 |.FunctionDef _ a _ _ _ _ _ _ _ _=>a
 |_=>{ posonlyargs:=[],args:=[],vararg:=none,kwonlyargs:=[],kw_defaults:=[],kwarg:=none,defaults:=[]}
def bj (s:Stmt):List Stmt:=match s with
 |.FunctionDef _ _ b _ _ _ _ _ _ _=>b
 |_=>[]
def au (s:Stmt):Scope:=match s with
 |.FunctionDef _ _ _ _ _ _ sc _ _ _=>sc
 |_=>{ kind:=.function,names:=[],isGenerator:=false,isCoroutine:=false}
def bmV:List Value:=[.type "ValueError",.type "Exception",.type "BaseException",.type "object"]
end L2
namespace M
open L2
def top (i:Nat):Stmt:=PySem.Challenge.pw_stationrow_k04_one_too_many.main.body.getD i (.Pass ⟨0,0,0,0⟩)
def FT:Stmt->List Stmt
 |.ClassDef _ _ _ body _ _ _ _ _ _ _=>body
 |_=>[]
def topm (i j:Nat):Stmt:=(FT (top i)).getD j (.Pass ⟨0,0,0,0⟩)
def qv:Program:={ PySem.Challenge.pw_stationrow_k04_one_too_many with main:={ PySem.Challenge.pw_stationrow_k04_one_too_many.main with body:=([1,2,3,4,5,6,7,8,9,11,12,13,14,15,16,17,18,19,21,22,23,24,25,26,27,28,29,30,31,32,33,34,36,37,38,39,40,41,42,43,44,45,46,47]:List Nat).map top}}
def en (P:Params) (n:Str) (t:Nat) (v:Value):DictEntry:=⟨PyData.keyHash P n,.str n t,v⟩
def cO (n:Str) (c:Nat) (b:Bool) (a j l k:Nat):Obj:=⟨.type "code",none,.fields #[.str n a,.str n (a+1),.str "/claim/cut.py" (a+2),.int l 0,.int k 0,.int 0 0,.int 0 0,.int 3 0,.ref (c - (bif b then 5 else 3)),.bool true,.int 181 0,.ref (c - (bif b then 4 else 2)),.none,bif b then .ref (c - 3) else .none,bif b then .ref (c - 2) else .none,.ref (c - 1),.int j 0,.int l 0,.str "/claim/cut.py" (j+1)],#[]⟩
def fO (i:Nat) (n m:Str) (t c:Nat):Obj:=⟨.type "function",none,.func (fnOf n n (bH (top i)) (bj (top i)) (au (top i)) .none .none .none (.str m t) none (.ref c) .none),#[]⟩
abbrev mlw:Str := "law_stationrow_k04_one_too_many"
def fx (i:Nat) (n m:Str) (t c:Nat) (b:Bool) (a j l k:Nat):(Params->DictEntry) × Frag:=(fun P=>en P n (j+2) (.ref (c+1)),[(c,cO n c b a j l k),(c+1,fO i n m t c)])
def TB:List ((Params->DictEntry) × Frag):=[fx 19 "is_name" "stationrow.works" 402 176 false 420 423 45 1,
 (fun P=>en P "FIGURES" 429 (.str "0123456789" 428),[]),
 (fun P=>en P "PAIR_WORDS" 432 (.ref 178),[(178,⟨.type "tuple",none,.seq #[.str "with" 430,.str "apart" 431] 0,#[]⟩)]),
 fx 23 "are_names" "stationrow.texts" 426 182 false 433 436 50 1,
 fx 24 "is_length" "stationrow.texts" 426 187 false 439 442 52 1,
 fx 25 "is_task_written" "stationrow.texts" 426 194 true 445 449 56 1,
 fx 26 "is_row_written" "stationrow.texts" 426 201 true 452 457 60 1,
 fx 27 "names_of" "stationrow.texts" 426 206 false 460 463 69 1,
 fx 28 "read_task" "stationrow.texts" 426 213 true 466 473 71 3,
 fx 29 "check_new" "stationrow.texts" 426 220 true 476 483 78 4,
 fx 30 "check_ends" "stationrow.texts" 426 227 true 486 494 83 4,
 fx 31 "read_order" "stationrow.texts" 426 234 true 497 505 87 4,
 fx 32 "read_pair" "stationrow.texts" 426 241 true 508 516 92 4,
 fx 33 "read_rows" "stationrow.texts" 426 248 true 519 530 97 1,
 fx 34 "read_works" "stationrow.texts" 426 255 true 533 537 117 1,
 fx 36 "_law_deck" mlw 540 262 true 542 548 122 1,
 fx 37 "_law_next" mlw 540 269 true 551 558 127 1,
 fx 38 "_law_great" mlw 540 276 true 561 567 142 1,
 fx 39 "_law_word" mlw 540 283 true 570 581 147 2,
 fx 40 "_law_words" mlw 540 290 true 584 591 161 2,
 fx 41 "_law_same" mlw 540 295 false 594 597 166 2,
 fx 42 "_law_alone" mlw 540 302 true 600 604 174 1,
 fx 43 "_law_told" mlw 540 309 true 607 614 176 1,
 fx 44 "_law_right" mlw 540 316 true 617 623 191 2,
 fx 45 "_law_full" mlw 540 321 false 626 629 194 1,
 fx 46 "_law_texts" mlw 540 326 false 632 635 207 1,
 fx 47 "law" mlw 540 333 true 638 653 212 1]
def nsO (P:Params) (es:List (Str × Nat × Value)) (k:Nat):Obj:=⟨.type "dict",none,.dict (es.map fun e=>en P e.1 e.2.1 e.2.2).toArray k,#[]⟩
def xcO (C N:Nat) (n:Str) (bs mro subs:List Value) (a t u:Nat):Obj:=⟨.type "type",none,.cls { name:=n,bases:=bs,mro:=.ref C::mro,ns:=N,qualname:=n,subclasses:=subs},#[some (.ref a),none,some (.str n t),some (.str n u),some (.builtin "ValueError.__new__"),some (.bool true)]⟩
def cQ (n q:Str) (c:Nat) (b:Bool) (a j l k:Nat):Obj:=⟨.type "code",none,.fields #[.str n a,.str q (a+1),.str "/claim/cut.py" (a+2),.int l 0,.int k 0,.int 0 0,.int 0 0,.int 3 0,.ref (c - (bif b then 5 else 3)),.bool true,.int 181 0,.ref (c - (bif b then 4 else 2)),.none,bif b then .ref (c - 3) else .none,bif b then .ref (c - 2) else .none,.ref (c - 1),.int j 0,.int l 0,.str "/claim/cut.py" (j+1)],#[]⟩
def fQ (st:Stmt) (n q m:Str) (t c:Nat):Obj:=⟨.type "function",none,.func (fnOf n q (bH st) (bj st) (au st) .none .none .none (.str m t) none (.ref c) .none),#[]⟩
def KC (P:Params):Frag:=[(23,nsO P [("__module__",196,.str "stationrow.errors" 187),("__firstlineno__",200,.int 2 199),("__static_attributes__",201,.ref 22),("__weakref__",203,.ref 25),("__doc__",204,.none)] 3),
 (24,xcO 24 23 "RowError" [.type "ValueError"] bmV [.ref 44,.ref 63,.ref 82,.ref 101,.ref 120,.ref 139,.ref 158,.ref 170] 15 189 197),
 (40,cQ "__init__" "NoRow.__init__" 40 true 219 224 6 2),
 (41,fQ (topm 2 0) "__init__" "NoRow.__init__" "stationrow.errors" 187 40),
 (43,nsO P [("__module__",214,.str "stationrow.errors" 187),("__firstlineno__",218,.int 4 217),("__init__",226,.ref 41),("__static_attributes__",228,.ref 42),("__doc__",229,.none)] 2),
 (44,xcO 44 43 "NoRow" [.ref 24] (.ref 24::bmV) [] 28 207 215),
 (59,cQ "__init__" "Twice.__init__" 59 true 244 249 10 2),
 (60,fQ (topm 3 0) "__init__" "Twice.__init__" "stationrow.errors" 187 59),
 (62,nsO P [("__module__",239,.str "stationrow.errors" 187),("__firstlineno__",243,.int 8 242),("__init__",251,.ref 60),("__static_attributes__",253,.ref 61),("__doc__",254,.none)] 2),
 (63,xcO 63 62 "Twice" [.ref 24] (.ref 24::bmV) [] 47 232 240),
 (78,cQ "__init__" "NoTask.__init__" 78 true 269 274 14 2),
 (79,fQ (topm 4 0) "__init__" "NoTask.__init__" "stationrow.errors" 187 78),
 (81,nsO P [("__module__",264,.str "stationrow.errors" 187),("__firstlineno__",268,.int 12 267),("__init__",276,.ref 79),("__static_attributes__",278,.ref 80),("__doc__",279,.none)] 2),
 (82,xcO 82 81 "NoTask" [.ref 24] (.ref 24::bmV) [] 66 257 265),
 (100,nsO P [("__module__",289,.str "stationrow.errors" 187),("__firstlineno__",293,.int 16 292),("__init__",301,.ref 98),("__static_attributes__",303,.ref 99),("__doc__",304,.none)] 2),
 (101,xcO 101 100 "Ring" [.ref 24] (.ref 24::bmV) [] 85 282 290),
 (119,nsO P [("__module__",314,.str "stationrow.errors" 187),("__firstlineno__",318,.int 20 317),("__init__",327,.ref 117),("__static_attributes__",330,.ref 118),("__doc__",331,.none)] 2),
 (120,xcO 120 119 "Torn" [.ref 24] (.ref 24::bmV) [] 104 307 315),
 (138,nsO P [("__module__",341,.str "stationrow.errors" 187),("__firstlineno__",345,.int 25 344),("__init__",353,.ref 136),("__static_attributes__",355,.ref 137),("__doc__",356,.none)] 2),
 (139,xcO 139 138 "NoStand" [.ref 24] (.ref 24::bmV) [] 123 334 342),
 (157,nsO P [("__module__",366,.str "stationrow.errors" 187),("__firstlineno__",370,.int 29 369),("__init__",379,.ref 155),("__static_attributes__",382,.ref 156),("__doc__",383,.none)] 2),
 (158,xcO 158 157 "TooLong" [.ref 24] (.ref 24::bmV) [] 142 359 367),
 (169,nsO P [("__module__",393,.str "stationrow.errors" 187),("__firstlineno__",397,.int 34 396),("__static_attributes__",398,.ref 168),("__doc__",399,.none)] 2),
 (170,xcO 170 169 "NoRoom" [.ref 24] (.ref 24::bmV) [] 161 386 394)]
def KK (P:Params):Frag:=(3,⟨.type "dict",none,.dict ([en P "__name__" 165 (.str mlw 540),
 en P "__doc__" 166 .none,
 en P "__package__" 167 .none,
 en P "__loader__" 168 (.builtin "__main__.__loader__#opaque"),
 en P "__spec__" 169 .none,
 en P "__annotations__" 170 (.ref 6),
 en P "__builtins__" 171 (.ref 4),
 en P "__file__" 173 (.str "/claim/cut.py" 172),
 en P "__cached__" 174 .none,
 en P "RowError" 206 (.ref 24),
 en P "NoRow" 231 (.ref 44),
 en P "Twice" 256 (.ref 63),
 en P "NoTask" 281 (.ref 82),
 en P "Ring" 306 (.ref 101),
 en P "Torn" 333 (.ref 120),
 en P "NoStand" 358 (.ref 139),
 en P "TooLong" 385 (.ref 158),
 en P "NoRoom" 401 (.ref 170),
 en P "MOST_LETTERS" 405 (.int 8 404),
 en P "MOST_FIGURES" 407 (.int 60 406),
 en P "MOST_TASKS" 409 (.int 8 408),
 en P "MOST_KINDS" 411 (.int 4 410),
 en P "MOST_ORDERS" 413 (.int 28 412),
 en P "MOST_PAIRS" 415 (.int 12 414),
 en P "MOST_STANDS" 417 (.int 8 416),
 en P "LETTERS" 419 (.str "abcdefghijklmnopqrstuvwxyz" 418)]++TB.map fun r=>r.1 P).toArray 53,#[]⟩)::(TB.map fun r=>r.2).flatten++KC P
def HK:PySem.W.Hook:=kHook KK [3,176,177,178,182,183,187,188,194,195,201,202,206,207,213,214,220,221,227,228,234,235,241,242,248,249,255,256,262,263,269,270,276,277,283,284,290,291,295,296,302,303,309,310,316,317,321,322,326,327,333,334,23,24,40,41,43,44,59,60,62,63,78,79,81,82,100,101,119,120,138,139,157,158,169,170] (fun _=>by kernel_rfl)
def lO (w:World):=PySem.W.openEnds treeTable (PySem.W.OpenLaw.row PySem.Challenge.rw_stationrow_k04_one_too_many).prog w 6146
abbrev lX (s:Shared):Bool:=xlAt qv [] s&&recOk (PySem.W.RowW.records (PySem.W.OpenLaw.row PySem.Challenge.rw_stationrow_k04_one_too_many).toRowW) s
def lS (s:Shared):=PySem.W.openSeen qv [] (importedModules (PySem.W.OpenLaw.row PySem.Challenge.rw_stationrow_k04_one_too_many).prog.main.body) (fun s=>lX s) true s
theorem map3 {α β γ δ:Type}{o:Option α}{f:α->β × γ}{g:α->δ}{a:β × γ}{d:δ}(h1:o.map (fun s=>(f s).1)=some a.1) (h2:o.map (fun s=>(f s).2)=some a.2) (h3:o.map g=some d):o.map (fun s=>(f s,g s))=some (a,d):=by
 cases o with
 |none=>cases h1
 |some s=>exact congrArg some (Prod.ext (Prod.ext (Option.some.inj h1) (Option.some.inj h2)) (Option.some.inj h3))
theorem left1 (w:World):(lO w).map (fun s=>(lS s).1)=some (expectedOf qv):=by kernel_rfl
theorem map2 {α β γ:Type}{o:Option α}{f:α->β × γ}{a:β}{b:γ}(h1:o.map (fun s=>(f s).1)=some a) (h2:o.map (fun s=>(f s).2)=some b):o.map f=some (a,b):=by
 cases o with
 |none=>cases h1
 |some s=>exact congrArg some (Prod.ext (Option.some.inj h1) (Option.some.inj h2))
theorem left4 (w:World):(lO w).map (fun s=>(lS s).2.1)=some bltViewBooted:=by kernel_rfl
theorem left5 (w:World):(lO w).map (fun s=>(lS s).2.2.1)=some true:=by kernel_rfl
theorem left6 (w:World):(lO w).map (fun s=>(lS s).2.2.2.1)=some true:=by kernel_rfl
theorem left7 (w:World):(lO w).map (fun s=>(lS s).2.2.2.2)=some (pinGoodD (drecsOf qv),plainGoodE qv (looseW qv []),plainGoodD qv [],wideGood qv,clsGoodW qv []):=by kernel_rfl
theorem left2 (w:World):(lO w).map (fun s=>(lS s).2)=some (bltViewBooted,true,true,pinGoodD (drecsOf qv),plainGoodE qv (looseW qv []),plainGoodD qv [],wideGood qv,clsGoodW qv []):=map2 (f:=fun s=>(lS s).2) (left4 w) (map2 (f:=fun s=>(lS s).2.2) (left5 w) (map2 (f:=fun s=>(lS s).2.2.2) (left6 w) (left7 w)))
theorem left3 (w:World):(lO w).map (PySem.W.Hook.obs HK)=some (PySem.W.Hook.val HK w):=by kernel_rfl
theorem left:LeftO (PySem.W.OpenLaw.row PySem.Challenge.rw_stationrow_k04_one_too_many).prog qv [] (fun s=>lX s) (PySem.W.Hook.obs HK) (PySem.W.Hook.val HK) 6146:=fun w=>map3 (o:=lO w) (f:=lS) (g:=PySem.W.Hook.obs HK) (left1 w) (left2 w) (left3 w)
end M
namespace L2
abbrev Key:=Sum Int Str
def my:Key->Value->Bool
 |.inl k,v=>Value.isInt k v
 |.inr x,v=>Value.isStrOf x v
def PJ (w:World):Key->Int
 |.inl k=>hashInt k
 |.inr x=>hashStr w x
theorem bB:∀{k:Key}{v:Value},my k v=true->(∃i t,k=Sum.inl i/\v=Value.int i t)\/(∃x t,k=Sum.inr x/\v=Value.str x t)
 |.inl i,v,h=>by
  obtain⟨t,e⟩:=Value.isInt_shape (k:=i) (v:=v) h
  exact .inl ⟨i,t,rfl,e⟩
 |.inr x,v,h=>by
  obtain⟨t,e⟩:=Value.isStrOf_shape (x:=x) (v:=v) h
  exact .inr ⟨x,t,rfl,e⟩
theorem wj (i:Int) (t:Tok):my (.inl i) (.int i t)=true:=by simp [my,Value.isInt]
theorem wu (x:Str) (t:Tok):my (.inr x) (.str x t)=true:=by simp [my,Value.isStrOf]
theorem Ht (a b:Int):decide ((Sum.inl a:Key)=Sum.inl b)=(a==b):=by
 by_cases e:a=b
 ·subst e;simp
 have h:¬(Sum.inl a:Key)=Sum.inl b:=fun q=>e (Sum.inl.inj q);rw[decide_eq_false h];exact (beq_eq_false_iff_ne.mpr e).symm
theorem Hu (a b:Str):decide ((Sum.inr a:Key)=Sum.inr b)=decide (a=b):=by
 by_cases e:a=b
 ·subst e;simp
 have h:¬(Sum.inr a:Key)=Sum.inr b:=fun q=>e (Sum.inr.inj q);rw[decide_eq_false h,decide_eq_false e]
theorem Hv (a:Int) (b:Str):decide ((Sum.inl a:Key)=Sum.inr b)=false:=decide_eq_false (fun q=>nomatch q)
theorem Hw (a:Str) (b:Int):decide ((Sum.inr a:Key)=Sum.inl b)=false:=decide_eq_false (fun q=>nomatch q)
def bM (prog:Program) (w:World):PySem.KeyKind prog w Key where
 is:=my
 hash:=PJ w
 inj:=fun v a b ha hb=>by
  rcases bB ha with ⟨i,t,rfl,rfl⟩ | ⟨x,t,rfl,rfl⟩
  ·
   rcases bB hb with ⟨j,u,rfl,e⟩ | ⟨y,u,rfl,e⟩
   ·
    injection e with e1 _;rw[e1]
   ·
    exact nomatch e
  ·
   rcases bB hb with ⟨j,u,rfl,e⟩ | ⟨y,u,rfl,e⟩
   ·
    exact nomatch e
   ·
    injection e with e1 _;rw[e1]
 byValue:=fun k v h=>by
  rcases bB h with ⟨i,t,rfl,rfl⟩ | ⟨x,t,rfl,rfl⟩ <;> rfl
 pyHash:=fun hv h=>by
  rcases bB hv with ⟨i,t,rfl,rfl⟩ | ⟨x,t,rfl,rfl⟩
  ·
   exact wpAny_pyHash_int h
  ·
   exact wpAny_pyHash_str h
 eqBool:=fun hu hv h=>by
  rcases bB hu with ⟨i,t,rfl,rfl⟩ | ⟨x,t,rfl,rfl⟩
  ·
   rcases bB hv with ⟨j,u,rfl,rfl⟩ | ⟨y,u,rfl,rfl⟩
   ·
    rw[Ht] at h;exact wpAny_eqBool_int h
   ·
    rw[Hv] at h;exact SeqAt.EqAt.int_str i t y u _ _ _ _ h
  ·
   rcases bB hv with ⟨j,u,rfl,rfl⟩ | ⟨y,u,rfl,rfl⟩
   ·
    rw[Hw] at h;exact SeqAt.EqAt.str_int x t j u _ _ _ _ h
   ·
    rw[Hu] at h;exact wpAny_eqBool_str h
 «strs»:=fun k x t v h=>by
  rcases bB h with ⟨i,u,rfl,e⟩ | ⟨y,u,rfl,e⟩
  ·
   exact nomatch e
  ·
   injection e with e1 _
   subst e1
   cases v <;> rfl
theorem ql (prog:Program) (w:World) (i:Int) (t:Tok):(bM prog w).is (.inl i) (.int i t)=true:=wj i t
theorem qm (prog:Program) (w:World) (x:Str) (t:Tok):(bM prog w).is (.inr x) (.str x t)=true:=wu x t
inductive V where
 |non | bl (b:Bool) | int (i:Int) | str (x:Str) | byt (b:Array UInt8) | flt (b:UInt64) | ref (a:Addr) | ty (n:String)
 deriving DecidableEq
def RelV:V->Value->Prop
 |.non,u=>u=Value.none
 |.bl b,u=>u=Value.bool b
 |.int i,u=>∃t,u=Value.int i t
 |.str x,u=>∃t,u=Value.str x t
 |.byt b,u=>∃t,u=Value.bytes b t
 |.flt b,u=>∃t,u=Value.float b t
 |.ref a,u=>u=Value.ref a
 |.ty n,u=>u=Value.type n
abbrev Vals:List V->List Value->Prop:=Paired RelV
theorem Vals.length {xs:List V}{us:List Value}(r:Vals xs us):xs.length=us.length:=Paired.length r
theorem Vals.get:∀{xs:List V}{us:List Value}{i:Nat}{x:V},Vals xs us->xs[i]?=some x->∃u,us[i]?=some u/\RelV x u
 |_,_,_,_,.nil,e=>by simp at e
 |_,_,0,_,.cons r _,e=>by simp at e;subst e;exact⟨_,rfl,r⟩
 |_,_,i+1,x,.cons _ t,e=>by
  obtain⟨u,h1,h2⟩:=Vals.get (i:=i) (x:=x) t (by simpa using e)
  exact⟨u,by simpa using h1,h2⟩
theorem Vals.set {x:V}{u:Value}(r:RelV x u):∀{xs:List V}{us:List Value}(i:Nat),Vals xs us->Vals (xs.set i x) (us.set i u)
 |_,_,_,.nil=>.nil
 |_,_,0,.cons _ t=>.cons r t
 |_,_,i+1,.cons q t=>.cons q (Vals.set r i t)
theorem Vals.append:∀{xs ys:List V}{us ws:List Value},Vals xs us->Vals ys ws->Vals (xs++ys) (us++ws)
 |_,_,_,_,.nil,s=>s
 |_,_,_,_,.cons r t,s=>.cons r (Vals.append t s)
theorem Vals.take:∀{xs:List V}{us:List Value}(n:Nat),Vals xs us->Vals (xs.take n) (us.take n)
 |_,_,0,_=>.nil
 |_,_,_+1,.nil=>.nil
 |_,_,n+1,.cons r t=>.cons r (Vals.take n t)
theorem Vals.drop:∀{xs:List V}{us:List Value}(n:Nat),Vals xs us->Vals (xs.drop n) (us.drop n)
 |_,_,0,r=>r
 |_,_,_+1,.nil=>.nil
 |_,_,n+1,.cons _ t=>Vals.drop n t
def RelO:Option V->Option Value->Prop
 |some v,some u=>RelV v u
 |none,none=>True
 |_,_=>False
def KV {κ:Type}:List (κ × V)->List (κ × Value)->Prop:=Paired fun (p:κ × V) (q:κ × Value)=>p.1=q.1/\RelV p.2 q.2
def kV:Key->V
 |.inl i=>.int i
 |.inr x=>.str x
inductive HO where
 |lst (xs:List V)
 |tup (xs:List V)
 |dK (kvs:List (Key × V)) | dT (kvs:List (List Key × V))
 |set (S:Int->Bool) (n:Nat)
 |ins (C dx:Addr) (fs:List (Str × V))
 |own (x:Addr)
 |xd (fs:List (Str × V))
 |met (f x:Addr)
 |rng (lo hi:Int)
 |frz (o:Obj) (u:HO)
 |tbl (ps:Array Value)
 |ext (φ:Heap->Prop)
abbrev Hp:=Addr->Option HO
def upd (H:Hp) (a:Addr) (o:HO):Hp:=fun b=>if b=a then some o else H b
theorem bw {H:Hp}{a:Addr}{o:HO}:upd H a o a=some o:=by unfold upd;rw[if_pos rfl]
theorem aH {H:Hp}{a b:Addr}{o:HO}(h:b≠a):upd H a o b=H b:=by unfold upd;rw[if_neg h]
theorem Li {H:Hp}{a b:Addr}{o u:HO}(h:H a=some o) (h':H b=some u) (d:o≠u):a≠b:=by
 intro e;subst e;rw[h] at h';exact d (Option.some.inj h')
theorem bD {H:Hp}{a b:Addr}{o:HO}(h:H a=some o) (h':H b=none):a≠b:=by
 intro e;subst e;rw[h] at h';cases h'
def Tup0 (h:Heap) (a:Addr) (items:Array Value):Prop:=∃o,h.get? a=some o/\o.cls=.type "tuple"/\∃n,o.data=.seq items n/\o.dict=none
theorem Tup0.is {h:Heap}{a:Addr}{items:Array Value}(x:Tup0 h a items):IsTup h a items:=by
 obtain⟨o,ho,hc,n,hd,_⟩:=x;exact⟨o,ho,hc,n,hd⟩
theorem Tup0.new (h:Heap) (items:Array Value):Tup0 (h.push { cls:=.type "tuple",data:=.seq items}) h.objs.size items:=⟨_,Heap.get?_push_size _ rfl,rfl,_,rfl,rfl⟩
section
variable (P:Program) (w:World)
def ObjOk (H:Hp) (h:Heap) (a:Addr):HO->Prop
 |.lst xs=>xs.length<=sizeLine/\∃(its:List Value) (n:Nat),Vals xs its/\h.get? a=some { cls:=.type "list",data:=.seq its.toArray n}
 |.tup xs=>xs.length<=sizeLine/\∃its:List Value,Vals xs its/\Tup0 h a its.toArray
 |.dK kvs=>kvs.length<=sizeLine/\(a==sysModules)=false/\∃vs,KV kvs vs/\h.DictOf (bM P w) a vs
 |.dT kvs=>kvs.length<=sizeLine/\(a==sysModules)=false/\∃xs:List (List Key × Addr × Value),
   Paired (fun (p:List Key × V) (q:List Key × Addr × Value)=>p.1=q.1/\H q.2.1=some (.tup (p.1.map kV))/\RelV p.2 q.2.2) kvs xs /\
   ∃o es ep,h.get? a=some o/\o.ExactDict/\o.data=.dict es ep/\es.toList=xs.map (entryOfKey (tupleKind (bM P w)))/\(xs.map (·.1)).Nodup
 |.set S n=>h.SetOf (intKind P w) a S n
 |.ins C dx fs=>H dx=some (.own a)/\fs.length<=1000/\dx≠a/\h.get? a=some (instObj C dx) /\
   ∃mA,h.Ns1 dx mA/\(∀f,RelO (fs.lookup f) (mA f))/\PySem.Within mA (fs.map (·.1))
 |.own _=>∃o,h.get? a=some o
 |.xd fs=>∃mA,h.Ns1 a mA/\∀f,RelO (fs.lookup f) (mA f)
 |.rng lo hi=>∃t u v,h.get? a=some { cls:=.type "range",data:=.fields #[.int lo t,.int hi u,.int 1 v]}
 |.frz o u=>h.get? a=some o/\ObjOk H h a u
 |.tbl ps=>h.get? a=some { cls:=.none,data:=.fields ps}
 |.met f x=>h.get? a=some (methodObj (.ref f) (.ref x))
 |.ext φ=>φ h/\(∃o,h.get? a=some o)/\∀h1 h2:Heap,φ h1->(∀o,h1.get? a=some o->h2.get? a=some o)->φ h2
def HOk (H:Hp) (h:Heap):Prop:=∀a o,H a=some o->ObjOk P w H h a o
end
section
variable {P:Program}{w:World}{H H':Hp}{h h':Heap}{a:Addr}{o:HO}
theorem ObjOk.lt (x:ObjOk P w H h a o):a<h.objs.size:=by
 cases o with
 |lst xs=>obtain⟨_,_,_,_,e⟩:=x;exact Heap.lt_size e
 |tup xs=>obtain⟨_,_,_,p⟩:=x;exact p.is.lt
 |dK kvs=>obtain⟨_,_,_,_,o,_,_,e,_⟩:=x;exact Heap.lt_size e
 |dT kvs=>obtain⟨_,_,_,_,o,_,_,e,_⟩:=x;exact Heap.lt_size e
 |set S n=>obtain⟨o,_,_,_,e,_⟩:=x;exact Heap.lt_size e
 |ins C dx fs=>obtain⟨_,_,_,e,_⟩:=x;exact Heap.lt_size e
 |own y=>obtain⟨_,e⟩:=x;exact Heap.lt_size e
 |xd fs=>obtain⟨_,⟨_,_,_,e,_⟩,_⟩:=x;exact Heap.lt_size e
 |rng lo hi=>obtain⟨_,_,_,e⟩:=x;exact Heap.lt_size e
 |frz ob u=>obtain⟨e,_⟩:=x;exact Heap.lt_size e
 |tbl ps=>exact Heap.lt_size (show h.get? a=some _ from x)
 |met f y=>exact Heap.lt_size (show h.get? a=some _ from x)
 |ext φ=>obtain⟨_,⟨_,e⟩,_⟩:=x;exact Heap.lt_size e
theorem Paired.mapP {α β:Type}{F G:α->β->Prop}:∀{l₁:List α}{l₂:List β},Paired F l₁ l₂->(∀a b,F a b->G a b)->Paired G l₁ l₂
 |_,_,.nil,_=>.nil
 |_,_,.cons r t,f=>.cons (f _ _ r) (Paired.mapP t f)
theorem ObjOk.stay (x:ObjOk P w H h a o) (k:∀b u,(b=a\/H b=some (.own a))->h.get? b=some u->h'.get? b=some u)
  (ho:∀b,H b=some (.own a)->H' b=some (.own a)) (ht:∀b xs,H b=some (.tup xs)->H' b=some (.tup xs)):ObjOk P w H' h' a o:=by
 induction o with
 |lst xs=>obtain⟨z,its,n,r,e⟩:=x;exact⟨z,its,n,r,k _ _ (.inl rfl) e⟩
 |tup xs=>obtain⟨z,its,r,ob,e,c⟩:=x;exact⟨z,its,r,ob,k _ _ (.inl rfl) e,c⟩
 |dK kvs=>obtain⟨z,y,vs,r,ob,es,ep,e,c⟩:=x;exact⟨z,y,vs,r,ob,es,ep,k _ _ (.inl rfl) e,c⟩
 |dT kvs=>obtain⟨z,y,xs,r,ob,es,ep,e,c⟩:=x;exact⟨z,y,xs,Paired.mapP r fun p q z=>⟨z.1,ht _ _ z.2.1,z.2.2⟩,ob,es,ep,k _ _ (.inl rfl) e,c⟩
 |set S n=>obtain⟨ob,es,ep,t,e,c⟩:=x;exact⟨ob,es,ep,t,k _ _ (.inl rfl) e,c⟩
 |ins C dx fs=>obtain⟨d,z,ne,e,mA,⟨od,es,ep,e2,c⟩,r⟩:=x;exact⟨ho _ d,z,ne,k _ _ (.inl rfl) e,mA,⟨od,es,ep,k _ _ (.inr d) e2,c⟩,r⟩
 |own y=>obtain⟨ob,e⟩:=x;exact⟨ob,k _ _ (.inl rfl) e⟩
 |xd fs=>obtain⟨mA,⟨od,es,ep,e,c⟩,r⟩:=x;exact⟨mA,⟨od,es,ep,k _ _ (.inl rfl) e,c⟩,r⟩
 |rng lo hi=>obtain⟨t,u,v,e⟩:=x;exact⟨t,u,v,k _ _ (.inl rfl) e⟩
 |frz ob u ih=>obtain⟨e,q⟩:=x;exact⟨k _ _ (.inl rfl) e,ih q⟩
 |tbl ps =>
  have e:h.get? a=some { cls:=.none,data:=.fields ps}:=x
  show h'.get? a=some { cls:=.none,data:=.fields ps}
  exact k a _ (.inl rfl) e
 |met f y =>
  have e:h.get? a=some (methodObj (.ref f) (.ref y)):=x
  show h'.get? a=some (methodObj (.ref f) (.ref y))
  exact k a _ (.inl rfl) e
 |ext φ=>obtain⟨p,⟨o,e⟩,st⟩:=x;exact⟨st _ _ p fun o q=>k _ _ (.inl rfl) q,⟨o,k _ _ (.inl rfl) e⟩,st⟩
theorem HOk.lt (x:HOk P w H h) (e:H a=some o):a<h.objs.size:=(x a o e).lt
theorem HOk.fresh (x:HOk P w H h) (e:h.objs.size<=a):H a=none:=by
 cases q:H a with
 |none=>rfl
 |some u=>exact absurd (Nat.lt_of_lt_of_le (x.lt q) e) (Nat.lt_irrefl _)
theorem HOk.kept (x:HOk P w H h) (k:∀b u,h.get? b=some u->h'.get? b=some u):HOk P w H h':=fun a o e =>
 (x a o e).stay (fun b u _ q=>k b u q) (fun _ q=>q) fun _ _ q=>q
theorem HOk.laid (x:HOk P w H h) (k:∀b u,h.get? b=some u->h'.get? b=some u) (hp:h.objs.size<=a) (new:ObjOk P w (upd H a o) h' a o):HOk P w (upd H a o) h':=fun b u e=>by
 have hn:=x.fresh hp;by_cases hb:b=a
 ·subst hb;rw[bw] at e;cases e;exact new
 rw[aH hb] at e;exact (x b u e).stay (fun c v _ q=>k c v q) (fun c q=>by rw[aH (bD q hn)];exact q) fun c xs q=>by rw[aH (bD q hn)];exact q
end
def Rd (H:Hp) (a:Addr) (u:HO):Prop:=H a=some u\/∃o,H a=some (.frz o u)
theorem Rd.of {H:Hp}{a:Addr}{u:HO}(h:H a=some u):Rd H a u:=.inl h
theorem Rd.ok {P:Program}{w:World}{H:Hp}{h:Heap}{a:Addr}{u:HO}(r:Rd H a u) (x:HOk P w H h):ObjOk P w H h a u:=by
 rcases r with r | ⟨o,r⟩
 ·exact x a u r
 obtain⟨_,q⟩:=x a _ r;exact q
def Mut:Option HO->Prop
 |some (.lst _)=>True
 |some (.dK _)=>True
 |some (.dT _)=>True
 |some (.set _ _)=>True
 |some (.ins _ _ _)=>True
 |some (.ext _)=>True
 |_=>False
section
variable {P:Program}{w:World}{H:Hp}{h h':Heap}{x e:Addr}{o':HO}
theorem HOk.write (ok:HOk P w H h) (mu:Mut (H x)) (he:e=x\/H e=some (.own x)) (k:∀b u,b≠e->h.get? b=some u->h'.get? b=some u) (heo:∃u,h'.get? e=some u)
  (new:ObjOk P w (upd H x o') h' x o'):HOk P w (upd H x o') h':=fun b u q=>by
 have nown:∀c y,H c=some (.own y)->c≠x:=fun c y r z=>by subst z;rw[r] at mu;exact mu
 have ntup:∀c xs,H c=some (.tup xs)->c≠x:=fun c xs r z=>by subst z;rw[r] at mu;exact mu
 by_cases hb:b=x
 ·subst hb;rw[bw] at q;cases q;exact new
 rw[aH hb] at q;by_cases hbe:b=e
 ·have q':H b=some (.own x):=by
   rcases he with z | z
   ·exact absurd (hbe.trans z) hb
   rw[hbe];exact z
  rw[q] at q';cases q';obtain⟨v,hv⟩:=heo;exact⟨v,by rw[hbe];exact hv⟩
 refine (ok b u q).stay (fun c v hc r=>k c v ?_ r) (fun c r=>by rw[aH (nown c b r)];exact r) fun c xs r=>by rw[aH (ntup c xs r)];exact r
 rcases hc with rfl | hc
 ·exact hbe
 rintro rfl;rcases he with z | z
 ·exact nown c b hc z
 rw[hc] at z;cases z;exact hb rfl
end
structure Un (fs ex:List Addr) (H H':Hp) (h h':Heap):Prop where
 keep:∀b o,h.get? b=some o->H b=none->b∉fs->b∉ex->h'.get? b=some o
 slot:∀b o,h.get? b=some o->H b=none->b∈fs->b∉ex->∃sl,h'.get? b=some { o with slots:=sl}
 free:∀b o,h.get? b=some o->H b=none->b∉ex->H' b=none
 there:∀b o,h.get? b=some o->b∉ex->∃o',h'.get? b=some o'
 tups:∀b xs,H b=some (.tup xs)->H' b=some (.tup xs)
 frzs:∀b o u,H b=some (.frz o u)->H' b=some (.frz o u)
 tbls:∀b ps,H b=some (.tbl ps)->∃more,H' b=some (.tbl (ps++more))
section
variable {fs fs' ex ex':List Addr}{H H1 H2:Hp}{h h1 h2 h':Heap}{a x e:Addr}{o:HO}
theorem Un.any (u:Un fs ex H H1 h h1) {b:Addr}{ob:Obj}(q:h.get? b=some ob) (n:H b=none) (hx:b∉ex):∃sl,h1.get? b=some { ob with slots:=sl}:=by
 by_cases hb:b∈fs
 ·exact u.slot b ob q n hb hx
 exact⟨ob.slots,u.keep b ob q n hb hx⟩
theorem Un.trans (a:Un fs ex H H1 h h1) (b:Un fs ex H1 H2 h1 h2):Un fs ex H H2 h h2 where
 keep:=fun c ob q n hc hx=>b.keep c ob (a.keep c ob q n hc hx) (a.free c ob q n hx) hc hx
 slot:=fun c ob q n hc hx=>by
  obtain⟨sl,e1⟩:=a.slot c ob q n hc hx
  obtain⟨sl',e2⟩:=b.slot c _ e1 (a.free c ob q n hx) hc hx
  exact⟨sl',e2⟩
 free:=fun c ob q n hx=>by
  obtain⟨o',e1⟩:=a.there c ob q hx
  exact b.free c o' e1 (a.free c ob q n hx) hx
 there:=fun c ob q hx=>by
  obtain⟨o',e1⟩:=a.there c ob q hx
  exact b.there c o' e1 hx
 tups:=fun c xs q=>b.tups c xs (a.tups c xs q)
 frzs:=fun c ob xs q=>b.frzs c ob xs (a.frzs c ob xs q)
 tbls:=fun c ps q=>by
  obtain⟨m1,e1⟩:=a.tbls c ps q
  obtain⟨m2,e2⟩:=b.tbls c _ e1
  exact⟨m1++m2,by rw[e2,Array.append_assoc]⟩
theorem Un.kept (k:∀b u,h.get? b=some u->h'.get? b=some u):Un fs ex H H h h' :=
 ⟨fun b ob q _ _ _=>k b ob q,fun b ob q _ _ _=>⟨ob.slots,k b ob q⟩,fun _ _ _ n _=>n,fun b ob q _=>⟨ob,k b ob q⟩,fun _ _ q=>q,fun _ _ _ q=>q,fun _ ps q=>⟨#[],by rw[q];simp⟩⟩
theorem Un.refl:Un fs ex H H h h:=Un.kept fun _ _ q=>q
theorem Un.laid (k:∀b u,h.get? b=some u->h'.get? b=some u) (hp:h.objs.size<=a) (hn:H a=none):Un fs ex H (upd H a o) h h' where
 keep:=fun b u q _ _ _=>k b u q
 slot:=fun b u q _ _ _=>⟨u.slots,k b u q⟩
 free:=fun b u q n _=>by rw[aH (Nat.ne_of_lt (Nat.lt_of_lt_of_le (Heap.lt_size q) hp))];exact n
 there:=fun b u q _=>⟨u,k b u q⟩
 tups:=fun b xs q=>by rw[aH (bD q hn)];exact q
 frzs:=fun b u xs q=>by rw[aH (bD q hn)];exact q
 tbls:=fun b ps q=>⟨#[],by rw[aH (bD q hn),q];simp⟩
theorem Un.write (mu:Mut (H x)) (he:e=x\/H e=some (.own x)) (k:∀b u,b≠e->h.get? b=some u->h'.get? b=some u) (heo:∃u,h'.get? e=some u):Un fs ex H (upd H x o) h h':=by
 have hx:∀b,H b=none->b≠x:=fun b n z=>by subst z;rw[n] at mu;exact mu
 have hb:∀b,H b=none->b≠e:=fun b n z=>by
  subst z;rcases he with r | r
  ·exact hx b n r
  rw[n] at r;cases r
 have hm:∀b u,H b=some u->¬Mut (some u)->b≠x:=fun b u q nm z=>by subst z;rw[q] at mu;exact nm mu
 refine⟨fun b u q n _ _=>k b u (hb b n) q,fun b u q n _ _=>⟨u.slots,k b u (hb b n) q⟩,fun b u q n _=>by rw[aH (hx b n)];exact n,fun b u q _=>?_,
  fun b xs q=>by rw[aH (hm b _ q fun z=>z)];exact q,fun b u xs q=>by rw[aH (hm b _ q fun z=>z)];exact q,fun b ps q=>⟨#[],by rw[aH (hm b _ q fun z=>z),q];simp⟩⟩
 by_cases hbe:b=e
 ·subst hbe;exact heo
 exact⟨u,k b u hbe q⟩
theorem Un.mono (u:Un fs ex H H1 h h1) (hs:∀b∈fs,b∈fs') (hx:∀b∈ex,b∈ex'):Un fs' ex' H H1 h h1 :=
 ⟨fun b ob q n hb he=>u.keep b ob q n (fun z=>hb (hs b z)) fun z=>he (hx b z),fun _ _ q n _ he=>u.any q n fun z=>he (hx _ z),fun b ob q n he=>u.free b ob q n fun z=>he (hx b z),fun b ob q he=>u.there b ob q fun z=>he (hx b z),u.tups,u.frzs,u.tbls⟩
end
def trk (h:Heap) (H:Hp):List Addr:=(List.range h.objs.size).filter fun a=>(H a).isSome
def nQ (h:Heap) (H:Hp):Heap:=PySem.W.hideAll h (trk h H)
theorem ww (h:Heap) (H:Hp):(nQ h H).objs.size=h.objs.size:=PySem.W.hideAll_size _ _
theorem xK {h:Heap}{H:Hp}{b:Addr}{o:Obj}(e:h.get? b=some o) (n:H b=none):(nQ h H).get? b=some o :=
 PySem.W.hideAll_get _ e fun hm=>by
  have q:(H b).isSome=true:=(List.mem_filter.mp hm).2;rw[n] at q;simp at q
theorem BX {h:Heap}{H:Hp}{b:Addr}{o:Obj}(e:(nQ h H).get? b=some o):h.get? b=some o/\H b=none:=by
 have e':h.get? b=some o:=PySem.W.of_hideAll (trk h H) e;refine⟨e',?_⟩;cases q:H b with
 |none=>rfl
 |some x =>
  have hm:b∈trk h H:=List.mem_filter.mpr ⟨List.mem_range.mpr (Heap.lt_size e'),by simp [q]⟩
  have z:(nQ h H).get? b=none:=PySem.W.hideAll_none (trk h H) hm
  rw[z] at e;cases e
def BZ (g h : Heap) (L : Addr) : List (Addr × Obj):=(List.range h.objs.size).filterMap fun a => if a = L \/ (g.get? a).isSome = true then none else (h.get? a).map fun o => (a,o)
def rest (g h:Heap) (L d:Addr):List (Addr × Obj):=(BZ g h L).filter fun p=>decide (p.1≠d)
structure Mod (K:Frag) (mg:Str->Option Value) (base:Heap):Prop where
 kin:K.In base
 glob:base.Ns mainGlobals mg
 blt:∃mb,base.Ns builtinsNs mb/\∀x:Str,x≠"__name__"->mb x=bootBuiltins x
 nolimit:base.NoLimit
structure Cx where
 prog:Program
 w:World
 K:Frag
 mg:Str->Option Value
 base:Heap
 A:Around
 N:List Str
 s₀:Shared
 H₀:Hp
 env:Env
 outer:List Env
 stack:List Env
 ex:List Addr
 fn:Str->Bool
 calm:Bool
 pn:List (Addr × Obj)
 xe:Value->Shared->Prop
def frs (l : List Env) : List Addr:=l.filterMap (·.frame)
abbrev Cx.fs (X:Cx):List Addr:=frs X.outer
def Vis (sc:Scope) (x:Str):Prop:=sc.names.lookup x=some .local\/sc.names.lookup x=some .cell\/sc.names.lookup x=some .free
def Loc (sc:Scope) (x:Str):Prop:=sc.names.lookup x=some .local\/sc.names.lookup x=some .cell
def Look (env:Env) (h:Heap) (m:Str->Option Value) (x:Str) (u:Value):Prop :=
 (env.kindOf x=some .local/\m x=some u)\/((env.kindOf x=some .cell\/env.kindOf x=some .free)/\∃c,env.cells.lookup x=some c/\h.IsCell c (some u))
structure Cx.Ok (X:Cx):Prop where
 mod:Mod X.K X.mg X.base
 kind:X.env.scope.kind=.function
 glob:X.env.globals=mainGlobals
 blt:X.env.builtins=builtinsNs
 above:X.s₀.heap.objs.size<=X.env.locals
 inj:∀x y c,X.env.cells.lookup x=some c->X.env.cells.lookup y=some c->x=y
 has:∀x,(X.env.kindOf x=some .cell\/X.env.kindOf x=some .free)->∃c,X.env.cells.lookup x=some c
 cab:∀x c,X.fn x=true->X.env.cells.lookup x=some c->X.s₀.heap.objs.size<=c
 hd:X.calm=true->X.A.handled=none
 frames:X.A.frames=some X.stack
 stk:X.stack=X.outer\/(X.stack=X.env::X.outer/\X.env.frame=some X.env.locals)
 exf:∀b∈X.ex,b≠X.env.locals/\∀x c,X.env.cells.lookup x=some c->c≠b
 bs:∀b o,X.base.get? b=some o->X.s₀.heap.get? b=some o/\X.H₀ b=none
 bsz:X.base.objs.size<=X.s₀.heap.objs.size
 noex:∀b o,X.base.get? b=some o->b∉X.ex
 exfs:∀b∈X.ex,b∉X.fs
 funs:X.s₀.heap.FunFrames X.base X.outer
 frf:∀b∈X.fs,X.H₀ b=none
structure Inv (X:Cx) (pins:List (Addr × Obj)) (U:List (Option V)) (H:Hp) (s:Shared):Prop where
 ok:X.Ok
 os:s.os=X.s₀.os
 bare:AllBare s.gens
 base:Un X.fs X.ex X.H₀ H X.s₀.heap s.heap
 loc:∃m,s.heap.Ns X.env.locals m/\∀(i:Nat) (x:Str) (v:V),X.N[i]?=some x->U[i]?=some (some v)->Vis X.env.scope x->∃u,RelV v u/\Look X.env s.heap m x u
 cell:∀x c,X.env.cells.lookup x=some c->∃v,s.heap.IsCell c v
 free:H X.env.locals=none
 freeC:∀x c,X.env.cells.lookup x=some c->H c=none
 pin:∀p∈X.pn++pins,s.heap.get? p.1=some p.2/\H p.1=none/\p.1≠X.env.locals/\p.1∉X.fs/\∀v,p.2.data≠.cell v
 hok:HOk X.prog X.w H s.heap
 len:U.length=X.N.length
section
variable {X:Cx}{pins:List (Addr × Obj)}{U:List (Option V)}{H H':Hp}{s:Shared}{h':Heap}
theorem Cx.Ok.nofr (ok:X.Ok) {b:Addr}{o:Obj}(e:X.base.get? b=some o):b∉X.fs:=fun hb=>by
 have:=(ok.funs.mem hb).1;rw[e] at this;cases this
theorem Inv.bs (I:Inv X pins U H s):∀b o,X.base.get? b=some o->s.heap.get? b=some o/\H b=none:=fun b o e =>
 ⟨I.base.keep b o (I.ok.bs b o e).1 (I.ok.bs b o e).2 (I.ok.nofr e) (I.ok.noex b o e),I.base.free b o (I.ok.bs b o e).1 (I.ok.bs b o e).2 (I.ok.noex b o e)⟩
theorem Inv.bk (I:Inv X pins U H s):∀b o,X.base.get? b=some o->s.heap.get? b=some o:=fun b o e=>(I.bs b o e).1
theorem Inv.mod (I:Inv X pins U H s):Mod X.K X.mg X.base:=I.ok.mod
theorem Inv.kIn (I:Inv X pins U H s):X.K.In s.heap:=I.ok.mod.kin.keeps I.bk
theorem Inv.nolimit (I:Inv X pins U H s):s.heap.NoLimit:=I.ok.mod.nolimit.keeps I.bk
theorem Inv.fr (I:Inv X pins U H s):∃m,Fr X.base X.env.locals s.heap m :=
 let ⟨m,hn,_⟩:=I.loc
 ⟨m,hn,I.bk,Nat.le_trans I.ok.bsz I.ok.above⟩
theorem Inv.lt (I:Inv X pins U H s):X.env.locals<s.heap.objs.size:=let ⟨_,hn,_⟩:=I.loc;hn.lt
theorem Inv.sz (I:Inv X pins U H s):X.s₀.heap.objs.size<=s.heap.objs.size:=Nat.le_trans I.ok.above (Nat.le_of_lt I.lt)
theorem Inv.nofs (I:Inv X pins U H s) {a:Addr}(h:s.heap.objs.size<=a):a∉X.fs:=fun hb=>by
 obtain⟨_,o,ho,_⟩:=I.ok.funs.mem hb;exact absurd (Nat.lt_of_lt_of_le (Heap.lt_size ho) (Nat.le_trans I.sz h)) (Nat.lt_irrefl _)
theorem Inv.cne (I:Inv X pins U H s):∀x c,X.env.cells.lookup x=some c->c≠X.env.locals:=fun x c e z=>by
 obtain⟨v,o,ho,hd⟩:=I.cell x c e;obtain⟨m,⟨o',es,ep,ho',hd',_⟩,_⟩:=I.loc;rw[z,ho'] at ho;cases ho;rw[hd'] at hd;cases hd
theorem Inv.funs (I:Inv X pins U H s):s.heap.FunFrames X.base X.outer:=by
 have all:∀(l:List Env),(∀b∈frs l,b∈X.fs)->X.s₀.heap.FunFrames X.base l->s.heap.FunFrames X.base l:=by
  intro l;induction l with
  |nil=>intro _ _;trivial
  |cons env r ih =>
  intro hs hl;obtain ⟨hk,⟨L,o,hf,hn,ho,hd⟩,hr⟩:=hl;have hL : L ∈ X.fs:=hs L (by unfold frs; rw [List.filterMap_cons,hf]; exact List.mem_cons_self);obtain ⟨sl,e⟩:=I.base.slot L o ho (I.ok.frf L hL) hL fun z => I.ok.exfs L z hL;exact ⟨hk,⟨L,_,hf,hn,e,hd⟩,ih (fun b hb => hs b (by unfold frs; rw [List.filterMap_cons,hf]; exact List.mem_cons_of_mem _ hb)) hr⟩
 exact all X.outer (fun _ hb=>hb) I.ok.funs
theorem Inv.stack (I:Inv X pins U H s):s.heap.FunFrames X.base X.stack:=by
 rcases I.ok.stk with e | ⟨e,hf⟩
 ·rw[e];exact I.funs
 rw[e];obtain⟨m,hn,_⟩:=I.loc;refine .cons (by rw[I.ok.kind];decide) hf hn ?_ I.funs;exact Heap.get?_none_of_le (Nat.le_trans I.ok.bsz I.ok.above)
theorem Inv.stkSub (I:Inv X pins U H s):∀b∈frs X.stack,b∈X.env.locals::X.fs:=fun b hb=>by
 rcases I.ok.stk with e | ⟨e,hf⟩
 ·rw[e] at hb;exact List.mem_cons_of_mem _ hb
 rw [e] at hb;unfold frs at hb;rw [List.filterMap_cons,hf] at hb;exact hb
theorem Inv.stkFree (I:Inv X pins U H s):∀b∈frs X.stack,H b=none:=fun b hb=>by
 rcases List.mem_cons.mp (I.stkSub b hb) with e | hb
 ·rw[e];exact I.free
 obtain⟨_,o,ho,_⟩:=I.ok.funs.mem hb;exact I.base.free b o ho (I.ok.frf b hb) fun z=>I.ok.exfs b z hb
theorem Inv.step {g':Array GenState}{t':Nat}{d':Drawn}{ch:List Addr}(I:Inv X pins U H s)
  (hch:∀b∈ch,(b∈X.ex\/X.s₀.heap.objs.size<=b)/\b≠X.env.locals/\(∀x c,X.env.cells.lookup x=some c->c≠b)/\∀p∈X.pn++pins,p.1≠b)
  (keep:∀b o,b≠X.env.locals->b∉X.fs->b∉ch->s.heap.get? b=some o->H b=none->h'.get? b=some o)
  (slot:∀b o,b≠X.env.locals->b∈X.fs->b∉ch->s.heap.get? b=some o->H b=none->∃sl,h'.get? b=some { o with slots:=sl}) (free:∀b o,b∉ch->s.heap.get? b=some o->H b=none->H' b=none)
  (there:∀b o,b∉ch->s.heap.get? b=some o->∃o',h'.get? b=some o')
  (tups:∀b xs,H b=some (.tup xs)->H' b=some (.tup xs)) (frzs:∀b o u,H b=some (.frz o u)->H' b=some (.frz o u)) (tbls:∀b ps,H b=some (.tbl ps)->∃more,H' b=some (.tbl (ps++more)))
  (ns:∀m,s.heap.Ns X.env.locals m->h'.Ns X.env.locals m) (hok:HOk X.prog X.w H' h') (hg:AllBare g') :
  Inv X pins U H' { s with heap:=h',gens:=g',drawn:=d',toks:=t'}:=by
 have neL:∀b o,X.s₀.heap.get? b=some o->b≠X.env.locals:=fun b o e=>Nat.ne_of_lt (Nat.lt_of_lt_of_le (Heap.lt_size e) I.ok.above);have neC:∀b o,X.s₀.heap.get? b=some o->b∉X.ex->b∉ch:=fun b o e hx hb=>by
  rcases (hch b hb).1 with z | z
  ·exact hx z
  exact absurd (Nat.lt_of_lt_of_le (Heap.lt_size e) z) (Nat.lt_irrefl _)
 have cellK:∀x c,X.env.cells.lookup x=some c->∀v,s.heap.IsCell c v->h'.IsCell c v:=fun x c e v ⟨o,ho,hd⟩=>by
  have nch:c∉ch:=fun z=>(hch c z).2.2.1 x c e rfl;by_cases hc:c∈X.fs
  ·obtain⟨sl,q⟩:=slot c o (I.cne x c e) hc nch ho (I.freeC x c e);exact⟨_,q,hd⟩
  exact⟨o,keep c o (I.cne x c e) hc nch ho (I.freeC x c e),hd⟩
 refine⟨I.ok,I.os,hg,⟨fun b o e n hb hx=>?_,fun b o e n hb hx=>?_,fun b o e n hx=>?_,fun b o e hx=>?_,fun b xs e=>tups b xs (I.base.tups b xs e),fun b o xs e=>frzs b o xs (I.base.frzs b o xs e),fun b ps e=>?_⟩,?_,fun x c e=>?_,?_,fun x c e=>?_,fun p hp=>?_,hok,I.len⟩
 ·exact keep b o (neL b o e) hb (neC b o e hx) (I.base.keep b o e n hb hx) (I.base.free b o e n hx)
 ·obtain⟨sl,e1⟩:=I.base.slot b o e n hb hx;obtain⟨sl',e2⟩:=slot b _ (neL b o e) hb (neC b o e hx) e1 (I.base.free b o e n hx);exact⟨sl',e2⟩
 ·obtain⟨o',e1⟩:=I.base.there b o e hx;exact free b o' (neC b o e hx) e1 (I.base.free b o e n hx)
 ·obtain⟨o',e1⟩:=I.base.there b o e hx;exact there b o' (neC b o e hx) e1
 ·obtain⟨m1,e1⟩:=I.base.tbls b ps e;obtain⟨m2,e2⟩:=tbls b _ e1;exact⟨m1++m2,by rw[e2,Array.append_assoc]⟩
 ·obtain⟨m,hn,hl⟩:=I.loc;refine⟨m,ns m hn,fun i x v e1 e2 e3=>?_⟩;obtain⟨u,r,l⟩:=hl i x v e1 e2 e3;refine⟨u,r,?_⟩;rcases l with l | ⟨k,c,e,z⟩
  ·exact .inl l
  exact .inr ⟨k,c,e,cellK x c e _ z⟩
 ·obtain⟨v,z⟩:=I.cell x c e;exact⟨v,cellK x c e v z⟩
 ·obtain⟨m,⟨o,_,_,ho,_⟩,_⟩:=I.loc;exact free _ o (fun z=>(hch _ z).2.1 rfl) ho I.free
 ·obtain⟨v,o,ho,hd⟩:=I.cell x c e;exact free c o (fun z=>(hch c z).2.2.1 x c e rfl) ho (I.freeC x c e)
 obtain⟨e,n,ne,nf,d⟩:=I.pin p hp;have nch:p.1∉ch:=fun z=>(hch p.1 z).2.2.2 p hp rfl;exact⟨keep p.1 p.2 ne nf nch e n,free p.1 p.2 nch e n,ne,nf,d⟩
theorem Inv.un {t':Nat}(I:Inv X pins U H s) (u:Un X.fs [] H H' s.heap h') (hok:HOk X.prog X.w H' h'):Inv X pins U H' { s with heap:=h',toks:=t'}:=by
 obtain⟨m,⟨o,es,ep,ho,r⟩,_⟩:=id I.loc;obtain⟨sl,hL⟩:=u.any ho I.free (by simp);exact I.step (g':=s.gens) (d':=s.drawn) (ch:=[]) (fun _ z=>nomatch z) (fun b o _ hb _ e n=>u.keep b o e n hb (by simp)) (fun b o _ hb _ e n=>u.slot b o e n hb (by simp)) (fun b o _ e n=>u.free b o e n (by simp)) (fun b o _ e=>u.there b o e (by simp)) u.tups u.frzs u.tbls (fun m' hm=>by
  obtain⟨o',es',ep',ho',r'⟩:=hm
  rw[ho] at ho';cases ho'
  exact⟨_,es',ep',hL,r'⟩) hok I.bare
theorem Inv.call {g':Array GenState}{t':Nat}{d':Drawn}{ch:List Addr}(I:Inv X pins U H s) (u:Un (frs X.stack) ch H H' s.heap h') (hok:HOk X.prog X.w H' h') (hg:AllBare g')
  (hch:∀b∈ch,(b∈X.ex\/X.s₀.heap.objs.size<=b)/\b≠X.env.locals/\(∀x c,X.env.cells.lookup x=some c->c≠b)/\∀p∈X.pn++pins,p.1≠b) :
  Inv X pins U H' { s with heap:=h',gens:=g',drawn:=d',toks:=t'}:=by
 obtain⟨m,⟨o,es,ep,ho,r⟩,_⟩:=id I.loc;obtain⟨sl,hL⟩:=u.any ho I.free fun z=>(hch _ z).2.1 rfl;exact I.step (ch:=ch) hch (fun b o hL hb hc e n=>u.keep b o e n (fun z=>(List.mem_cons.mp (I.stkSub b z)).elim hL hb) hc) (fun b o _ _ hc e n=>u.any e n hc) (fun b o hc e n=>u.free b o e n hc) (fun b o hc e=>u.there b o e hc) u.tups u.frzs u.tbls (fun m' hm=>by
  obtain⟨o',es',ep',ho',r'⟩:=hm
  rw[ho] at ho';cases ho'
  exact⟨_,es',ep',hL,r'⟩) hok hg
theorem Inv.turned {t':Nat}{it:Addr}(I:Inv X pins U H s) (k:∀b o,b≠it->s.heap.get? b=some o->h'.get? b=some o) (hn:H it=none) (hL:it≠X.env.locals)
  (h1:it∈X.ex\/X.s₀.heap.objs.size<=it) (h2:∀x c,X.env.cells.lookup x=some c->c≠it) (h3:∀p∈X.pn++pins,p.1≠it):Inv X pins U H { s with heap:=h',toks:=t'}:=by
 have nit:∀b u,H b=some u->b≠it:=fun b u e z=>by rw[z,hn] at e;cases e
 refine I.step (g':=s.gens) (d':=s.drawn) (ch:=[it]) (fun b hb=>?_) (fun b o _ _ hc e _=>k b o (fun z=>hc (by simp [z])) e) (fun b o _ _ hc e _=>⟨o.slots,k b o (fun z=>hc (by simp [z])) e⟩) (fun _ _ _ _ n=>n)
  (fun b o hc e=>⟨o,k b o (fun z=>hc (by simp [z])) e⟩) (fun _ _ e=>e) (fun _ _ _ e=>e) (fun b ps e=>⟨#[],by rw[e];simp⟩) (fun m hm=>?_) (fun b u e=>?_) I.bare
 ·have e:b=it:=by simpa using hb
  subst e;exact⟨h1,hL,h2,h3⟩
 ·obtain⟨o,es,ep,ho,r⟩:=hm;exact⟨o,es,ep,k _ o (Ne.symm hL) ho,r⟩
 refine (I.hok b u e).stay (fun c v hc q=>k c v ?_ q) (fun _ q=>q) fun _ _ q=>q;rcases hc with z | z
 ·rw[z];exact nit b u e
 exact nit c _ z
theorem Inv.tok (I:Inv X pins U H s) (t:Nat):Inv X pins U H { s with toks:=t}:=I.un (h':=s.heap) (t':=t) Un.refl I.hok
theorem Inv.kept {t':Nat}(I:Inv X pins U H s) (k:∀b u,s.heap.get? b=some u->h'.get? b=some u):Inv X pins U H { s with heap:=h',toks:=t'}:=I.un (Un.kept k) (I.hok.kept k)
theorem Inv.laid {a:Addr}{o:HO}{t':Nat}(I:Inv X pins U H s) (k:∀b u,s.heap.get? b=some u->h'.get? b=some u) (hp:s.heap.objs.size<=a) (new:ObjOk X.prog X.w (upd H a o) h' a o) :
  Inv X pins U (upd H a o) { s with heap:=h',toks:=t'}:=I.un (Un.laid k hp (I.hok.fresh hp)) (I.hok.laid k hp new)
theorem Inv.write {x e:Addr}{o:HO}{t':Nat}(I:Inv X pins U H s) (mu:Mut (H x)) (he:e=x\/H e=some (.own x)) (k:∀b u,b≠e->s.heap.get? b=some u->h'.get? b=some u) (heo:∃u,h'.get? e=some u)
  (new:ObjOk X.prog X.w (upd H x o) h' x o):Inv X pins U (upd H x o) { s with heap:=h',toks:=t'}:=I.un (Un.write mu he k heo) (I.hok.write mu he k heo new)
theorem Inv.pins_of {pins':List (Addr × Obj)}(I:Inv X pins U H s) (h:∀p∈pins',s.heap.get? p.1=some p.2/\H p.1=none/\p.1≠X.env.locals/\p.1∉X.fs/\∀v,p.2.data≠.cell v):Inv X pins' U H s :=
 ⟨I.ok,I.os,I.bare,I.base,I.loc,I.cell,I.free,I.freeC,fun p hp=>(List.mem_append.mp hp).elim (fun z=>I.pin p (List.mem_append_left _ z)) (h p),I.hok,I.len⟩
theorem j4 {N:List Str}(hN:N.Nodup) {i j:Nat}{x:Str}(a:N[i]?=some x) (b:N[j]?=some x):i=j:=by
 obtain⟨h1,e1⟩:=List.getElem?_eq_some_iff.mp a;obtain⟨h2,e2⟩:=List.getElem?_eq_some_iff.mp b;exact (List.getElem_inj hN).mp (e1.trans e2.symm)
theorem fB {M:Model}{A:Around}{E:Value->Shared->Prop}{i:Nat}{x:Str}{v:V}{u:Value}{Q:Unit->Shared->Prop}(I:Inv X pins U H s) (hN:X.N.Nodup) (hi:X.N[i]?=some x) (hx:Loc X.env.scope x) (r:RelV v u)
  (h:∀s',Inv X pins (U.set i (some v)) H s'->(∃a,Heap.SameBut a s.heap s'.heap/\(a=X.env.locals\/X.env.cells.lookup x=some a))->Q () s') (hf:X.fn x=true\/X.env.scope.names.lookup x=some .local:=by first | exact .inl rfl | exact .inr rfl | assumption):wpAny M A (storeName X.env x u) Q E s:=by
 obtain⟨m,hn,hl⟩:=id I.loc;have hcls:(X.env.scope.kind==.class||(X.env.scope.kind==.module&&X.env.locals != X.env.globals))=false:=by rw[I.ok.kind];rfl
 have hiU:i<U.length:=by rw[I.len];exact (List.getElem?_eq_some_iff.mp hi).1
 have cne:=I.cne;have tracked:∀{a:Addr} {h':Heap},(∃o,s.heap.get? a=some o/\H a=none)->Heap.SameBut a s.heap h'->HOk X.prog X.w H h':=fun {a h'} ha hs b ob e=>by
  obtain⟨_,_,hfree⟩:=ha;refine (I.hok b ob e).stay (fun c w' hc q=>(hs.2 c ?_).trans q) (fun _ q=>q) fun _ _ q=>q;rintro rfl;rcases hc with rfl | hc
  ·rw[hfree] at e;cases e
  rw[hfree] at hc;cases hc
 rcases hx with hk | hk
 ·refine wpAny_storeName_local hk hn (fun h' hn' hs=>?_) hcls;obtain⟨oL,_,_,hoL,_⟩:=id hn;refine h _ ⟨I.ok,I.os,I.bare,⟨fun b o e n hb hx=>?_,fun b o e n hb hx=>?_,I.base.free,fun b o e hx=>?_,I.base.tups,I.base.frzs,I.base.tbls⟩,⟨_,hn',fun j y v' e1 e2 e3=>?_⟩,fun y c e=>?_,I.free,I.freeC,fun p hp=>?_,tracked ⟨oL,hoL,I.free⟩ hs,by simpa using I.len⟩ ⟨_,hs,.inl rfl⟩
  ·exact (hs.2 b (Nat.ne_of_lt (Nat.lt_of_lt_of_le (Heap.lt_size e) I.ok.above))).trans (I.base.keep b o e n hb hx)
  ·obtain⟨sl,e1⟩:=I.base.slot b o e n hb hx;exact⟨sl,(hs.2 b (Nat.ne_of_lt (Nat.lt_of_lt_of_le (Heap.lt_size e) I.ok.above))).trans e1⟩
  ·obtain⟨o',e1⟩:=I.base.there b o e hx;exact⟨o',(hs.2 b (Nat.ne_of_lt (Nat.lt_of_lt_of_le (Heap.lt_size e) I.ok.above))).trans e1⟩
  ·by_cases hj:j=i
   ·subst hj;rw[hi] at e1;cases e1;rw[List.getElem?_set_self hiU] at e2;cases e2;exact⟨u,r,.inl ⟨hk,by simp⟩⟩
   rw[List.getElem?_set_ne (Ne.symm hj)] at e2;obtain⟨u',r',q⟩:=hl j y v' e1 e2 e3;refine⟨u',r',?_⟩;rcases q with ⟨k,e⟩ | ⟨k,c,e,z⟩
   ·refine .inl ⟨k,?_⟩;have:y≠x:=fun e=>hj (j4 hN e1 (e▸hi));simp [this,e]
   exact .inr ⟨k,c,e,z.sameBut hs (cne y c e)⟩
  ·obtain⟨w',z⟩:=I.cell y c e;exact⟨w',z.sameBut hs (cne y c e)⟩
  obtain⟨e,n,ne,nf,d⟩:=I.pin p hp;exact⟨(hs.2 p.1 ne).trans e,n,ne,nf,d⟩
 have hfn:X.fn x=true:=by
  rcases hf with z | z
  ·exact z
  rw[z] at hk;cases hk
 obtain⟨c,hc⟩:=I.ok.has x (.inl hk);obtain⟨w',z⟩:=I.cell x c hc;refine wpAny_storeName_cell I.ok.kind hk hc z (fun h' hc' hs=>?_);obtain⟨oc,hoc,hocd⟩:=id z;refine h { s with heap:=h'} ⟨I.ok,I.os,I.bare,⟨fun b o e n hb hx=>?_,fun b o e n hb hx=>?_,I.base.free,fun b o e hx=>?_,I.base.tups,I.base.frzs,I.base.tbls⟩,⟨m,hn.sameBut hs (Ne.symm (cne x c hc)),fun j y v' e1 e2 e3=>?_⟩,fun y c' e=>?_,I.free,I.freeC,fun p hp=>?_,tracked ⟨oc,hoc,I.freeC x c hc⟩ hs,by simpa using I.len⟩ ⟨c,hs,.inr hc⟩
 ·exact (hs.2 b (Nat.ne_of_lt (Nat.lt_of_lt_of_le (Heap.lt_size e) (I.ok.cab x c hfn hc)))).trans (I.base.keep b o e n hb hx)
 ·obtain⟨sl,e1⟩:=I.base.slot b o e n hb hx;exact⟨sl,(hs.2 b (Nat.ne_of_lt (Nat.lt_of_lt_of_le (Heap.lt_size e) (I.ok.cab x c hfn hc)))).trans e1⟩
 ·obtain⟨o',e1⟩:=I.base.there b o e hx;exact⟨o',(hs.2 b (Nat.ne_of_lt (Nat.lt_of_lt_of_le (Heap.lt_size e) (I.ok.cab x c hfn hc)))).trans e1⟩
 ·by_cases hj:j=i
  ·subst hj;rw[hi] at e1;cases e1;rw[List.getElem?_set_self hiU] at e2;cases e2;exact⟨u,r,.inr ⟨.inl hk,c,hc,hc'⟩⟩
  rw[List.getElem?_set_ne (Ne.symm hj)] at e2;obtain⟨u',r',q⟩:=hl j y v' e1 e2 e3;refine⟨u',r',?_⟩;rcases q with q | ⟨k,c',e,z'⟩
  ·exact .inl q
  refine .inr ⟨k,c',e,z'.sameBut hs ?_⟩;rintro rfl;exact hj (j4 hN e1 (I.ok.inj _ _ _ e hc▸hi))
 ·by_cases hcc:c'=c
  ·subst hcc;exact⟨_,hc'⟩
  obtain⟨w2,z2⟩:=I.cell y c' e;exact⟨w2,z2.sameBut hs hcc⟩
 obtain⟨e,n,ne,nf,d⟩:=I.pin p hp;refine⟨(hs.2 p.1 ?_).trans e,n,ne,nf,d⟩;intro q;rw[q,hoc] at e;have q':oc=p.2:=Option.some.inj e;exact d w' (by rw[<- q'];exact hocd)
theorem qp {M:Model}{A:Around}{E:Value->Shared->Prop}{i:Nat}{x:Str}{v:V}{u:Value}{Q:Unit->Shared->Prop}(I:Inv X pins U H s) (hN:X.N.Nodup) (hi:X.N[i]?=some x) (hx:Loc X.env.scope x) (r:RelV v u)
  (h:∀s',Inv X pins (U.set i (some v)) H s'->Q () s') (hf:X.fn x=true\/X.env.scope.names.lookup x=some .local:=by first | exact .inl rfl | exact .inr rfl | assumption):wpAny M A (storeName X.env x u) Q E s :=
 fB I hN hi hx r (fun s' I' _=>h s' I') hf
theorem Inv.call' {s':Shared}{ch:List Addr}(I:Inv X pins U H s) (ho:s'.os=s.os) (u:Un (frs X.stack) ch H H' s.heap s'.heap) (hok:HOk X.prog X.w H' s'.heap) (hg:AllBare s'.gens)
  (hch:∀b∈ch,(b∈X.ex\/X.s₀.heap.objs.size<=b)/\b≠X.env.locals/\(∀x c,X.env.cells.lookup x=some c->c≠b)/\∀p∈X.pn++pins,p.1≠b):Inv X pins U H' s':=by
 obtain⟨h',g',d',t',o'⟩:=s';have e:o'=s.os:=ho;subst e;exact I.call (g':=g') (t':=t') (d':=d') u hok hg hch
end
abbrev XK:=Value->Option Addr->Hp->Prop
abbrev St:=List (Option V)
abbrev VK:=V->Hp->Prop
abbrev TE:=St->Hp->VK->Prop
abbrev TT:=St->Hp->(Bool->Hp->Prop)->Prop
abbrev TA:=St->Hp->(List V->Hp->Prop)->Prop
structure Ends where
 nx:St->Hp->Prop
 rt:VK
 bk:St->Hp->Prop:=fun _ _=>False
 ct:St->Hp->Prop:=fun _ _=>False
abbrev TS:=Ends->St->Hp->Prop
def EP (X:Cx) (pins:List (Addr × Obj)) (U:St) (Q:VK) (u:Value) (s':Shared):Prop:=∃v H',Inv X pins U H' s'/\RelV v u/\Q v H'
def TP (X:Cx) (pins:List (Addr × Obj)) (U:St) (Q:Bool->Hp->Prop) (b:Bool) (s':Shared):Prop:=∃H',Inv X pins U H' s'/\Q b H'
def AP (X:Cx) (pins:List (Addr × Obj)) (U:St) (Q:List V->Hp->Prop) (us:List Value) (s':Shared):Prop:=∃vs H',Inv X pins U H' s'/\Vals vs us/\Q vs H'
def SP (X:Cx) (pins:List (Addr × Obj)) (D:Ends) (f:Flow) (s':Shared):Prop :=
 match f with
 |.next=>∃U' H',Inv X pins U' H' s'/\D.nx U' H'
 |.brk=>∃U' H',Inv X pins U' H' s'/\D.bk U' H'
 |.cont=>∃U' H',Inv X pins U' H' s'/\D.ct U' H'
 |.ret u=>∃v U' H',Inv X pins U' H' s'/\RelV v u/\D.rt v H'
def PE (X:Cx) (e:Expr) (t:TE):Prop :=
 ∀(pins:List (Addr × Obj)) (s:Shared) (U:St) (H:Hp) (Q:VK),Inv X pins U H s->t U H Q->wpAny (model X.prog X.w) X.A (eval e X.env) (EP X pins U Q) X.xe s
def PT (X:Cx) (e:Expr) (t:TT):Prop :=
 ∀(pins:List (Addr × Obj)) (s:Shared) (U:St) (H:Hp) (Q:Bool->Hp->Prop),Inv X pins U H s->t U H Q->wpAny (model X.prog X.w) X.A (isTrue e X.env (eval e X.env)) (TP X pins U Q) X.xe s
def PW (X:Cx) (e:Expr) (t:TT):Prop :=
 ∀(whole:Sem Value) (pins:List (Addr × Obj)) (s:Shared) (U:St) (H:Hp) (Q:Bool->Hp->Prop),Inv X pins U H s->t U H Q->wpAny (model X.prog X.w) X.A (isTrue e X.env whole) (TP X pins U Q) X.xe s
theorem PW.pt {X:Cx}{e:Expr}{t:TT}(h:PW X e t):PT X e t:=h _
def PA (X:Cx) (es:List Expr) (t:TA):Prop :=
 ∀(pos:Pos) (pins:List (Addr × Obj)) (s:Shared) (U:St) (H:Hp) (Q:List V->Hp->Prop),Inv X pins U H s->t U H Q->wpAny (model X.prog X.w) X.A (spliced (backTo pos (starEach es X.env))) (AP X pins U Q) X.xe s
def PS (X:Cx) (st:Stmt) (t:TS):Prop :=
 ∀(pins:List (Addr × Obj)) (s:Shared) (U:St) (H:Hp) (D:Ends),Inv X pins U H s->t D U H->wpAny (model X.prog X.w) X.A (exec st X.env) (SP X pins D) X.xe s
def PSs (X:Cx) (st:List Stmt) (t:TS):Prop :=
 ∀(pins:List (Addr × Obj)) (s:Shared) (U:St) (H:Hp) (D:Ends),Inv X pins U H s->t D U H->wpAny (model X.prog X.w) X.A (execs st X.env) (SP X pins D) X.xe s
theorem thn {α:Type}{t:Sem α}{Q Q':α->Shared->Prop}{M:Model}{A:Around}{E:Value->Shared->Prop}{s:Shared}(h:wpAny M A t Q E s) (hQ:∀a s,Q a s->Q' a s):wpAny M A t Q' E s:=wpAny_mono h hQ fun _ _ x=>x
section
variable {X:Cx}
def Lj (i:Nat):TE:=fun U H Q=>∃v,U[i]?=some (some v)/\Q v H
def tC (v:V):TE:=fun _ H Q=>Q v H
theorem Hx {i:Nat}{x:Str}{pos:Pos}(hN:X.N[i]?=some x) (hv:Vis X.env.scope x) (hd:(x==("__debug__":Str))=false:=by decide) (hcd:(x==("__classdict__":Str))=false:=by decide):PE X (.Name x pos) (Lj i):=by
 intro pins s U H Q I h;obtain⟨v,e,h⟩:=h;obtain⟨m,hn,hl⟩:=I.loc;obtain⟨u,r,l⟩:=hl i x v hN e hv;have fin:EP X pins U Q u s:=⟨v,H,I,r,h⟩;rcases l with ⟨hk,hm⟩ | ⟨hk,c,hc,hcell⟩
 ·exact wpAny_Name (wpAny_loadName_local I.ok.kind hk hn hm fin) hd
 rcases hk with hk | hk
 ·exact wpAny_Name (wpAny_loadName_cell I.ok.kind hk hc hcell fin) hd
 exact wpAny_Name (wpAny_loadName_free I.ok.kind hk hc hcell fin hcd) hd
theorem xM {i j pos}:PE X (.Constant (.int i) j pos) (tC (.int i)):=fun _ _ _ H _ I h=>wpAny_Constant_int ⟨.int i,H,I.tok _,⟨_,rfl⟩,h⟩
theorem Lk {b j pos}:PE X (.Constant (.bool b) j pos) (tC (.bl b)):=fun _ _ _ H _ I h=>Constant_bool ⟨.bl b,H,I,rfl,h⟩
theorem Hy {j pos}:PE X (.Constant .none j pos) (tC .non):=fun _ _ _ H _ I h=>Constant_none ⟨.non,H,I,rfl,h⟩
theorem Hz {x j pos}:PE X (.Constant (.str x) j pos) (tC (.str x)):=fun _ _ _ H _ I h=>Calls.Constant_str ⟨.str x,H,I.tok _,⟨_,rfl⟩,h⟩
def Gl (X:Cx) (x:Str):Prop:=X.env.kindOf x=some .globalImplicit
theorem dJ {E:Value->Shared->Prop}{pins:List (Addr × Obj)}{s:Shared}{U:St}{H:Hp}{x:Str}{u:Value}{pos:Pos}{Q:Value->Shared->Prop}(I:Inv X pins U H s) (hg:Gl X x) (hm:X.mg x=some u) (h:Q u s)
  (hd:(x==("__debug__":Str))=false:=by decide):wpAny (model X.prog X.w) X.A (eval (.Name x pos) X.env) Q E s :=
 Calls.Name_function_global I.ok.kind hg (Calls.loadGlobal_global (by rw[I.ok.glob];exact I.mod.glob.keeps I.bk) hm h) hd
theorem eO {E:Value->Shared->Prop}{pins:List (Addr × Obj)}{s:Shared}{U:St}{H:Hp}{x:Str}{u:Value}{pos:Pos}{Q:Value->Shared->Prop}(I:Inv X pins U H s) (hg:Gl X x) (hm:X.mg x=none) (hv:bootBuiltins x=some u) (h:Q u s)
  (hn:x≠"__name__":=by decide) (hd:(x==("__debug__":Str))=false:=by decide):wpAny (model X.prog X.w) X.A (eval (.Name x pos) X.env) Q E s:=by
 obtain⟨mb,h1,h2⟩:=I.mod.blt;exact Calls.Name_function_global I.ok.kind hg (Calls.loadGlobal_builtin (by rw[I.ok.glob];exact I.mod.glob.keeps I.bk) hm (by rw[I.ok.blt];exact h1.keeps I.bk) ((h2 x hn).trans hv) h) hd
theorem Ca {x:Str}{v:V}{u:Value}{pos:Pos}(hg:Gl X x) (hm:X.mg x=some u) (r:RelV v u) (hd:(x==("__debug__":Str))=false:=by decide):PE X (.Name x pos) (tC v) :=
 fun _ _ _ H _ I h=>dJ I hg hm ⟨v,H,I,r,h⟩ hd
theorem Cd {x:Str}{v:V}{u:Value}{pos:Pos}(hg:Gl X x) (hm:X.mg x=none) (hv:bootBuiltins x=some u) (r:RelV v u) (hn:x≠"__name__":=by decide) (hd:(x==("__debug__":Str))=false:=by decide):PE X (.Name x pos) (tC v) :=
 fun _ _ _ H _ I h=>eO I hg hm hv ⟨v,H,I,r,h⟩ hn hd
variable {a b:Expr}{ta tb:TE}{pos:Pos}
def tB (t:TE):TT:=fun U H Q=>t U H fun x H1=>∃c,x=.bl c/\Q c H1
theorem HR {e:Expr}{t:TE}(h:PE X e t) (he:∀whole,isTrue e X.env whole=(do let v <- whole;standAt e.pos;holding [v] (truthy v)):=by intro _;rfl):PT X e (tB t):=by
 intro pins s U H Q I hw;refine isTrue_plain (thn (h pins s U H _ I hw) fun v s1 ⟨x,H1,I1,r1,q1⟩=>?_) (he _);obtain⟨d,rfl,q⟩:=q1;cases r1;exact wpAny_truthy_bool ⟨H1,I1,q⟩
variable {tA tB':TT}{rest:List Expr}
def PK (t u:TT):TT:=fun U H Q=>t U H fun c H1=>if c=true then u U H1 Q else Q false H1
def tOr (t u:TT):TT:=fun U H Q=>t U H fun c H1=>if c=true then Q true H1 else u U H1 Q
def PL (t:TT):TT:=fun U H Q=>t U H fun c H1=>Q (!c) H1
theorem Ce (ha:PT X a tA):PW X (.BoolOp .And [a] pos) tA:=by
 intro wh pins s U H Q I h;refine isTrue_and (thn (ha pins s U H Q I h) fun c s1 e=>?_);cases c with
 |true=>exact isTrue_and_nil e
 |false=>exact e
theorem HS (ha:PT X a tA):PW X (.BoolOp .Or [a] pos) tA:=by
 intro wh pins s U H Q I h;refine isTrue_or (thn (ha pins s U H Q I h) fun c s1 e=>?_);cases c with
 |false=>exact isTrue_or_nil e
 |true=>exact e
theorem HW (ha:PT X a tA) (hb:PW X (.BoolOp .And (b::rest) pos) tB'):PW X (.BoolOp .And (a::b::rest) pos) (PK tA tB'):=by
 intro wh pins s U H Q I h;refine isTrue_and (thn (ha pins s U H _ I h) fun c s1 ⟨H1,I1,q1⟩=>?_);cases c with
 |true=>exact hb wh pins s1 U H1 Q I1 q1
 |false=>exact⟨H1,I1,q1⟩
theorem Ln (ha:PT X a tA) (hb:PW X (.BoolOp .Or (b::rest) pos) tB'):PW X (.BoolOp .Or (a::b::rest) pos) (tOr tA tB'):=by
 intro wh pins s U H Q I h;refine isTrue_or (thn (ha pins s U H _ I h) fun c s1 ⟨H1,I1,q1⟩=>?_);cases c with
 |true=>exact⟨H1,I1,q1⟩
 |false=>exact hb wh pins s1 U H1 Q I1 q1
theorem HX (ha:PT X a tA):PT X (.UnaryOp .Not a pos) (PL tA):=by
 intro pins s U H Q I h;exact isTrue_not (ha pins s U H (fun c H1=>Q (!c) H1) I h)
def Lp (ta tb:TE):TE:=fun U H Q=>ta U H fun x H1=>∃c,x=.bl c/\if c=true then tb U H1 Q else Q (.bl false) H1
def Lq (ta:TE):TE:=fun U H Q=>ta U H fun x H1=>∃c,x=.bl c/\Q (.bl (!c)) H1
theorem HY {op}{t:TE}(h:PE X a t):PE X (.BoolOp op [a] pos) t:=fun pins s U H Q I hw=>BoolOp_one (h pins s U H Q I hw)
theorem Ia (ha:PE X a ta) (hb:PE X (.BoolOp .And (b::rest) pos) tb):PE X (.BoolOp .And (a::b::rest) pos) (Lp ta tb):=by
 intro pins s U H Q I h;refine BoolOp_and (thn (ha pins s U H _ I h) fun v s1 ⟨x,H1,I1,r1,q1⟩=>?_);obtain⟨c,rfl,q1⟩:=q1;cases r1;refine wpAny_truthy_bool ?_;cases c with
 |true=>exact hb pins s1 U H1 Q I1 q1
 |false=>exact⟨.bl false,H1,I1,rfl,q1⟩
theorem Ib (ha:PE X a ta):PE X (.UnaryOp .Not a pos) (Lq ta):=by
 intro pins s U H Q I h;refine UnaryOp_ (thn (ha pins s U H _ I h) fun v s1 ⟨x,H1,I1,r1,q1⟩=>?_);obtain⟨c,rfl,q1⟩:=q1;cases r1;exact not_of (wpAny_truthy_bool ⟨.bl (!c),H1,I1,rfl,q1⟩)
end
def SqL (K:Frag) (H:Hp) (a:Addr) (xs:List V):Prop :=
 Rd H a (.lst xs) \/
  ∃(o:Obj) (its:Array Value) (n:Nat),K.lookup a=some o/\o.cls=.type "list"/\o.dict=none/\o.data=.seq its n/\its.size<=sizeLine/\Vals xs its.toList
def SqT (K:Frag) (H:Hp) (a:Addr) (xs:List V):Prop :=
 Rd H a (.tup xs) \/
  ∃(o:Obj) (its:Array Value) (n:Nat),K.lookup a=some o/\o.cls=.type "tuple"/\o.dict=none/\o.data=.seq its n/\its.size<=sizeLine/\Vals xs its.toList
def PN:Value->Option V
 |.none=>some .non
 |.bool b=>some (.bl b)
 |.int i _=>some (.int i)
 |.str x _=>some (.str x)
 |.bytes b _=>some (.byt b)
 |.float b _=>some (.flt b)
 |.ref a=>some (.ref a)
 |.type n=>some (.ty n)
 |_=>none
theorem RelV.abs {x:V}{u:Value}(r:RelV x u):PN u=some x:=by
 cases x with
 |non=>cases r;rfl
 |bl _=>cases r;rfl
 |int _=>obtain⟨t,rfl⟩:=r;rfl
 |str _=>obtain⟨t,rfl⟩:=r;rfl
 |byt _=>obtain⟨t,rfl⟩:=r;rfl
 |flt _=>obtain⟨t,rfl⟩:=r;rfl
 |ref _=>cases r;rfl
 |ty _=>cases r;rfl
theorem RelV.inj {x y:V}{u:Value}(r:RelV x u) (q:RelV y u):x=y:=Option.some.inj (r.abs.symm.trans q.abs)
theorem Vals.inj {xs ys:List V}{us:List Value}(h:Vals xs us) (h':Vals ys us):xs=ys:=by
 induction h generalizing ys with
 |nil=>cases h';rfl
 |cons r t ih =>
 cases h' with
 |cons r' t'=>rw[r.inj r',ih t']
section
variable {X:Cx}{pins:List (Addr × Obj)}{U:St}{H:Hp}{s:Shared}{a:Addr}{xs ys:List V}
theorem SqL.of {K:Frag}(h:H a=some (.lst xs)):SqL K H a xs:=.inl (.inl h)
theorem SqT.of {K:Frag}(h:H a=some (.tup xs)):SqT K H a xs:=.inl (.inl h)
theorem Inv.list (I:Inv X pins U H s) (h:SqL X.K H a xs):∃its:List Value,Vals xs its/\PlainL s.heap a its.toArray/\xs.length<=sizeLine:=by
 rcases h with h | ⟨o,its,n,hk,hc,hd,hs,hz,r⟩
 ·obtain⟨z,its,n,r,e⟩:=h.ok I.hok;exact⟨its,r,⟨_,n,e,rfl,rfl,rfl⟩,z⟩
 refine⟨its.toList,r,⟨o,n,I.kIn a o hk,hc,hd,by simpa using hs⟩,?_⟩;have e:=r.length;simp only[Array.length_toList] at e;omega
theorem Inv.tuple (I:Inv X pins U H s) (h:SqT X.K H a xs):∃its:List Value,Vals xs its/\IsTup s.heap a its.toArray/\xs.length<=sizeLine:=by
 rcases h with h | ⟨o,its,n,hk,hc,_,hs,hz,r⟩
 ·obtain⟨z,its,r,p⟩:=h.ok I.hok;exact⟨its,r,p.is,z⟩
 refine⟨its.toList,r,⟨o,I.kIn a o hk,hc,n,by simpa using hs⟩,?_⟩;have e:=r.length;simp only[Array.length_toList] at e;omega
theorem Inv.list_inj (I:Inv X pins U H s) (h:SqL X.K H a xs) (h':SqL X.K H a ys):xs=ys:=by
 obtain⟨its,r,⟨o,n,e,_,_,d⟩,_⟩:=I.list h;obtain⟨its',r',⟨o',n',e',_,_,d'⟩,_⟩:=I.list h';rw[e] at e';cases e';rw[d] at d';injection d' with d1 _;have:its=its':=by simpa using congrArg Array.toList d1
 subst this;exact r.inj r'
theorem Inv.tuple_inj (I:Inv X pins U H s) (h:SqT X.K H a xs) (h':SqT X.K H a ys):xs=ys:=by
 obtain⟨its,r,⟨o,e,_,n,d⟩,_⟩:=I.tuple h;obtain⟨its',r',⟨o',e',_,n',d'⟩,_⟩:=I.tuple h';rw[e] at e';cases e';rw[d] at d';injection d' with d1 _;have:its=its':=by simpa using congrArg Array.toList d1
 subst this;exact r.inj r'
end
abbrev Cx.wish (X:Cx) (E:Value->Shared->Prop):Cx:={ X with xe:=E}
abbrev Cx.nox (X:Cx):Cx:=X.wish fun _ _=>False
theorem Cx.Ok.wish {X:Cx}(ok:X.Ok) (E:Value->Shared->Prop):(X.wish E).Ok :=
 ⟨ok.mod,ok.kind,ok.glob,ok.blt,ok.above,ok.inj,ok.has,ok.cab,ok.hd,ok.frames,ok.stk,ok.exf,ok.bs,ok.bsz,ok.noex,ok.exfs,ok.funs,ok.frf⟩
theorem Cx.Ok.unwish {X:Cx}{E:Value->Shared->Prop}(ok:(X.wish E).Ok):X.Ok :=
 ⟨ok.mod,ok.kind,ok.glob,ok.blt,ok.above,ok.inj,ok.has,ok.cab,ok.hd,ok.frames,ok.stk,ok.exf,ok.bs,ok.bsz,ok.noex,ok.exfs,ok.funs,ok.frf⟩
section
variable {X:Cx}{pins:List (Addr × Obj)}{U:St}{H:Hp}{s:Shared}{E:Value->Shared->Prop}
theorem Inv.wish (I:Inv X pins U H s) (E:Value->Shared->Prop):Inv (X.wish E) pins U H s:=⟨I.ok.wish E,I.os,I.bare,I.base,I.loc,I.cell,I.free,I.freeC,I.pin,I.hok,I.len⟩
theorem Inv.unwish (I:Inv (X.wish E) pins U H s):Inv X pins U H s:=⟨I.ok.unwish,I.os,I.bare,I.base,I.loc,I.cell,I.free,I.freeC,I.pin,I.hok,I.len⟩
theorem SP.unwish {D:Ends}{f:Flow}{s':Shared}(h:SP (X.wish E) pins D f s'):SP X pins D f s':=by
 cases f with
 |next=>obtain⟨U',H',I,q⟩:=h;exact⟨U',H',I.unwish,q⟩
 |brk=>obtain⟨U',H',I,q⟩:=h;exact⟨U',H',I.unwish,q⟩
 |cont=>obtain⟨U',H',I,q⟩:=h;exact⟨U',H',I.unwish,q⟩
 |ret u=>obtain⟨v,U',H',I,r,q⟩:=h;exact⟨v,U',H',I.unwish,r,q⟩
theorem PE.nox {e:Expr}{t:TE}(h:PE X.nox e t):PE X e t:=fun pins s U H Q I hw =>
 wpAny_mono (h pins s U H Q (I.wish _) hw) (fun _ _ ⟨v,H',I',r,q⟩=>⟨v,H',I'.unwish,r,q⟩) fun _ _ z=>False.elim z
theorem PT.nox {e:Expr}{t:TT}(h:PT X.nox e t):PT X e t:=fun pins s U H Q I hw =>
 wpAny_mono (h pins s U H Q (I.wish _) hw) (fun _ _ ⟨H',I',q⟩=>⟨H',I'.unwish,q⟩) fun _ _ z=>False.elim z
theorem PSs.nox {st:List Stmt}{t:TS}(h:PSs X.nox st t):PSs X st t:=fun pins s U H D I hw =>
 wpAny_mono (h pins s U H D (I.wish _) hw) (fun _ _ q=>q.unwish) fun _ _ z=>False.elim z
variable {st:Stmt}{rest:List Stmt}{t u:TS}{e:Expr}{te:TE}{pos:Pos}
def Lr:TS:=fun D U H=>D.nx U H
def PP (t u:TS):TS:=fun D U H=>t { D with nx:=u D} U H
theorem Cg:PSs X [] Lr:=fun _ _ U H _ I h=>wpAny_execs_nil ⟨U,H,I,h⟩
theorem xN (h1:PS X st t) (h2:PSs X rest u):PSs X (st::rest) (PP t u):=by
 intro pins s U H D I h;refine wpAny_execs_cons (thn (h1 pins s U H { D with nx:=u D} I h) fun f s1 q=>?_);cases f with
 |next=>obtain⟨U',H',I',q⟩:=q;exact h2 pins s1 U' H' D I' q
 |ret v=>exact q
 |brk=>exact q
 |cont=>exact q
theorem jO (h1:PS X st t):PSs X [st] t:=by
 intro pins s U H D I h;refine wpAny_execs_cons (thn (h1 pins s U H D I h) fun f s1 q=>?_);cases f with
 |next=>exact wpAny_execs_nil q
 |ret v=>exact q
 |brk=>exact q
 |cont=>exact q
theorem Inv.quiet {pins:List (Addr × Obj)}{U:St}{H:Hp}{s:Shared}(I:Inv X pins U H s):interactive X.env=false:=by simp [interactive,I.ok.kind]
def Ls (te:TE):TS:=fun D U H=>te U H fun _ H1=>D.nx U H1
theorem Ci (he:PE X e te) (hs:swapsWith e none pos.line X.env=pure false:=by rfl):PS X (.Expr e pos) (Ls te):=by
 intro pins s U H D I h;exact wpAny_Expr_any (thn (he pins s U H _ I h) fun v s1 ⟨x,H1,I1,r1,q1⟩=>⟨U,H1,I1,q1⟩) I.quiet hs
def PQ (te:TE):TS:=fun D U H=>te U H D.rt
theorem Ie (he:PE X e te):PS X (.Return (some e) pos) (PQ te):=by
 intro pins s U H D I h;exact wpAny_Return_some (thn (he pins s U H _ I h) fun v s1 ⟨x,H1,I1,r1,q1⟩=>⟨x,U,H1,I1,r1,q1⟩)
def PX (c:TT) (t u:TS):TS:=fun D U H=>c U H fun b H1=>if b=true then t D U H1 else u D U H1
theorem Lw {c:Expr}{a b:List Stmt}{tc:TT}(hc:PT X c tc) (ha:PSs X a t) (hb:PSs X b u):PS X (.If c a b pos) (PX tc t u):=by
 intro pins s U H D I h;refine wpAny_If (thn (hc pins s U H _ I h) fun d s1 ⟨H1,I1,q1⟩=>?_);cases d with
 |true=>exact ha pins s1 U H1 D I1 q1
 |false=>exact hb pins s1 U H1 D I1 q1
end
abbrev TG:=V->St->Hp->(St->Hp->Prop)->Prop
abbrev TGs:=List V->St->Hp->(St->Hp->Prop)->Prop
def PG (X:Cx) (target:Expr) (t:TG):Prop :=
 ∀(pins:List (Addr × Obj)) (s:Shared) (U:St) (H:Hp) (v:V) (u:Value) (Q:St->Hp->Prop),Inv X pins U H s->RelV v u->t v U H Q ->
  wpAny (model X.prog X.w) X.A (assign target X.env u) (fun _ s'=>∃U' H',Inv X pins U' H' s'/\Q U' H') X.xe s
def PGs (X:Cx) (ts:List Expr) (t:TGs):Prop :=
 ∀(pins:List (Addr × Obj)) (s:Shared) (U:St) (H:Hp) (vs:List V) (us:List Value) (Q:St->Hp->Prop),Inv X pins U H s->Vals vs us->t vs U H Q ->
  wpAny (model X.prog X.w) X.A (assignInOrder ((assignEach ts X.env).map (·.2)) us) (fun _ s'=>∃U' H',Inv X pins U' H' s'/\Q U' H') X.xe s
abbrev xO:=V->V->V->Hp->(Hp->Prop)->Prop
def PSet (X:Cx) (t:xO):Prop :=
 ∀(pins:List (Addr × Obj)) (s:Shared) (U:St) (H:Hp) (o i v:V) (ov iv u:Value) (Q:Hp->Prop),Inv X pins U H s->RelV o ov->RelV i iv->RelV v u->t o i v H Q ->
  wpAny (model X.prog X.w) X.A (setItem ov iv u) (fun _ s'=>∃H',Inv X pins U H' s'/\Q H') X.xe s
section
variable {X:Cx}{pos:Pos}
def FZ (i:Nat):TG:=fun v U H Q=>Q (U.set i (some v)) H
theorem Cj {i:Nat}{x:Str}(hN:X.N.Nodup) (hi:X.N[i]?=some x) (hx:Loc X.env.scope x) (hf:X.fn x=true\/X.env.scope.names.lookup x=some .local:=by first | exact .inl rfl | exact .inr rfl | assumption):PG X (.Name x pos) (FZ i):=by
 intro pins s U H v u Q I r h;exact wpAny_assign_Name (qp I hN hi hx r (fun s' I'=>⟨_,H,I',h⟩) hf)
def P0:TGs:=fun vs U H Q=>vs=[]/\Q U H
def Lx (t:TG) (u:TGs):TGs:=fun vs U H Q=>∃v r,vs=v::r/\t v U H fun U' H'=>u r U' H' Q
theorem Ck:PGs X [] P0:=by
 intro pins s U H vs us Q I r h;obtain⟨e,h⟩:=h;subst e;cases r;exact assignInOrder_nil ⟨U,H,I,h⟩
theorem xP {e:Expr}{es:List Expr}{t:TG}{u:TGs}(h1:PG X e t) (h2:PGs X es u)
  (hs:(assignEach (e::es) X.env).map (·.2)=assign e X.env::(assignEach es X.env).map (·.2):=by rfl):PGs X (e::es) (Lx t u):=by
 intro pins s U H vs us Q I r h;obtain⟨v,vr,e1,h⟩:=h;subst e1;cases r with
 |cons r rr =>
 rw[hs];refine assignInOrder_cons (thn (h1 pins s U H _ _ _ I r h) fun _ s1 ⟨U1,H1,I1,q1⟩=>?_);exact h2 pins s1 U1 H1 _ _ Q I1 rr q1
def Qa (K:Frag) (n:Nat) (t:TGs):TG:=fun v U H Q=>∃a xs,v=.ref a/\SqT K H a xs/\xs.length=n/\t xs U H Q
theorem Ig {es:List Expr}{k:Nat}{t:TGs}{n:Nat}(hc:X.calm=true) (h:PGs X es t)
  (hn:(assignEach es X.env).length=n:=by rfl) (hst:(assignEach es X.env).findIdx? (·.1)=none:=by rfl):PG X (.Tuple es k pos) (Qa X.K n t):=by
 intro pins s U H v u Q I r hw;obtain⟨a,xs,e1,hq,hl,hw⟩:=hw;subst e1;cases r;obtain⟨its,rv,ht,hz⟩:=I.tuple hq;refine assign_Tuple_tuple (I.ok.hd hc) ht (by simp [hn,<- hl,rv.length]) hst fun h' hx=>?_;have I1:Inv X pins U H { s with heap:=h'}:=I.kept (t':=s.toks) fun b o e=>hx b o (Nat.ne_of_lt (Heap.lt_size e)) e;exact h pins _ U H xs _ Q I1 (by simpa using rv) hw
def Qc (to ti:TE) (t:xO):TG:=fun v U H Q=>to U H fun o H1=>ti U H1 fun i H2=>t o i v H2 fun H3=>Q U H3
theorem Ih {o i:Expr}{to ti:TE}{t:xO}(ho:PE X o to) (hi:PE X i ti) (hs:PSet X t)
  (ha:∀v,assign (.Subscript o i pos) X.env v=(do
   let ov <- holding [v] (eval o X.env)
   let iv <- holding [v,ov] (eval i X.env)
   standAt pos
   holding [v,ov,iv] (setItem ov iv v)
   release [v,ov,iv] []):=by intro _;rfl):PG X (.Subscript o i pos) (Qc to ti t):=by
 intro pins s U H v u Q I r h;rw[ha];refine wpAny_bind (wpAny_holding (thn (ho pins s U H _ I h) fun ov s1 ⟨x,H1,I1,r1,q1⟩=>?_));refine wpAny_bind (wpAny_holding (thn (hi pins s1 U H1 _ I1 q1) fun iv s2 ⟨y,H2,I2,r2,q2⟩=>?_));refine wpAny_bind (wpAny_standAt (wpAny_bind (wpAny_holding (thn (hs pins s2 U H2 x y v ov iv u _ I2 r1 r2 r q2) fun _ s3 ⟨H3,I3,q3⟩=>?_))));exact wpAny_release ⟨U,H3,I3,q3⟩
def Ly (te:TE) (g:TG):TS:=fun D U H=>te U H fun x H1=>g x U H1 D.nx
theorem Ii {tg e:Expr}{te:TE}{g:TG}(he:PE X e te) (hg:PG X tg g) (hs:swapsWithSole [tg] e pos.line X.env=pure false:=by rfl) (hw:swappedStores [tg] e X.env=pure none:=by rfl)
  (h1:(assignEach [tg] X.env).map (·.2)=[assign tg X.env]:=by rfl):PS X (.Assign [tg] e pos) (Ly te g):=by
 intro pins s U H D I h;refine wpAny_Assign_stores (thn (he pins s U H _ I h) fun v s1 ⟨x,H1,I1,r1,q1⟩=>?_) hs hw;rw[h1];exact thn (hg pins s1 U H1 x v _ I1 r1 q1) fun _ s2 q=>q
theorem Ij {i:Nat}{x:Str}{e:Expr}{te:TE}{pos':Pos}(hN:X.N.Nodup) (hi:X.N[i]?=some x) (hx:Loc X.env.scope x) (he:PE X e te) (hs:swapsWith e (some (.Name x pos')) pos.line X.env=pure false:=by rfl) (hf:X.fn x=true\/X.env.scope.names.lookup x=some .local:=by first | exact .inl rfl | exact .inr rfl | assumption) :
  PS X (.Assign [.Name x pos'] e pos) (Ly te (FZ i)):=by
 intro pins s U H D I h;refine wpAny_Assign_Name (thn (he pins s U H _ I h) fun v s1 ⟨y,H1,I1,r1,q1⟩=>?_) hs;exact qp I1 hN hi hx r1 (fun s2 I2=>⟨_,H1,I2,q1⟩) hf
def Ik (c:TT) (tb:TS):TS:=fun D U H=>∃W:Nat->St->Hp->Prop,(∃m,W m U H)/\∀m U H,W m U H ->
 c U H fun b H1=>if b=true then ∃N:St->Hp->Prop,(∀U' H',N U' H'->∃m',m'<m/\W m' U' H')/\tb { D with nx:=N,ct:=N,bk:=D.nx} U H1 else D.nx U H1
theorem xQ {c:Expr}{body:List Stmt}{tc:TT}{tb:TS}(hp:PassesOwn (model X.prog X.w) X.A X.env X.xe) (hc:PT X c tc) (hb:PSs X body tb):PS X (.While c body [] pos) (Ik tc tb):=by
 intro pins s U H D I h;obtain⟨W,⟨m0,w0⟩,turn⟩:=h;refine wpAny_While (codeAny_whileLoop (fun n s'=>∃U' H',Inv X pins U' H' s'/\W n U' H') ?_ m0 ⟨U,H,I,w0⟩);rintro n s1 ⟨U1,H1,I1,w1⟩;refine wpAny_passesOwn hp (thn (hc pins s1 U1 H1 _ I1 (turn n U1 H1 w1)) fun b s2 ⟨H2,I2,q2⟩=>?_);cases b with
 |true =>
  obtain⟨N,hN,q2⟩:=q2;rw[if_pos rfl];refine wpAny_passesOwn hp (thn (hb pins s2 U1 H2 _ I2 q2) fun f s3 q3=>?_);cases f with
  |next=>obtain⟨U3,H3,I3,n3⟩:=q3;obtain⟨m',hm,w3⟩:=hN U3 H3 n3;exact⟨m',hm,U3,H3,I3,w3⟩
  |cont=>obtain⟨U3,H3,I3,n3⟩:=q3;obtain⟨m',hm,w3⟩:=hN U3 H3 n3;exact⟨m',hm,U3,H3,I3,w3⟩
  |brk=>exact q3
  |ret v=>exact q3
 |false =>
 rw[if_neg Bool.false_ne_true];exact wpAny_execs_nil ⟨U1,H2,I2,q2⟩
end
structure It where
 go:Nat->Hp->Prop
 yld:Nat->Hp->V->Hp->Prop
 stop:Nat->Hp->Prop
def j5 (X:Cx) (pins:List (Addr × Obj)) (H:Hp) (b:Addr):Prop :=
 H b=none/\b≠X.env.locals/\b∉X.fs/\(b∈X.ex\/X.s₀.heap.objs.size<=b)/\(∀x c,X.env.cells.lookup x=some c->c≠b)/\∀p∈X.pn++pins,p.1≠b
theorem Inv.fpOk {X:Cx}{pins:List (Addr × Obj)}{U:St}{H H':Hp}{s:Shared}{b:Addr}(I:Inv X pins U H s) (hb:s.heap.objs.size<=b) (hn:H' b=none):j5 X pins H' b:=by
 refine⟨hn,Nat.ne_of_gt (Nat.lt_of_lt_of_le I.lt hb),I.nofs hb,.inr (Nat.le_trans I.sz hb),fun x c e z=>?_,fun p hp z=>?_⟩
 ·obtain⟨v,q⟩:=I.cell x c e;exact absurd (Nat.lt_of_lt_of_le q.lt (by rw[z];exact hb)) (Nat.lt_irrefl _)
 exact absurd (Nat.lt_of_lt_of_le (Heap.lt_size (I.pin p hp).1) (by rw[z];exact hb)) (Nat.lt_irrefl _)
structure Turn (P:Program) (w:World) (K:Frag) (tg:Expr) (J:It) (fp:List Addr) (it:Addr) (tn:Nat->Heap->Prop):Prop where
 mem:it∈fp
 obj:∀i h,tn i h->∀b∈fp,∃o,h.get? b=some o/\∀v,o.data≠.cell v
 keep:∀i h h',tn i h->(∀b∈fp,∀o,h.get? b=some o->h'.get? b=some o)->tn i h'
 item:∀(X:Cx),X.prog=P->X.w=w->X.K=K->X.calm=true->∀(i:Nat) (pins:List (Addr × Obj)) (s:Shared) (U:St) (H:Hp) (E:Value->Shared->Prop),Inv X pins U H s->(∀b∈fp,j5 X pins H b)->tn i s.heap->J.go i H ->
  wpAny (model P w) X.A (pyNext (.ref it)) (fun r s1=>∃u,r=some u /\
   wpAny (model P w) X.A (letOwnedTupleGo tg (.ref it) u) (fun _ s2=>∃x H',Inv X pins U H' s2/\RelV x u/\J.yld i H x H'/\tn (i+1) s2.heap/\∀b∈fp,H' b=none) E s1) E s
 done:∀(X:Cx),X.prog=P->X.w=w->X.K=K->X.calm=true->∀(i:Nat) (pins:List (Addr × Obj)) (s:Shared) (U:St) (H:Hp) (E:Value->Shared->Prop),Inv X pins U H s->(∀b∈fp,j5 X pins H b)->tn i s.heap->J.stop i H ->
  wpAny (model P w) X.A (pyNext (.ref it)) (fun r s1=>r=none/\Inv X pins U H s1) E s
 self:∀(A:Around) (i:Nat) (s:Shared) (Q:Value->Shared->Prop) (E:Value->Shared->Prop),tn i s.heap->Q (.ref it) s->wpAny (model P w) A (pyIter (.ref it)) Q E s
abbrev TI:=St->Hp->(It->Hp->Prop)->Prop
def PIE (X:Cx) (pins:List (Addr × Obj)) (U:St) (tg:Expr) (R:It->Hp->Prop) (itv:Value) (s2:Shared):Prop :=
 ∃(it:Addr) (fp:List Addr) (tn:Nat->Heap->Prop) (J:It) (H':Hp),itv=.ref it/\Inv X pins U H' s2/\Turn X.prog X.w X.K tg J fp it tn/\tn 0 s2.heap/\(∀b∈fp,j5 X pins H' b)/\R J H'
def PI (X:Cx) (tg iter:Expr) (wi:TI):Prop :=
 ∀(pins:List (Addr × Obj)) (s:Shared) (U:St) (H:Hp) (R:It->Hp->Prop),Inv X pins U H s->wi U H R ->
  wpAny (model X.prog X.w) X.A (eval iter X.env) (fun v s1=>wpAny (model X.prog X.w) X.A (pyIter v) (PIE X pins U tg R) X.xe s1) X.xe s
theorem qt {M:Model}{A:Around}{E:Value->Shared->Prop}{s:Shared}{tg:Expr}{it:Addr}{u:Value}{o:Obj}{n:String}{vs:Array Value}{Q:Unit->Shared->Prop}(ho:s.heap.get? it=some o) (hc:o.cls=.type n) (hd:o.data=.fields vs)
  (hn:["enumerate","zip","dict_itemiterator","dict_reverseitemiterator","odict_iterator","itertools.zip_longest","itertools.pairwise"].contains n=false) (hQ:Q () s):wpAny M A (letOwnedTupleGo tg (.ref it) u) Q E s:=by
 unfold letOwnedTupleGo;cases tg <;> first
  |exact wpAny_pure hQ
  | (cases u <;> first
    |exact wpAny_pure hQ
    | (refine wpAny_bind (wpAny_load ho ?_)
       rw[hc,hd]
       show wpAny M A (if (["enumerate","zip","dict_itemiterator","dict_reverseitemiterator","odict_iterator","itertools.zip_longest","itertools.pairwise"].contains n&&vs[0]?==some (rawInt _))=true then _ else _) Q E s
       rw[if_neg (by intro h;rw[hn,Bool.false_and] at h;cases h)]
       exact wpAny_pure hQ))
def Itl (K:Frag) (a:Addr):It :=
 ⟨fun i H=>∃xs x,SqL K H a xs/\xs[i]?=some x,fun i H x H'=>H'=H/\∀xs,SqL K H a xs->xs[i]?=some x,fun i H=>∃xs,SqL K H a xs/\xs.length<=i⟩
def Itt (K:Frag) (a:Addr):It :=
 ⟨fun i H=>∃xs x,SqT K H a xs/\xs[i]?=some x,fun i H x H'=>H'=H/\∀xs,SqT K H a xs->xs[i]?=some x,fun i H=>∃xs,SqT K H a xs/\xs.length<=i⟩
def Itr (lo:Int) (n:Nat):It:=⟨fun i _=>i<n,fun i H x H'=>H'=H/\x=.int (lo+i),fun i _=>n<=i⟩
theorem wy {P:Program}{w:World}{K:Frag}{tg:Expr}(a it:Addr):Turn P w K tg (Itl K a) [it] it (fun i h=>h.IsListIter it a i) where
 mem:=by simp
 obj:=fun i h st b hb=>by
  have e:b=it:=by simpa using hb
  subst e
  obtain⟨o,e,c,d⟩:=st
  exact⟨o,e,fun v z=>by rw[d] at z;cases z⟩
 keep:=fun i h h' st k=>st.at fun o e=>k it (by simp) o e
 item:=by
  intro X hP hw hK hc i pins s U H E I hf st hg
  subst hP hw hK
  obtain⟨xs,x,hq,hx⟩:=hg
  obtain⟨its,rv,p,hz⟩:=I.list hq
  obtain⟨u,hu,ru⟩:=rv.get hx
  obtain⟨f0,f1,f2,f3,f4,f5⟩:=hf it (by simp)
  refine wpAny_pyNext_list_item st p.isList (x:=u) (by simpa using hu) fun h' st' sb=>?_
  have I1:Inv X pins U H { s with heap:=h'}:=I.turned (t':=s.toks) (fun b o hb e=>(sb.2 b hb).trans e) f0 f1 f3 f4 f5
  obtain⟨o,e,c,d⟩:=id st'
  exact⟨u,rfl,qt (s:={ s with heap:=h'}) e c d (by decide) ⟨x,H,I1,ru,⟨rfl,fun ys hy=>by rw[I.list_inj hy hq];exact hx⟩,st',fun b hb=>(hf b hb).1⟩⟩
 done:=by
  intro X hP hw hK hc i pins s U H E I hf st hg
  subst hP hw hK
  obtain⟨xs,hq,hx⟩:=hg
  obtain⟨its,rv,p,hz⟩:=I.list hq
  obtain⟨f0,f1,f2,f3,f4,f5⟩:=hf it (by simp)
  have hl:=rv.length
  exact wpAny_pyNext_list_end (I.ok.hd hc) st p.isList (by simp;omega) fun h' eb=>⟨rfl,I.turned (t':=s.toks) (fun b o hb e=>eb b o hb e) f0 f1 f3 f4 f5⟩
 self:=fun _ _ _ _ _ st h=>wpAny_pyIter_listiter st h
theorem sH {P:Program}{w:World}{K:Frag}{tg:Expr}(a it:Addr):Turn P w K tg (Itt K a) [it] it (fun i h=>h.IsTupleIter it a i) where
 mem:=by simp
 obj:=fun i h st b hb=>by
  have e:b=it:=by simpa using hb
  subst e
  obtain⟨o,e,c,d⟩:=st
  exact⟨o,e,fun v z=>by rw[d] at z;cases z⟩
 keep:=fun i h h' st k=>st.at fun o e=>k it (by simp) o e
 item:=by
  intro X hP hw hK hc i pins s U H E I hf st hg
  subst hP hw hK
  obtain⟨xs,x,hq,hx⟩:=hg
  obtain⟨its,rv,p,hz⟩:=I.tuple hq
  obtain⟨u,hu,ru⟩:=rv.get hx
  obtain⟨f0,f1,f2,f3,f4,f5⟩:=hf it (by simp)
  refine wpAny_pyNext_tuple_item st (show s.heap.IsTuple a its.toArray from p) (x:=u) (by simpa using hu) fun h' st' sb=>?_
  have I1:Inv X pins U H { s with heap:=h'}:=I.turned (t':=s.toks) (fun b o hb e=>(sb.2 b hb).trans e) f0 f1 f3 f4 f5
  obtain⟨o,e,c,d⟩:=id st'
  exact⟨u,rfl,qt (s:={ s with heap:=h'}) e c d (by decide) ⟨x,H,I1,ru,⟨rfl,fun ys hy=>by rw[I.tuple_inj hy hq];exact hx⟩,st',fun b hb=>(hf b hb).1⟩⟩
 done:=by
  intro X hP hw hK hc i pins s U H E I hf st hg
  subst hP hw hK
  obtain⟨xs,hq,hx⟩:=hg
  obtain⟨its,rv,p,hz⟩:=I.tuple hq
  obtain⟨f0,f1,f2,f3,f4,f5⟩:=hf it (by simp)
  have hl:=rv.length
  exact wpAny_pyNext_tuple_end (I.ok.hd hc) st (show s.heap.IsTuple a its.toArray from p) (by simp;omega) fun h' eb=>⟨rfl,I.turned (t':=s.toks) (fun b o hb e=>eb b o hb e) f0 f1 f3 f4 f5⟩
 self:=fun _ _ _ _ _ st h=>wpAny_pyIter_tupleiter st h
theorem sS {P:Program}{w:World}{K:Frag}{tg:Expr}(it:Addr) (lo:Int) (n:Nat):Turn P w K tg (Itr lo n) [it] it (fun i h=>IsRangeIter h it (lo+(i:Nat)*1) ((n:Int) - (i:Nat)) 1) where
 mem:=by simp
 obj:=fun i h st b hb=>by
  have e:b=it:=by simpa using hb
  subst e
  exact⟨_,st,fun v z=>by
   have z':Data.fields _=Data.cell v:=z
   cases z'⟩
 keep:=fun i h h' st k=>k it (by simp) _ st
 item:=by
  intro X hP hw hK hc i pins s U H E I hf st hg
  subst hP hw hK
  obtain⟨f0,f1,f2,f3,f4,f5⟩:=hf it (by simp)
  have W:=Walks.range (prog:=X.prog) (w:=X.w) (I.ok.hd hc) it lo 1 n
  refine W.item i s _ _ hg st fun v h' tk hv st' kk=>?_
  obtain⟨t,rfl⟩:=hv
  have I1:Inv X pins U H { s with heap:=h',toks:=tk}:=I.turned (fun b o hb e=>kk b o (by simpa using hb) e) f0 f1 f3 f4 f5
  refine⟨_,rfl,qt (s:={ s with heap:=h',toks:=tk}) (n:="range_iterator") st' rfl rfl (by decide) ⟨.int (lo+i),H,I1,⟨t,?_⟩,⟨rfl,rfl⟩,st',fun b hb=>(hf b hb).1⟩⟩
  rw[Int.mul_one]
 done:=by
  intro X hP hw hK hc i pins s U H E I hf st hg
  subst hP hw hK
  obtain⟨f0,f1,f2,f3,f4,f5⟩:=hf it (by simp)
  exact wpAny_pyNext_range_end (I.ok.hd hc) st (by have:n<=i:=hg;omega) fun h' eb=>⟨rfl,I.turned (t':=s.toks) (fun b o hb e=>eb b o hb e) f0 f1 f3 f4 f5⟩
 self:=fun _ _ _ _ _ st h=>wpAny_pyIter_rangeiter st h
section
variable {X:Cx}{tg:Expr}
def Lz (K:Frag) (tl:TE):TI:=fun U H R=>tl U H fun x H1=>∃a,x=.ref a/\(∃xs,SqL K H1 a xs)/\R (Itl K a) H1
def Qd (K:Frag) (tl:TE):TI:=fun U H R=>tl U H fun x H1=>∃a,x=.ref a/\(∃xs,SqT K H1 a xs)/\R (Itt K a) H1
theorem Cm {l:Expr}{tl:TE}(hl:PE X l tl):PI X tg l (Lz X.K tl):=by
 intro pins s U H R I h;refine thn (hl pins s U H _ I h) fun v s1 ⟨x,H1,I1,r1,q1⟩=>?_;obtain⟨a,e,⟨xs,hq⟩,q⟩:=q1;subst e;cases r1;obtain⟨its,rv,p,hz⟩:=I1.list hq;refine wpAny_pyIter_list p.isList ?_;refine⟨s1.heap.objs.size,[s1.heap.objs.size],_,_,H1,rfl,I1.kept (t':=s1.toks) fun b o e=>Heap.get?_push_of_some _ e,wy a _,⟨_,Heap.get?_push_size _ rfl,rfl,rfl⟩,fun b hb=>?_,q⟩;have e:b=s1.heap.objs.size:=by simpa using hb
 subst e;exact I1.fpOk (Nat.le_refl _) (I1.hok.fresh (Nat.le_refl _))
theorem Il {l:Expr}{tl:TE}(hl:PE X l tl):PI X tg l (Qd X.K tl):=by
 intro pins s U H R I h;refine thn (hl pins s U H _ I h) fun v s1 ⟨x,H1,I1,r1,q1⟩=>?_;obtain⟨a,e,⟨xs,hq⟩,q⟩:=q1;subst e;cases r1;obtain⟨its,rv,p,hz⟩:=I1.tuple hq;refine wpAny_pyIter_tuple (show s1.heap.IsTuple a its.toArray from p) ?_;refine⟨s1.heap.objs.size,[s1.heap.objs.size],_,_,H1,rfl,I1.kept (t':=s1.toks) fun b o e=>Heap.get?_push_of_some _ e,sH a _,⟨_,Heap.get?_push_size _ rfl,rfl,rfl⟩,fun b hb=>?_,q⟩;have e:b=s1.heap.objs.size:=by simpa using hb
 subst e;exact I1.fpOk (Nat.le_refl _) (I1.hok.fresh (Nat.le_refl _))
theorem xR {pins:List (Addr × Obj)}{U:St}{H:Hp}{s:Shared}{R:It->Hp->Prop}{E:Value->Shared->Prop}{lo hi:Int}{t u v:Tok}{tk:Nat}(I:Inv X pins U H s) (h1 : -(2^62)<=lo) (h2:lo<2^62) (h3 : -(2^62)<=hi) (h4:hi<2^62)
  (q:R (Itr lo (hi - lo).toNat) H):wpAny (model X.prog X.w) X.A (pyIter (.ref s.heap.objs.size)) (PIE X pins U tg R) E { s with heap:=s.heap.push { cls:=.type "range",data:=.fields #[.int lo t,.int hi u,.int 1 v]},toks:=tk}:=by
 refine wpAny_pyIter_range (IsRange.new ..) (small_one h1 h2 h3 h4) ?_;have I1:Inv X pins U H { s with heap:=s.heap.push { cls:=.type "range",data:=.fields #[.int lo t,.int hi u,.int 1 v]},toks:=tk}:=I.kept fun b o e=>Heap.get?_push_of_some _ e;refine⟨(s.heap.push { cls:=.type "range",data:=.fields #[.int lo t,.int hi u,.int 1 v]}).objs.size,[(s.heap.push { cls:=.type "range",data:=.fields #[.int lo t,.int hi u,.int 1 v]}).objs.size],_,_,H,rfl,
  I1.kept (t':=tk) fun b o e=>Heap.get?_push_of_some _ e,sS _ lo (hi - lo).toNat,?_,fun b hb=>?_,q⟩
 ·have e1:lo+((0:Nat):Int)*1=lo:=by simp
  have e2:(((hi - lo).toNat:Nat):Int) - ((0:Nat):Int)=Builtin.Range.rangeSize lo hi 1:=by rw[rangeSize_one];split <;> omega
  show IsRangeIter _ _ (lo+((0:Nat):Int)*1) ((((hi - lo).toNat:Nat):Int) - ((0:Nat):Int)) 1;rw[e1,e2];exact Heap.get?_push_size _ rfl
 have e:b=(s.heap.push { cls:=.type "range",data:=.fields #[.int lo t,.int hi u,.int 1 v]}).objs.size:=by simpa using hb
 subst e;exact I1.fpOk (Nat.le_refl _) (I1.hok.fresh (Nat.le_refl _))
def LC (ta:TA):TI:=fun U H R=>ta U H fun vs H1=>∃j:Int,vs=[.int j] /\ -(2^62)<=j/\j<2^62/\R (Itr 0 j.toNat) H1
theorem wz {a:Expr}{ta:TA}{p pos:Pos}(hg:Gl X "range") (hm:X.mg "range"=none) (ha:PA X [a] ta) (hs:starEach [a] X.env=[(false,eval a X.env)]:=by rfl):PI X tg (.Call (.Name "range" p) [a] [] pos) (LC ta):=by
 intro pins s U H R I h;refine Call_ (eO I hg hm boot_range (PyProof.Rows.callWith_type1 (thn (ha pos pins s U H _ I h) fun us s1 ⟨vs,H1,I1,r1,q1⟩=>?_) hs rfl));obtain⟨j,e,q1,q2,q⟩:=q1;subst e;cases r1 with
 |cons r rr =>
 cases rr;obtain⟨t,rfl⟩:=r;exact call_range_1 (xR I1 (by omega) (by omega) q1 q2 (by simpa using q))
def Qe (wi:TI) (g:TG) (tb:TS):TS:=fun D U H=>wi U H fun J H1=>∃W:Nat->Nat->St->Hp->Prop,(∃m,W 0 m U H1)/\∀i m U H,W i m U H ->
 (J.stop i H/\D.nx U H)\/(J.go i H/\∃N:St->Hp->Prop,(∀U' H',N U' H'->∃m',m'<m/\W (i+1) m' U' H')/\∀x H',J.yld i H x H'->g x U H' fun U2 H2=>tb { D with nx:=N,ct:=N,bk:=D.nx} U2 H2)
def j6 (fp : List Addr) (h : Heap) : List (Addr × Obj):=fp.filterMap fun b => (h.get? b).map fun o => (b,o)
theorem dM {fp : List Addr} {h : Heap} {b : Addr} {o : Obj} (hb : b ∈ fp) (e : h.get? b = some o) : (b,o) ∈ j6 fp h:=List.mem_filterMap.mpr ⟨b,hb,by rw [e]; rfl⟩
theorem wA {fp:List Addr}{h:Heap}{p:Addr × Obj}(hp:p∈j6 fp h):p.1∈fp/\h.get? p.1=some p.2:=by
 obtain ⟨b,hb,e⟩:=List.mem_filterMap.mp hp;cases q : h.get? b with
 |none=>rw[q] at e;cases e
 |some o =>
 rw[q] at e;have e':(b,o)=p:=Option.some.inj e;subst e';exact⟨hb,q⟩
theorem Inv.pinned {pins:List (Addr × Obj)}{U:St}{H:Hp}{s:Shared}{fp:List Addr}(I:Inv X pins U H s) (hf:∀b∈fp,j5 X pins H b) (ho:∀b∈fp,∃o,s.heap.get? b=some o/\∀v,o.data≠.cell v):Inv X (pins++j6 fp s.heap) U H s :=
 I.pins_of fun p hp=>(List.mem_append.mp hp).elim (fun z=>I.pin p (List.mem_append_right _ z)) fun z=>by
  obtain⟨hb,e⟩:=wA z;obtain⟨f0,f1,f2,_⟩:=hf p.1 hb;obtain⟨o,e',d⟩:=ho p.1 hb;rw[e] at e';cases e';exact⟨e,f0,f1,f2,d⟩
theorem Inv.unpinned {pins pl:List (Addr × Obj)}{U:St}{H:Hp}{s:Shared}(I:Inv X (pins++pl) U H s):Inv X pins U H s:=I.pins_of fun p hp=>I.pin p (List.mem_append_right _ (List.mem_append_left _ hp))
theorem Im {iter:Expr}{body:List Stmt}{wi:TI}{g:TG}{tb:TS}{pos:Pos}(hp:PassesOwn (model X.prog X.w) X.A X.env X.xe) (hc:X.calm=true) (hi:PI X tg iter wi) (hg:PG X tg g) (hb:PSs X body tb)
  (hs:∀x,foldedSetIterable iter X.env x=pure x:=by intro _;rfl):PS X (.For tg iter body [] pos) (Qe wi g tb):=by
 intro pins s U H D I h;refine wpAny_For (thn (hi pins s U H _ I h) fun v s1 h1=>thn h1 fun itv s2 h2=>?_) hs;obtain⟨it,fp,tn,J,H2,e,I2,T,st2,f2,W,⟨m0,w0⟩,turn⟩:=h2;subst e
 have stat:∀{H':Hp},(∀b∈fp,H' b=none)->∀b∈fp,j5 X pins H' b:=fun hn b hb=>⟨hn b hb,(f2 b hb).2⟩;refine codeAny_forLoop_any (fun n s'=>∃i U' H',Inv X pins U' H' s'/\tn i s'.heap/\(∀b∈fp,H' b=none)/\W i n U' H') ?_ m0 ⟨0,U,H2,I2,st2,fun b hb=>(f2 b hb).1,w0⟩;rintro n s3 ⟨i,U3,H3,I3,st3,fr3,w3⟩;rcases turn i n U3 H3 w3 with ⟨stop,qn⟩ | ⟨go,N,hN,step⟩
 ·refine wpAny_passesOwn hp (thn (T.done X rfl rfl rfl hc i pins s3 U3 H3 X.xe I3 (stat fr3) st3 stop) fun r s4 ⟨hr,I4⟩=>?_);subst hr;exact wpAny_execs_nil ⟨U3,H3,I4,qn⟩
 refine wpAny_passesOwn hp (thn (T.item X rfl rfl rfl hc i pins s3 U3 H3 X.xe I3 (stat fr3) st3 go) fun r s4 ⟨u,hr,h4⟩=>?_);subst hr;refine wpAny_passesOwn hp (thn h4 fun _ s5 ⟨x,H5,I5,r5,y5,st5,fr5⟩=>?_);have I5':=I5.pinned (stat fr5) (T.obj _ _ st5);refine wpAny_passesOwn hp (thn (hg _ s5 U3 H5 x u _ I5' r5 (step x H5 y5)) fun _ s6 ⟨U6,H6,I6,q6⟩=>?_);refine wpAny_passesOwn hp (thn (hb _ s6 U6 H6 _ I6 q6) fun f s7 q7=>?_);have again:∀{U7:St} {H7:Hp},Inv X (pins++j6 fp s5.heap) U7 H7 s7->N U7 H7->∃m,m<n/\∃i U' H',Inv X pins U' H' s7/\tn i s7.heap/\(∀b∈fp,H' b=none)/\W i m U' H':=fun {U7 H7} I7 n7=>by obtain⟨m',hm,w7⟩:=hN U7 H7 n7;refine⟨m',hm,i+1,U7,H7,I7.unpinned,T.keep _ _ _ st5 fun b hb o e=>(I7.pin (b,o) (List.mem_append_right _ (List.mem_append_right _ (dM hb e)))).1,fun b hb=>?_,w7⟩;obtain⟨o,e,d⟩:=T.obj _ _ st5 b hb;exact (I7.pin (b,o) (List.mem_append_right _ (List.mem_append_right _ (dM hb e)))).2.1
 cases f with
 |next=>obtain⟨U7,H7,I7,n7⟩:=q7;exact again I7 n7
 |cont=>obtain⟨U7,H7,I7,n7⟩:=q7;exact again I7 n7
 |brk=>obtain⟨U7,H7,I7,q7⟩:=q7;exact⟨U7,H7,I7.unpinned,q7⟩
 |ret v=>obtain⟨x7,U7,H7,I7,r7,q7⟩:=q7;exact⟨x7,U7,H7,I7.unpinned,r7,q7⟩
end
abbrev R2:=V->V->Hp->VK->Prop
def OpR (X:Cx) (f:Value->Value->Sem Value) (r:R2):Prop :=
 ∀(pins:List (Addr × Obj)) (s:Shared) (U:St) (H:Hp) (x y:V) (v u:Value) (Q:VK),Inv X pins U H s->RelV x v->RelV y u->r x y H Q ->
  wpAny (model X.prog X.w) X.A (f v u) (EP X pins U Q) X.xe s
def CallR (X:Cx) (f:Value) (r:List V->Hp->VK->Prop):Prop :=
 ∀(pins:List (Addr × Obj)) (s:Shared) (U:St) (H:Hp) (xs:List V) (us:List Value) (Q:VK),Inv X pins U H s->Vals xs us->r xs H Q ->
  wpAny (model X.prog X.w) X.A (call f us) (EP X pins U Q) X.xe s
def tOp (r:R2) (ta tb:TE):TE:=fun U H Q=>ta U H fun x H1=>tb U H1 fun y H2=>r x y H2 Q
def rI (C:Int->Int->Prop) (g:Int->Int->V):R2:=fun x y H Q=>∃i j,x=.int i/\y=.int j/\C i j/\Q (g i j) H
def rI0 (g:Int->Int->V):R2:=fun x y H Q=>∃i j,x=.int i/\y=.int j/\Q (g i j) H
section
variable {X:Cx}{a b c:Expr}{ta tb tc:TE}{pos:Pos}
theorem Io (ha:PE X a ta) (hb:PE X b tb) {pins:List (Addr × Obj)}{s:Shared}{U:St}{H:Hp}{R:V->V->Hp->Prop}(I:Inv X pins U H s)
  (h:ta U H fun x H1=>tb U H1 fun y H2=>R x y H2) {Q:Value->Shared->Prop} {f:Value->Value->Sem Value}
  (hf:∀v u s2 x y H2,Inv X pins U H2 s2->RelV x v->RelV y u->R x y H2->wpAny (model X.prog X.w) X.A (f v u) Q X.xe s2) :
  wpAny (model X.prog X.w) X.A (eval a X.env) (fun v s₁=>wpAny (model X.prog X.w) X.A (eval b X.env) (fun u s₂=>wpAny (model X.prog X.w) X.A (f v u) Q X.xe s₂) X.xe s₁) X.xe s:=by
 refine thn (ha pins s U H _ I h) fun v s1 ⟨x,H1,I1,r1,q1⟩=>?_;refine thn (hb pins s1 U H1 _ I1 q1) fun u s2 ⟨y,H2,I2,r2,q2⟩=>?_;exact hf v u s2 x y H2 I2 r1 r2 q2
theorem LK {op:Operator}{r:R2}(ho:OpR X (binaryOp op) r) (ha:PE X a ta) (hb:PE X b tb):PE X (.BinOp a op b pos) (tOp r ta tb):=by
 intro pins s U H Q I h;exact wpAny_BinOp (Io ha hb I h fun v u s2 x y H2 I2 rx ry q=>ho pins s2 U H2 x y v u Q I2 rx ry q)
theorem opI {f:Value->Value->Sem Value}{C:Int->Int->Prop}{g:Int->Int->Int}
  (rule:∀(i j:Int) (t u:Tok) (s:Shared) (Q:Value->Shared->Prop) (E:Value->Shared->Prop),C i j->Q (.int (g i j) s.toks) { s with toks:=s.toks+1}->wpAny (model X.prog X.w) X.A (f (.int i t) (.int j u)) Q E s) :
  OpR X f (rI C fun i j=>.int (g i j)):=by
 intro pins s U H x y v u Q I rx ry h;obtain⟨i,j,rfl,rfl,hc,q⟩:=h;obtain⟨t,rfl⟩:=rx;obtain⟨t',rfl⟩:=ry;exact rule i j t t' s _ _ hc ⟨.int (g i j),H,I.tok _,⟨_,rfl⟩,q⟩
theorem LQ {f:Value->Value->Sem Value}{g:Int->Int->Int}
  (rule:∀(i j:Int) (t u:Tok) (s:Shared) (Q:Value->Shared->Prop) (E:Value->Shared->Prop),Q (.int (g i j) s.toks) { s with toks:=s.toks+1}->wpAny (model X.prog X.w) X.A (f (.int i t) (.int j u)) Q E s) :
  OpR X f (rI0 fun i j=>.int (g i j)):=by
 intro pins s U H x y v u Q I rx ry h;obtain⟨i,j,rfl,rfl,q⟩:=h;obtain⟨t,rfl⟩:=rx;obtain⟨t',rfl⟩:=ry;exact rule i j t t' s _ _ ⟨.int (g i j),H,I.tok _,⟨_,rfl⟩,q⟩
theorem Cp {f:Value->Value->Sem Value}{g:Int->Int->Bool}
  (rule:∀(i j:Int) (t u:Tok) (s:Shared) (Q:Value->Shared->Prop) (E:Value->Shared->Prop),Q (.bool (g i j)) s->wpAny (model X.prog X.w) X.A (f (.int i t) (.int j u)) Q E s) :
  OpR X f (rI0 fun i j=>.bl (g i j)):=by
 intro pins s U H x y v u Q I rx ry h;obtain⟨i,j,rfl,rfl,q⟩:=h;obtain⟨t,rfl⟩:=rx;obtain⟨t',rfl⟩:=ry;exact rule i j t t' s _ _ ⟨.bl (g i j),H,I,rfl,q⟩
def LR (i j:Int):Prop:=0<=j/\j<=1000000/\i.natAbs<2^64
def CMul (i j:Int):Prop:=(-(2^64)<i/\i<2^64)\/(-(2^64)<j/\j<2^64)
theorem CMul.ok {i j:Int}(h:CMul i j):IntMulOk i j:=by
 rcases h with ⟨h1,h2⟩ | ⟨h1,h2⟩
 ·exact .of_left (intBits_le_64 h1 h2)
 exact .of_right (intBits_le_64 h1 h2)
theorem op_add:OpR X (binaryOp .Add) (rI0 fun i j=>.int (i+j)):=LQ fun _ _ _ _ _ _ _ q=>add_int q
theorem Ip:OpR X (binaryOp .Sub) (rI0 fun i j=>.int (i - j)):=LQ fun _ _ _ _ _ _ _ q=>sub_int q
theorem Ir:OpR X (binaryOp .Mult) (rI CMul fun i j=>.int (i*j)):=opI fun _ _ _ _ _ _ _ hc q=>mul_int q hc.ok
theorem Iu:OpR X (binaryOp .Mod) (rI (fun _ j=>0<j) fun i j=>.int (i%j)):=opI fun i j _ _ _ _ _ hc q=>by
 have h1:(0:Int)<j:=hc;exact mod_int' (by omega) (by rw[Int.fmod_eq_emod_of_nonneg i (by omega)];exact q)
theorem Iv:OpR X (binaryOp .Pow) (rI LR fun i j=>.int (i^j.toNat)):=opI fun _ _ _ _ _ _ _ hc q=>pow_int_small hc.1 hc.2.1 hc.2.2 q
end
def fY:V->V->Bool
 |.non,.non=>true | .non,.int _=>true | .int _,.non=>true | .non,.bl _=>true | .bl _,.non=>true | .non,.str _=>true | .str _,.non=>true
 |.int _,.int _=>true | .bl _,.bl _=>true | .str _,.str _=>true | .byt _,.byt _=>true
 |.int _,.str _=>true | .str _,.int _=>true | .bl _,.str _=>true | .str _,.bl _=>true
 |_,_=>false
def rEq:R2:=fun x y H Q=>fY x y=true/\Q (.bl (decide (x=y))) H
def rNe:R2:=fun x y H Q=>fY x y=true/\Q (.bl (!decide (x=y))) H
theorem uJ {i j:Int}:decide (V.int i=V.int j)=(i==j):=by
 rw[Bool.eq_iff_iff];simp
theorem xT {i j:Bool}:decide (V.bl i=V.bl j)=(i==j):=by
 rw[Bool.eq_iff_iff];simp
theorem uK {i j:Str}:decide (V.str i=V.str j)=(i==j):=by
 rw[Bool.eq_iff_iff];simp
theorem uL {i j:Array UInt8}:decide (V.byt i=V.byt j)=(i.toList==j.toList):=by
 rw[Bool.eq_iff_iff];cases i;cases j;simp
section
variable {X:Cx}{a b c:Expr}{ta tb tc:TE}{pos:Pos}
theorem aW {pins:List (Addr × Obj)}{U:St}{H:Hp}{s:Shared}{Q:VK}{k k':Bool}(I:Inv X pins U H s) (q:Q (.bl k) H) (e:k=k'):EP X pins U Q (.bool k') s:=by
 subst e;exact⟨.bl k,H,I,rfl,q⟩
theorem Ma:OpR X (compareOp .Eq) rEq:=by
 intro pins s U H x y v u Q I rx ry h;obtain⟨hs,q⟩:=h;cases x with
 |non =>
  cases rx;cases y with
  |non=>cases ry;exact PySem.EqNone.eq_none_none (aW I q (by simp))
  |bl j=>cases ry;exact PySem.EqNone.eq_none_bool (aW I q (by simp))
  |int j=>obtain⟨t',rfl⟩:=ry;exact PySem.EqNone.eq_none_int (aW I q (by simp))
  |str j=>obtain⟨t',rfl⟩:=ry;exact PySem.EqNone.eq_none_str (aW I q (by simp))
  |_=>exact absurd (show false=true from hs) Bool.false_ne_true
 |bl i =>
  cases rx;cases y with
  |non=>cases ry;exact PySem.EqNone.eq_bool_none (aW I q (by simp))
  |bl j=>cases ry;exact eq_bool (aW I q xT)
  |str j=>obtain⟨t',rfl⟩:=ry;exact PySem.EqMixed.eq_bool_str (aW I q (by simp))
  |_=>exact absurd (show false=true from hs) Bool.false_ne_true
 |int i =>
  obtain⟨t,rfl⟩:=rx;cases y with
  |non=>cases ry;exact PySem.EqNone.eq_int_none (aW I q (by simp))
  |int j=>obtain⟨t',rfl⟩:=ry;exact eq_int (aW I q uJ)
  |str j=>obtain⟨t',rfl⟩:=ry;exact PySem.EqMixed.eq_int_str (aW I q (by simp))
  |_=>exact absurd (show false=true from hs) Bool.false_ne_true
 |str i =>
  obtain⟨t,rfl⟩:=rx;cases y with
  |non=>cases ry;exact PySem.EqNone.eq_str_none (aW I q (by simp))
  |bl j=>cases ry;exact PySem.EqMixed.eq_str_bool (aW I q (by simp))
  |int j=>obtain⟨t',rfl⟩:=ry;exact PySem.EqMixed.eq_str_int (aW I q (by simp))
  |str j=>obtain⟨t',rfl⟩:=ry;exact eq_str (aW I q uK)
  |_=>exact absurd (show false=true from hs) Bool.false_ne_true
 |byt i =>
  obtain⟨t,rfl⟩:=rx;cases y with
  |byt j=>obtain⟨t',rfl⟩:=ry;exact PySem.W.eq_bytes (aW I q uL)
  |_=>exact absurd (show false=true from hs) Bool.false_ne_true
 |_=>cases y <;> exact absurd (show false=true from hs) Bool.false_ne_true
theorem Mf:OpR X (compareOp .NotEq) rNe:=by
 intro pins s U H x y v u Q I rx ry h;obtain⟨hs,q⟩:=h;cases x with
 |non =>
  cases rx;cases y with
  |non=>cases ry;exact PySem.EqNone.ne_none_none (aW I q (by simp))
  |bl j=>cases ry;exact PySem.EqNone.ne_none_bool (aW I q (by simp))
  |int j=>obtain⟨t',rfl⟩:=ry;exact PySem.EqNone.ne_none_int (aW I q (by simp))
  |str j=>obtain⟨t',rfl⟩:=ry;exact PySem.EqNone.ne_none_str (aW I q (by simp))
  |_=>exact absurd (show false=true from hs) Bool.false_ne_true
 |bl i =>
  cases rx;cases y with
  |non=>cases ry;exact PySem.EqNone.ne_bool_none (aW I q (by simp))
  |bl j=>cases ry;exact ne_bool (aW I q (congrArg not xT))
  |str j=>obtain⟨t',rfl⟩:=ry;exact PySem.EqMixed.ne_bool_str (aW I q (by simp))
  |_=>exact absurd (show false=true from hs) Bool.false_ne_true
 |int i =>
  obtain⟨t,rfl⟩:=rx;cases y with
  |non=>cases ry;exact PySem.EqNone.ne_int_none (aW I q (by simp))
  |int j=>obtain⟨t',rfl⟩:=ry;exact ne_int (aW I q (congrArg not uJ))
  |str j=>obtain⟨t',rfl⟩:=ry;exact PySem.EqMixed.ne_int_str (aW I q (by simp))
  |_=>exact absurd (show false=true from hs) Bool.false_ne_true
 |str i =>
  obtain⟨t,rfl⟩:=rx;cases y with
  |non=>cases ry;exact PySem.EqNone.ne_str_none (aW I q (by simp))
  |bl j=>cases ry;exact PySem.EqMixed.ne_str_bool (aW I q (by simp))
  |int j=>obtain⟨t',rfl⟩:=ry;exact PySem.EqMixed.ne_str_int (aW I q (by simp))
  |str j=>obtain⟨t',rfl⟩:=ry;exact ne_str (aW I q (congrArg not uK))
  |_=>exact absurd (show false=true from hs) Bool.false_ne_true
 |byt i =>
  obtain⟨t,rfl⟩:=rx;cases y with
  |byt j=>obtain⟨t',rfl⟩:=ry;exact PySem.W.ne_bytes (aW I q (congrArg not uL))
  |_=>exact absurd (show false=true from hs) Bool.false_ne_true
 |_=>cases y <;> exact absurd (show false=true from hs) Bool.false_ne_true
theorem Mg:OpR X (compareOp .Lt) (rI0 fun i j=>.bl (decide (i<j))):=Cp fun _ _ _ _ _ _ _ q=>lt_int q
theorem Mh:OpR X (compareOp .LtE) (rI0 fun i j=>.bl (decide (i<=j))):=Cp fun _ _ _ _ _ _ _ q=>le_int q
theorem Mi:OpR X (compareOp .Gt) (rI0 fun i j=>.bl (decide (j<i))):=Cp fun _ _ _ _ _ _ _ q=>gt_int q
theorem Mj:OpR X (compareOp .GtE) (rI0 fun i j=>.bl (decide (j<=i))):=Cp fun _ _ _ _ _ _ _ q=>ge_int q
theorem wB:OpR X (compareOp .In) (fun x y H Q=>∃i j,x=.str i/\y=.str j/\Q (.bl (!(Builtin.Str.occurrences j i 0 j.length 1).isEmpty)) H):=by
 intro pins s U H x y v u Q I rx ry h;obtain⟨i,j,rfl,rfl,q⟩:=h;obtain⟨t,rfl⟩:=rx;obtain⟨t',rfl⟩:=ry;exact in_str (aW I q rfl)
theorem nR:OpR X (compareOp .NotIn) (fun x y H Q=>∃i j,x=.str i/\y=.str j/\Q (.bl (!(!(Builtin.Str.occurrences j i 0 j.length 1).isEmpty))) H):=by
 intro pins s U H x y v u Q I rx ry h;obtain⟨i,j,rfl,rfl,q⟩:=h;obtain⟨t,rfl⟩:=rx;obtain⟨t',rfl⟩:=ry;exact notIn_str (aW I q rfl)
theorem OpR.or {f:Value->Value->Sem Value}{r r':R2}(h:OpR X f r) (h':OpR X f r'):OpR X f (fun x y H Q=>r x y H Q\/r' x y H Q):=by
 intro pins s U H x y v u Q I rx ry q;rcases q with q | q
 ·exact h pins s U H x y v u Q I rx ry q
 exact h' pins s U H x y v u Q I rx ry q
theorem xU (b:Expr) {op:CmpOp}(h:op≠.In:=by decide) (h2:op≠.NotIn:=by decide):behindInMarks op b=false:=by
 have e1:(op==CmpOp.In)=false:=by cases op <;> first | rfl | exact absurd rfl h
 have e2:(op==CmpOp.NotIn)=false:=by cases op <;> first | rfl | exact absurd rfl h2
 cases b <;> simp [behindInMarks,e1,e2]
theorem Cq {op:CmpOp}{r:R2}(ho:OpR X (compareOp op) r) (ha:PE X a ta) (hb:PE X b tb) (hm:behindInMarks op b=false):PE X (.Compare a [op] [b] pos) (tOp r ta tb):=by
 intro pins s U H Q I h;exact wpAny_Compare1 (Io ha hb I h fun v u s2 x y H2 I2 rx ry q=>ho pins s2 U H2 x y v u Q I2 rx ry q) hm
def Ga (t:TE):TT:=fun U H Q=>t U H fun x H'=>∃k,x=.bl k/\Q k H'
theorem Cr {op:CmpOp}{r:R2}(ho:OpR X (compareOp op) r) (ha:PE X a ta) (hb:PE X b tb) (hm:behindInMarks op b=false):PT X (.Compare a [op] [b] pos) (Ga (tOp r ta tb)):=by
 intro pins s U H Q I h;refine wpAny_isTrue_Compare1 (thn (ha pins s U H _ I h) fun v s1 ⟨x,H1,I1,r1,q1⟩=>thn (hb pins s1 U H1 _ I1 q1) fun u s2 ⟨y,H2,I2,r2,q2⟩ =>
  thn (ho pins s2 U H2 x y v u _ I2 r1 r2 q2) fun c s3 ⟨z,H3,I3,r3,k,e,q3⟩=>?_) hm
 subst e;cases r3;exact wpAny_truthy_bool ⟨H3,I3,q3⟩
def sU (r r':R2) (ta tb tc:TE):TE:=fun U H Q=>ta U H fun x H1=>tb U H1 fun y H2=>r x y H2 fun z H3=>∃k,z=.bl k /\
 (if k=true then tc U H3 fun w' H4=>r' y w' H4 Q else Q (.bl false) H3)
theorem xV {op op':CmpOp}{r r':R2}(ho:OpR X (compareOp op) r) (ho':OpR X (compareOp op') r') (ha:PE X a ta) (hb:PE X b tb) (hc:PE X c tc)
  (hm:lastMarks [op,op'] [b,c]=false:=by with_unfolding_all rfl):PE X (.Compare a [op,op'] [b,c] pos) (sU r r' ta tb tc):=by
 intro pins s U H Q I h;refine Compare_chain (thn (ha pins s U H _ I h) fun v s1 ⟨x,H1,I1,r1,q1⟩=>chain_link (thn (hb pins s1 U H1 _ I1 q1) fun u s2 ⟨y,H2,I2,r2,q2⟩ =>
  thn (ho pins s2 U H2 x y v u _ I2 r1 r2 q2) fun d s3 ⟨z,H3,I3,r3,k,e,q3⟩=>?_)) hm
 subst e;cases r3;refine wpAny_truthy_bool ?_;cases k with
 |false=>exact ite_ff ⟨.bl false,H3,I3,rfl,q3⟩
 |true=>exact ite_tt (chain_last (thn (hc pins s3 U H3 _ I3 q3) fun w' s4 ⟨z',H4,I4,r4,q4⟩=>ho' pins s4 U H4 y z' u w' Q I4 r2 r4 q4))
theorem xW {op op':CmpOp}{r r':R2}(ho:OpR X (compareOp op) r) (ho':OpR X (compareOp op') r') (ha:PE X a ta) (hb:PE X b tb) (hc:PE X c tc)
  (hm:lastMarks [op,op'] [b,c]=false:=by with_unfolding_all rfl):PT X (.Compare a [op,op'] [b,c] pos) (Ga (sU r r' ta tb tc)):=by
 intro pins s U H Q I h;refine isTrue_chain (thn (ha pins s U H _ I h) fun v s1 ⟨x,H1,I1,r1,q1⟩=>test_link (thn (hb pins s1 U H1 _ I1 q1) fun u s2 ⟨y,H2,I2,r2,q2⟩ =>
  thn (ho pins s2 U H2 x y v u _ I2 r1 r2 q2) fun d s3 ⟨z,H3,I3,r3,k,e,q3⟩=>?_)) hm
 subst e;cases r3;refine wpAny_truthy_bool ?_;cases k with
 |false=>obtain⟨k',e',q'⟩:=q3;cases e';exact ite_ff ⟨H3,I3,q'⟩
 |true =>
 refine ite_tt (test_last (thn (hc pins s3 U H3 _ I3 q3) fun w' s4 ⟨z',H4,I4,r4,q4⟩=>thn (ho' pins s4 U H4 y z' u w' _ I4 r2 r4 q4) fun d' s5 ⟨z2,H5,I5,r5,k2,e2,q5⟩=>?_));subst e2;cases r5;exact wpAny_truthy_bool ⟨H5,I5,q5⟩
theorem fZ:(sizeLine:Nat)<2^63:=by rw[sizeLine_eq];decide
theorem op_add_str:OpR X (binaryOp .Add) (fun x y H Q=>∃i j,x=.str i/\y=.str j/\i.length+j.length<=sizeLine/\Q (.str (i++j)) H):=by
 intro pins s U H x y v u Q I rx ry h;obtain⟨i,j,rfl,rfl,hz,q⟩:=h;obtain⟨t,rfl⟩:=rx;obtain⟨t',rfl⟩:=ry;exact add_str (fun t' tk=>⟨.str (i++j),H,I.tok _,⟨_,rfl⟩,q⟩) hz
theorem vals1 {x:V}{us:List Value}(r:Vals [x] us):∃u,us=[u]/\RelV x u:=by
 cases r with
 |cons r1 r2=>cases r2;exact⟨_,rfl,r1⟩
theorem vals2 {x y:V}{us:List Value}(r:Vals [x,y] us):∃u w',us=[u,w']/\RelV x u/\RelV y w':=by
 cases r with
 |cons r1 r2 =>
 cases r2 with
 |cons r3 r4=>cases r4;exact⟨_,_,rfl,r1,r3⟩
theorem wC:CallR X (.type "int") (fun xs H Q=>(∃i,xs=[.int i]/\Q (.int i) H)\/∃k,xs=[.bl k]/\Q (.int (if k then 1 else 0)) H):=by
 intro pins s U H xs us Q I r h;rcases h with ⟨i,rfl,q⟩ | ⟨k,rfl,q⟩
 ·obtain⟨u,rfl,t,rfl⟩:=vals1 r;exact call_int_int ⟨.int i,H,I,⟨_,rfl⟩,q⟩
 obtain⟨u,rfl,r1⟩:=vals1 r;cases r1;exact call_int_bool ⟨.int (if k then 1 else 0),H,I.tok _,⟨_,rfl⟩,q⟩
theorem nU:CallR X (.type "str") (fun xs H Q=>∃i,xs=[.int i]/\i.natAbs.log2<1920/\Q (.str (toString i)) H):=by
 intro pins s U H xs us Q I r h;obtain⟨i,rfl,hz,q⟩:=h;obtain⟨u,rfl,t,rfl⟩:=vals1 r;exact PySem.P.str_of_int hz ⟨.str _,H,I.tok _,⟨_,rfl⟩,q⟩
end
structure ObjM (h:Heap) (x dx C:Addr) (mA:Str->Option Value):Prop where
 obj:h.get? x=some (instObj C dx)
 ns:h.Ns1 dx mA
 ne:dx≠x
theorem iV {h:Heap}{dx:Addr}{mA:Str->Option Value}(n:h.Ns1 dx mA):∃od,h.get? dx=some od/\∀name,lookIn name od=some (mA name):=by
 obtain⟨o,es,ep,ho,hd,hk,_,hm⟩:=n;refine⟨o,ho,fun name=>?_⟩;have e:=hm name;unfold nsFind findBy at e;rw[<- Array.find?_toList] at e;unfold lookIn;rw[hd];dsimp only;split
 ·rename_i y q;rw[q] at e;exact congrArg some e
 rename_i q;rw[q] at e;have a:es.toList.any (·.refKey)=false:=by rw[List.any_eq_false];intro y hy;obtain⟨z,t,hkey⟩:=hk y (Array.mem_toList_iff.mp hy);simp [DictEntry.refKey,hkey]
 have a':¬es.toList.any (·.refKey)=true:=by rw[a];exact Bool.false_ne_true
 rw[if_neg a'];exact congrArg some e
theorem ObjM.look {h:Heap}{x dx C:Addr}{mA:Str->Option Value}(I:ObjM h x dx C mA):∃od,InstAt h x (instObj C dx) C (some od)/\∀name,lookIn name od=some (mA name) :=
 let ⟨od,ho,hl⟩:=iV I.ns
 ⟨od,⟨I.obj,rfl,rfl,ho⟩,hl⟩
section
variable {prog:Program}{w:World}{A:Around}{E:Value->Shared->Prop}{s:Shared}{K:Frag}{x dx C f:Addr}{mA:Str->Option Value}{name:Str}{v:Value}
end
def j7 (f:Str) (v:V):List (Str × V)->List (Str × V)
 |[]=>[(f,v)]
 | (g,x)::r=>if g=f then (g,v)::r else (g,x)::j7 f v r
theorem jq (f g:Str) (v:V):∀fs:List (Str × V),(j7 f v fs).lookup g=if g=f then some v else fs.lookup g
 |[]=>by
  show List.lookup g [(f,v)]=_
  by_cases h:g=f
  ·
   have hb:(g==f)=true:=beq_iff_eq.mpr h
   simp only[List.lookup,hb,if_pos h]
  ·
   have hb:(g==f)=false:=beq_eq_false_iff_ne.mpr h
   simp only[List.lookup,hb,if_neg h]
 | (k,x)::r=>by
  have ih:=jq f g v r
  rw[show j7 f v ((k,x)::r)=(if k=f then (k,v)::r else (k,x)::j7 f v r) from rfl]
  by_cases hk:k=f
  ·
   rw[if_pos hk]
   by_cases h:g=k
   ·
    have hb:(g==k)=true:=beq_iff_eq.mpr h
    simp only[List.lookup,hb,if_pos (h.trans hk)]
   ·
    have hb:(g==k)=false:=beq_eq_false_iff_ne.mpr h
    simp only[List.lookup,hb,if_neg (fun e:g=f=>h (e.trans hk.symm))]
  ·
   rw[if_neg hk]
   by_cases h:g=k
   ·
    have hb:(g==k)=true:=beq_iff_eq.mpr h
    simp only[List.lookup,hb,if_neg (fun e:g=f=>hk (h.symm.trans e))]
   ·
    have hb:(g==k)=false:=beq_eq_false_iff_ne.mpr h
    simp only[List.lookup,hb]
    exact ih
theorem iW (f:Str) (v:V):∀fs:List (Str × V),f∈(j7 f v fs).map (·.1)/\∀g,g∈fs.map (·.1)->g∈(j7 f v fs).map (·.1)
 |[]=>⟨by simp [j7],fun g h=>by simp at h⟩
 | (k,x)::r=>by
  obtain⟨i1,i2⟩:=iW f v r
  rw[show j7 f v ((k,x)::r)=(if k=f then (k,v)::r else (k,x)::j7 f v r) from rfl]
  by_cases hk:k=f
  ·
   rw[if_pos hk]
   subst hk
   exact⟨by simp,fun g h=>by simpa using h⟩
  ·
   rw[if_neg hk]
   refine⟨?_,fun g h=>?_⟩
   ·
    rw[List.map_cons]
    exact List.mem_cons_of_mem _ i1
   ·
    rw[List.map_cons] at h ⊢
    rcases List.mem_cons.mp h with e | e
    ·
     exact List.mem_cons.mpr (.inl e)
    ·
     exact List.mem_cons_of_mem _ (i2 g e)
theorem RelO.some_of {v:V}{o:Option Value}(r:RelO (some v) o):∃u,o=some u/\RelV v u:=by
 cases o with
 |none=>exact (show False from r).elim
 |some u=>exact⟨u,rfl,r⟩
theorem wD {v:V}{u:Value}(r:RelV v u):handedIn u=true:=by
 cases v with
 |non=>cases (show u=Value.none from r);rfl
 |bl b=>cases (show u=Value.bool b from r);rfl
 |int i=>obtain⟨t,e⟩:=(show ∃t,u=Value.int i t from r);cases e;rfl
 |str x=>obtain⟨t,e⟩:=(show ∃t,u=Value.str x t from r);cases e;rfl
 |byt b=>obtain⟨t,e⟩:=(show ∃t,u=Value.bytes b t from r);cases e;rfl
 |flt b=>obtain⟨t,e⟩:=(show ∃t,u=Value.float b t from r);cases e;rfl
 |ref a=>cases (show u=Value.ref a from r);rfl
 |ty n=>cases (show u=Value.type n from r);rfl
section
variable {P:Program}{w:World}{H H':Hp}{h h':Heap}{a C dx:Addr}{fs fs':List (Str × V)}
theorem Cu (hok:HOk P w H h) (e:H a=some (.ins C dx fs)):∃mA,ObjM h a dx C mA/\(∀f,RelO (fs.lookup f) (mA f))/\PySem.Within mA (fs.map (·.1))/\fs.length<=1000/\H dx=some (.own a):=by
 obtain⟨d,z,ne,ob,mA,n,r,q⟩:=(show ObjOk P w H h a (.ins C dx fs) from hok a _ e);exact⟨mA,⟨ob,n,ne⟩,r,q,z,d⟩
end
structure Cls (K:Frag) (C:Addr):Prop where
 pg:plainGet K C Str.empty=true
 hd:hasDictIn K C=true
 po:PySem.W.plainOver K C=true
 sa:findIn K (.ref C) "__setattr__"=some (some (.builtin "object.__setattr__"))
theorem Cls.get {K:Frag}{C:Addr}(c:Cls K C) (f:Str):plainGet K C f=true:=c.pg
section
variable {X:Cx}{pins:List (Addr × Obj)}{U:St}{H:Hp}{s:Shared}{a C dx:Addr}{fs:List (Str × V)}{f:Str}{v:V}{A:Around}{E:Value->Shared->Prop}
theorem Inv.made (I:Inv X pins U H s):Inv X pins U (upd (upd H s.heap.objs.size (.own (s.heap.objs.size+1))) (s.heap.objs.size+1) (.ins C s.heap.objs.size []))
  { s with heap:=(s.heap.push emptyDict).push (instObj C s.heap.objs.size)}:=by
 have e1:(s.heap.push emptyDict).get? s.heap.objs.size=some emptyDict:=Heap.get?_push_size s.heap rfl;have e2:((s.heap.push emptyDict).push (instObj C s.heap.objs.size)).get? (s.heap.objs.size+1)=some (instObj C s.heap.objs.size):=by
  have:=Heap.get?_push_size (s.heap.push emptyDict) (o:=instObj C s.heap.objs.size) rfl
  rwa [Heap.size_push] at this
 have e3:(s.heap.push emptyDict).Ns s.heap.objs.size (fun _=>none):=⟨emptyDict,#[],_,e1,rfl,(fun e he=>absurd he (by simp)),fun _=>rfl⟩;have I1:=I.laid (a:=s.heap.objs.size) (o:=.own (s.heap.objs.size+1)) (h':=s.heap.push emptyDict) (t':=s.toks) (fun b u q=>Heap.get?_push_of_some _ q) (Nat.le_refl _) ⟨_,e1⟩;refine I1.laid (a:=s.heap.objs.size+1) (o:=.ins C s.heap.objs.size []) (t':=s.toks) (fun b u q=>Heap.get?_push_of_some _ q) (Nat.le_of_eq (Heap.size_push _ _)) ?_;have ne:s.heap.objs.size≠s.heap.objs.size+1:=Nat.ne_of_lt (Nat.lt_succ_self _);refine⟨by rw[aH ne,bw],Nat.zero_le _,ne,e2,fun _=>none,(Heap.Ns1.of_empty e3).at fun o q=>Heap.get?_push_of_some _ q,fun _=>True.intro,fun y hy=>absurd rfl hy⟩
theorem Cv {prog:Program}{w:World}{env:Env}{e:Expr}{f:Str}{pos:Pos}{s:Shared}{Q:Value->Shared->Prop}(hb:attributeBase e f env (eval e env)=eval e env)
  (h:wpAny (model prog w) A (eval e env) (fun o s₁=>wpAny (model prog w) A (getAttr o f true) Q E s₁) E s):wpAny (model prog w) A (eval (.Attribute e f pos) env) Q E s :=
 Attribute_any_ h (by rw[arm_eval_Attribute,hb])
variable {o e value:Expr}{pos pos' tpos:Pos}{ta tv:TE}
variable {Q:Value->Shared->Prop}{c:Value}{b:Bool}
inductive TyOf (K:Frag) (H:Hp):V->Value->Prop where
 |non:TyOf K H .non (.type "NoneType")
 |bl (x:Bool):TyOf K H (.bl x) (.type "bool")
 |int (i:Int):TyOf K H (.int i) (.type "int")
 |str (x:Str):TyOf K H (.str x) (.type "str")
 |flt (x:UInt64):TyOf K H (.flt x) (.type "float")
 |lst {a:Addr} {xs:List V} (e:H a=some (.lst xs)):TyOf K H (.ref a) (.type "list")
 |frz {a:Addr} {o:Obj} {xs:List V} (e:H a=some (.frz o (.lst xs))):TyOf K H (.ref a) (.type "list")
 |tup {a:Addr} {xs:List V} (e:H a=some (.tup xs)):TyOf K H (.ref a) (.type "tuple")
 |dK {a:Addr} {kvs:List (Key × V)} (e:H a=some (.dK kvs)):TyOf K H (.ref a) (.type "dict")
 |dT {a:Addr} {kvs:List (List Key × V)} (e:H a=some (.dT kvs)):TyOf K H (.ref a) (.type "dict")
 |ins {a C dx:Addr} {fs:List (Str × V)} (e:H a=some (.ins C dx fs)) (cl:Cls K C) (ha:findIn K (.ref C) "__class__"=some (some (.builtin "object.__class__")))
   (hn:specialIn K (.builtin "object.__class__") "__get__"=some (some (.builtin "getset_descriptor.__get__"))) (htk:takesIn K (.builtin "object.__class__")=some true)
   (hm:mroIn K C (.type "object")=some true):TyOf K H (.ref a) (.ref C)
theorem cY {x:V}{u t:Value}(I:Inv X pins U H s) (rx:RelV x u) (ty:TyOf X.K H x t) (e:kitOne X.K t c=some b) (h:∀tk,Q (.bool b) { s with toks:=tk}) :
  wpAny (model X.prog X.w) A (call (.builtin "isinstance") [u,c]) Q E s:=by
 cases ty with
 |non=>cases (show u=Value.none from rx);exact kia_one kitx_none I.kIn True.intro e (fun z=>nomatch z) h
 |bl y=>cases (show u=Value.bool y from rx);exact kia_one PySem.W.kitx_bool I.kIn True.intro e (fun z=>nomatch z) h
 |int i=>obtain⟨t,q⟩:=(show ∃t,u=Value.int i t from rx);cases q;exact kia_one PySem.W.kitx_int I.kIn True.intro e (fun z=>nomatch z) h
 |str y=>obtain⟨t,q⟩:=(show ∃t,u=Value.str y t from rx);cases q;exact kia_one PySem.W.kitx_str I.kIn True.intro e (fun z=>nomatch z) h
 |flt y=>obtain⟨t,q⟩:=(show ∃t,u=Value.float y t from rx);cases q;exact kia_one PySem.W.kitx_float I.kIn True.intro e (fun z=>nomatch z) h
 |@lst a xs ea=>cases (show u=Value.ref a from rx);obtain⟨_,_,n,_,h1⟩:=(show ObjOk X.prog X.w H s.heap a (.lst xs) from I.hok a _ ea);exact kia_one kitx_list I.kIn ⟨_,h1,rfl⟩ e (fun z=>nomatch z) h
 |@frz a ob xs ea=>cases (show u=Value.ref a from rx);obtain⟨_,_,_,n,_,h1⟩:=(show ObjOk X.prog X.w H s.heap a (.frz ob (.lst xs)) from I.hok a _ ea);exact kia_one kitx_list I.kIn ⟨_,h1,rfl⟩ e (fun z=>nomatch z) h
 |@tup a xs ea=>cases (show u=Value.ref a from rx);obtain⟨_,_,_,p⟩:=(show ObjOk X.prog X.w H s.heap a (.tup xs) from I.hok a _ ea);obtain⟨o,h1,h2,_⟩:=p;exact kia_one kitx_tuple I.kIn ⟨o,h1,h2⟩ e (fun z=>nomatch z) h
 |@dK a kvs ea=>cases (show u=Value.ref a from rx);obtain⟨_,_,vs,_,p⟩:=(show ObjOk X.prog X.w H s.heap a (.dK kvs) from I.hok a _ ea);obtain⟨o,es,ep,h1,h2,_⟩:=p;exact kia_one kitx_dict I.kIn ⟨o,h1,h2.1⟩ e (fun z=>nomatch z) h
 |@dT a kvs ea=>cases (show u=Value.ref a from rx);obtain⟨_,_,xs,_,o,es,ep,h1,h2,_⟩:=(show ObjOk X.prog X.w H s.heap a (.dT kvs) from I.hok a _ ea);exact kia_one kitx_dict I.kIn ⟨o,h1,h2.1⟩ e (fun z=>nomatch z) h
 |@ins a C dx fs ea cl ha hn htk hm =>
 cases (show u=Value.ref a from rx);obtain⟨mA,O,_⟩:=Cu I.hok ea;obtain⟨od,J,_⟩:=O.look;exact kia_one (PySem.W.kitx_own (cl.get _) cl.hd ha hn htk hm) I.kIn J e (fun z=>nomatch z) h
end
structure Room (k:Nat) (A:Around):Prop where
 hd:A.handled=none
 dp:A.depth+3*k+5<recursionLimit
 un:A.units+16*k+200<cLine
 gd:A.guards=some []
theorem Room.mono {j k:Nat}{A:Around}(r:Room k A) (h:j<=k):Room j A:=⟨r.hd,by have:=r.dp;omega,by have:=r.un;omega,r.gd⟩
theorem Room.deeper {k:Nat}{A:Around}(r:Room (k+1) A) (env:Env):Room k (A.deeper env) :=
 ⟨r.hd,by have:=r.dp;show A.depth+1+3*k+5<_;omega,by have:=r.un;show A.units+3+16*k+200<_;omega,r.gd⟩
theorem Room.in1 {k:Nat}{A:Around}(r:Room (k+1) A):Room k A.in1 :=
 ⟨r.hd,by have:=r.dp;show A.depth+3*k+5<_;omega,by have:=r.un;show A.units+1+16*k+200<_;omega,r.gd⟩
theorem sV {A:Around}{C:Addr}{us:List Value}{kw:List (Str × Value)}:(A.under (.builtin "type.__call__" ⟨.ref C::us,kw⟩)).depth=A.depth+1:=by
 first | rfl | simp [Around.under,Code.weight,Code.isCreation,Code.isGuard,Code.isCaller,Code.frames,Code.isFrame,guardIds]
theorem sW {A:Around}{C:Addr}{us:List Value}{kw:List (Str × Value)}:(A.under (.builtin "type.__call__" ⟨.ref C::us,kw⟩)).units=A.units+1:=by
 first | rfl | simp [Around.under,Code.cUnits,Code.frames,Code.isFrame]
theorem Room.make {k:Nat}{A:Around}(r:Room (k+1) A) (C:Addr) (us:List Value) (kw:List (Str × Value)):Room k (A.under (.builtin "type.__call__" ⟨.ref C::us,kw⟩)) :=
 ⟨r.hd,by have:=r.dp;rw[sV];omega,by have:=r.un;rw[sW];omega,by first | exact r.gd | (simp [Around.under,Code.guards,Code.isGuard,guardIds,pushGuards,r.gd])⟩
theorem Room.depth {k:Nat}{A:Around}(r:Room k A):A.depth<recursionLimit:=by have:=r.dp;omega
theorem Room.units {k:Nat}{A:Around}(r:Room k A):A.units+64<cLine:=by have:=r.un;omega
def Qf:TA:=fun _ H Q=>Q [] H
def Ml (ta:TE) (tr:TA):TA:=fun U H Q=>ta U H fun x H1=>tr U H1 fun xs H2=>Q (x::xs) H2
section
variable {X:Cx}{e:Expr}{es:List Expr}{te:TE}{t:TA}{pos:Pos}
theorem Iw:PA X [] Qf:=fun _ _ _ _ H Q I h=>Calls.spliced_nil ⟨[],H,I,.nil,h⟩
theorem Cw (ha:PE X e te) (hr:PA X es t) (hs:starEach (e::es) X.env=(false,eval e X.env)::starEach es X.env:=by rfl):PA X (e::es) (Ml te t):=by
 intro pos pins s U H Q I h;rw[hs];show wpAny _ _ (spliced ((false,eval e X.env)::backTo pos (starEach es X.env))) _ _ s;refine Calls.spliced_cons (thn (ha pins s U H _ I h) fun u s1 ⟨x,H1,I1,r1,q1⟩=>?_);exact thn (hr pos pins s1 U H1 _ I1 q1) fun us s2 ⟨xs,H2,I2,r2,q2⟩=>⟨x::xs,H2,I2,.cons r1 r2,q2⟩
def Qg (t:TA):TE:=fun U H Q=>t U H fun xs H1=>xs.length<=sizeLine/\∀p,H1 p=none->Q (.ref p) (upd H1 p (.tup xs))
def Qh (t:TA):TE:=fun U H Q=>t U H fun xs H1=>xs.length<=sizeLine/\∀p,H1 p=none->Q (.ref p) (upd H1 p (.lst xs))
theorem Iz {x1}(h:PA X es t):PE X (.Tuple es x1 pos) (Qg t):=by
 intro pins s U H Q I hq;refine wpAny_Tuple_spliced (thn (h pos pins s U H _ I hq) fun us s1 ⟨xs,H1,I1,r,z,q⟩=>⟨by rw[<- r.length];exact z,?_⟩);have hf:H1 s1.heap.objs.size=none:=I1.hok.fresh (Nat.le_refl _);refine⟨.ref s1.heap.objs.size,upd H1 s1.heap.objs.size (.tup xs),I1.laid (t':=s1.toks) (fun b u e=>Heap.get?_push_of_some _ e) (Nat.le_refl _) ?_,rfl,q _ hf⟩;exact⟨z,us,r,⟨_,Heap.get?_push_size _ rfl,rfl,_,rfl,rfl⟩⟩
theorem IK (h:PA X es t):PE X (.List es pos) (Qh t):=by
 intro pins s U H Q I hq;refine wpAny_List_spliced (thn (h pos pins s U H _ I hq) fun us s1 ⟨xs,H1,I1,r,z,q⟩=>⟨by rw[<- r.length];exact z,?_⟩);have hf:H1 s1.heap.objs.size=none:=I1.hok.fresh (Nat.le_refl _);refine⟨.ref s1.heap.objs.size,upd H1 s1.heap.objs.size (.lst xs),I1.laid (t':=s1.toks) (fun b u e=>Heap.get?_push_of_some _ e) (Nat.le_refl _) ?_,rfl,q _ hf⟩;exact⟨z,us,0,r,Heap.get?_push_size _ rfl⟩
end
abbrev Sp:=List V->Hp->VK->XK->Prop
abbrev CXT:=List Env->Hp->Shared->XK->Value->Shared->Prop
structure Env0 (P:Program) (w:World) (K:Frag) (mg:Str->Option Value) (base:Heap) (A:Around) (outer:List Env) (s:Shared) (H:Hp):Prop where
 frames:A.frames=some outer
 mod:Mod K mg base
 bs:∀b o,base.get? b=some o->s.heap.get? b=some o/\H b=none
 bsz:base.objs.size<=s.heap.objs.size
 funs:s.heap.FunFrames base outer
 frf:∀b∈frs outer,H b=none
 hok:HOk P w H s.heap
 bare:AllBare s.gens
def CE (outer:List Env) (P:Program) (w:World) (H:Hp) (s:Shared) (Q:VK) (u:Value) (s':Shared):Prop :=
 ∃v H',s'.os=s.os/\AllBare s'.gens/\Un (frs outer) [] H H' s.heap s'.heap/\HOk P w H' s'.heap/\RelV v u/\Q v H'
def CR (CX:CXT) (outer:List Env) (P:Program) (w:World) (H:Hp) (s:Shared) (Q:VK) (E:XK) (r:Result) (s':Shared):Prop :=
 match r with
 |.ok (.ret u)=>CE outer P w H s Q u s'
 |.ok _=>False
 |.error e=>CX outer H s E e s'
structure FnOk (P:Program) (w:World) (K:Frag) (mg:Str->Option Value) (base:Heap) (CX:CXT) (k:Nat) (f:Addr) (fd:FuncData) (ps:List Str) (sp:Sp):Prop where
 len:∀vs H Q E,sp vs H Q E->vs.length=ps.length
 run:∀(A:Around) (outer:List Env) (s:Shared) (H:Hp) (args:Args) (us:List Value) (vs:List V) (Q:VK) (E:XK),Room k A->Env0 P w K mg base A outer s H->BindsTo s fd args (ps.zip us)->Vals vs us->sp vs H Q E ->
  codeAny (model P w) A (.call (.ref f) args) (CR CX outer P w H s Q E) s
theorem FnOk.mono {P:Program}{w:World}{K:Frag}{mg:Str->Option Value}{base:Heap}{CX:CXT}{j k:Nat}{f:Addr}{fd:FuncData}{ps:List Str}{sp:Sp}(F:FnOk P w K mg base CX j f fd ps sp) (h:j<=k) :
  FnOk P w K mg base CX k f fd ps sp:=⟨F.len,fun A outer s H args us vs Q E hr=>F.run A outer s H args us vs Q E (hr.mono h)⟩
theorem FnOk.imp {P:Program}{w:World}{K:Frag}{mg:Str->Option Value}{base:Heap}{CX:CXT}{k:Nat}{f:Addr}{fd:FuncData}{ps:List Str}{sp sp':Sp}(F:FnOk P w K mg base CX k f fd ps sp)
  (h:∀vs H Q E,sp' vs H Q E->sp vs H Q E):FnOk P w K mg base CX k f fd ps sp' :=
 ⟨fun vs H Q E q=>F.len vs H Q E (h _ _ _ _ q),fun A outer s H args us vs Q E hr he hb hv hs=>F.run A outer s H args us vs Q E hr he hb hv (h _ _ _ _ hs)⟩
theorem Env0.make {P:Program}{w:World}{K:Frag}{mg:Str->Option Value}{base:Heap}{A:Around}{outer:List Env}{s:Shared}{H:Hp}(e:Env0 P w K mg base A outer s H) (C:Addr) (us:List Value) (kw:List (Str × Value)) :
  Env0 P w K mg base (A.under (.builtin "type.__call__" ⟨.ref C::us,kw⟩)) outer s H:=⟨by first | exact e.frames | (simpa [Around.under,Code.envs,Code.isFrame,pushEnvs] using e.frames),e.mod,e.bs,e.bsz,e.funs,e.frf,e.hok,e.bare⟩
theorem Env0.in1 {P:Program}{w:World}{K:Frag}{mg:Str->Option Value}{base:Heap}{A:Around}{outer:List Env}{s:Shared}{H:Hp}(e:Env0 P w K mg base A outer s H) :
  Env0 P w K mg base A.in1 outer s H:=⟨e.frames,e.mod,e.bs,e.bsz,e.funs,e.frf,e.hok,e.bare⟩
section
variable {X:Cx}{pins:List (Addr × Obj)}{U:St}{H:Hp}{s s':Shared}
theorem Inv.env0 (I:Inv X pins U H s):Env0 X.prog X.w X.K X.mg X.base X.A X.stack s H :=
 ⟨I.ok.frames,I.ok.mod,I.bs,Nat.le_trans I.ok.bsz I.sz,I.stack,I.stkFree,I.hok,I.bare⟩
theorem Inv.after {Q:VK}{u:Value}(I:Inv X pins U H s) (h:CE X.stack X.prog X.w H s Q u s'):EP X pins U Q u s':=by
 obtain⟨v,H',os,bare,un,hok,r,q⟩:=h;obtain⟨hh,g,d,t,os'⟩:=s';obtain rfl:os'=s.os:=os;exact⟨v,H',I.call (h':=hh) (g':=g) (d':=d) (t':=t) (ch:=[]) un hok bare (fun b z=>absurd z (by simp)),r,q⟩
end
def Gb (sp:Sp) (dvs:List V) (E:XK) (t:TA):TE:=fun U H Q=>t U H fun vs H1=>sp (vs++dvs) H1 Q E
def Binds (K:Frag) (fd:FuncData) (ps:List Str) (ds:List Value):Prop :=
 ∀(s:Shared) (us:List Value),K.In s.heap->(us++ds).length=ps.length->BindsTo s fd ⟨us,[]⟩ (ps.zip (us++ds))
theorem Binds.all {K:Frag}{fd:FuncData}{ps:List Str}(h:∀us:List Value,us.length=ps.length->bindArgs fd ⟨us,[]⟩=pure (ps.zip us)):Binds K fd ps []:=fun s us _ hl=>by
 rw[List.append_nil] at hl ⊢;exact .of_eq (h us hl)
def j8 (CX:CXT) (X:Cx) (E:XK):Prop:=∀(pins:List (Addr × Obj)) (U:St) (H:Hp) (s:Shared) (e:Value) (s':Shared),Inv X pins U H s->CX X.stack H s E e s'->X.xe e s'
section
variable {X:Cx}{CX:CXT}{k:Nat}{f C:Addr}{fd:FuncData}{ps:List Str}{sp:Sp}{dvs:List V}{ds:List Value}{E:XK}{x m:Str}{p pos apos:Pos}{e o:Expr}{es:List Expr}{ta:TE}{t:TA}
theorem IV {pins:List (Addr × Obj)}{U:St}{H:Hp}{s:Shared}{Q:VK}{us:List Value}{vs:List V}(F:FnOk X.prog X.w X.K X.mg X.base CX k f fd ps sp) (hr:Room k X.A) (hb:Binds X.K fd ps ds) (hd:Vals dvs ds) (hx:j8 CX X E)
  (I:Inv X pins U H s) (r:Vals vs us) (h:sp (vs++dvs) H Q E):wpAny (model X.prog X.w) X.A (call (.ref f) us) (EP X pins U Q) X.xe s:=by
 have r2:Vals (vs++dvs) (us++ds):=r.append hd;have hl:(us++ds).length=ps.length:=by rw[<- r2.length];exact F.len _ _ _ _ h
 refine wpAny_call (codeAny_mono (F.run X.A X.stack s H ⟨us,[]⟩ (us++ds) (vs++dvs) Q E hr I.env0 (hb s us I.kIn hl) r2 h) fun r s' hq=>?_);cases r with
 |error e=>exact hx pins U H s e s' I hq
 |ok fl =>
 cases fl with
 |ret u=>exact I.after hq
 |next=>exact False.elim hq
 |brk=>exact False.elim hq
 |cont=>exact False.elim hq
theorem Cy (F:FnOk X.prog X.w X.K X.mg X.base CX k f fd ps sp) (hr:Room k X.A) (hg:Gl X x) (hm:X.mg x=some (.ref f)) (hk:keepIn X.K (.ref f)=true) (hb:Binds X.K fd ps ds) (hd:Vals dvs ds) (hx:j8 CX X E)
  (ha:PA X (e::es) t) (hdb:(x==("__debug__":Str))=false:=by decide) (he:starEach (e::es) X.env=(false,eval e X.env)::starEach es X.env:=by rfl) (hpl:(backTo pos (starEach es X.env)).any (·.1)=false:=by rfl) :
  PE X (.Call (.Name x p) (e::es) [] pos) (Gb sp dvs E t):=by
 intro pins s U H Q I h;refine wpAny_Call_Name_kw (dJ I hg hm ?_ hdb);refine callWith_K (h₀:=X.base) I.ok.mod.kin hk (thn (ha pos pins s U H _ I h) fun us s1 ⟨vs,H1,I1,r,q⟩=>⟨I1.kIn,?_⟩) he hpl;exact IV F hr hb hd hx I1 r q
variable {ks:List Str}{kpos:Pos}{kws:List Keyword}{te:TE}{tk:TA}{nm:Option Str}{g:List Value->List Value->List Value}{gV:List V->List V->List V}
end
structure FnScope (N P:List Str) (sc:Scope):Prop where
 kind:sc.kind=.function
 co:sc.isCoroutine=false
 gen:sc.isGenerator=false
 nd:N.Nodup
 pre:N.take P.length=P
 par:∀x∈P,sc.names.lookup x=some .local\/sc.names.lookup x=some .cell
 nofree:∀y∈sc.names,y.2≠.free
theorem mz {kindOf:Str->Option NameKind}{x:Str}:∀{binds:List (Str × Value)}{m:Str->Option Value},(∀v,(x,v)∉binds)->bindL kindOf binds m x=m x
 |[],_,_=>rfl
 | (n,v)::r,m,h=>by
  unfold bindL
  rw[mz fun w hw=>h w (List.mem_cons_of_mem _ hw)]
  split
  ·
   have:x≠n:=by rintro rfl;exact h v List.mem_cons_self
   simp [this]
  ·
   rfl
theorem mC {kindOf:Str->Option NameKind}{x:Str}:∀{binds:List (Str × Value)}{m:Str->Option Value},(∀v,(x,v)∉binds)->bindC kindOf binds m x=m x
 |[],_,_=>rfl
 | (n,v)::r,m,h=>by
  unfold bindC
  rw[mC fun w hw=>h w (List.mem_cons_of_mem _ hw)]
  split
  ·
   rfl
  ·
   have:x≠n:=by rintro rfl;exact h v List.mem_cons_self
   simp [this]
theorem mD {kindOf:Str->Option NameKind}{x:Str}{v:Value}:∀{P:List Str}{vs:List Value}{i:Nat}{m:Str->Option Value},P.Nodup->P[i]?=some x->vs[i]?=some v->kindOf x=some .local ->
  bindL kindOf (P.zip vs) m x=some v
 |[],_,_,_,_,h,_,_=>by simp at h
 |_::_,[],_,_,_,_,h,_=>by simp at h
 |p::P,w::vs,0,m,nd,h1,h2,hk=>by
  simp at h1 h2;subst h1;subst h2
  show bindL kindOf ((p,w)::P.zip vs) m p=_
  unfold bindL
  rw[mz fun v hv=>(List.nodup_cons.mp nd).1 (List.of_mem_zip hv).1,if_pos hk]
  simp
 |p::P,w::vs,i+1,m,nd,h1,h2,hk=>by
  show bindL kindOf ((p,w)::P.zip vs) m x=_
  unfold bindL
  exact mD (i:=i) (List.nodup_cons.mp nd).2 (by simpa using h1) (by simpa using h2) hk
theorem mF {kindOf:Str->Option NameKind}{x:Str}{v:Value}:∀{P:List Str}{vs:List Value}{i:Nat}{m:Str->Option Value},P.Nodup->P[i]?=some x->vs[i]?=some v->kindOf x≠some .local ->
  bindC kindOf (P.zip vs) m x=some v
 |[],_,_,_,_,h,_,_=>by simp at h
 |_::_,[],_,_,_,_,h,_=>by simp at h
 |p::P,w::vs,0,m,nd,h1,h2,hk=>by
  simp at h1 h2;subst h1;subst h2
  show bindC kindOf ((p,w)::P.zip vs) m p=_
  unfold bindC
  rw[mC fun v hv=>(List.nodup_cons.mp nd).1 (List.of_mem_zip hv).1,if_neg hk]
  simp
 |p::P,w::vs,i+1,m,nd,h1,h2,hk=>by
  show bindC kindOf ((p,w)::P.zip vs) m x=_
  unfold bindC
  exact mF (i:=i) (List.nodup_cons.mp nd).2 (by simpa using h1) (by simpa using h2) hk
def start (N:List Str) (vs:List V):St:=vs.map some++List.replicate (N.length - vs.length) none
def eU (CX:CXT) (P:Program) (w:World) (K:Frag) (mg:Str->Option Value) (base:Heap) (N:List Str) (qual:Str) (scope:Scope) (f:Addr) (cd:Value) (A:Around) (outer:List Env) (s:Shared) (H:Hp) (E:XK):Cx where
 prog:=P
 w:=w
 K:=K
 mg:=mg
 base:=base
 A:=A.deeper (envOfC qual scope s.heap.objs.size f cd)
 N:=N
 s₀:=s
 H₀:=H
 env:=envOfC qual scope s.heap.objs.size f cd
 outer:=outer
 stack:=envOfC qual scope s.heap.objs.size f cd::outer
 ex:=[]
 calm:=true
 fn:=fun _=>true
 pn:=[]
 xe:=fun e s'=>wpAny (model P w) (A.deeper (envOfC qual scope s.heap.objs.size f cd)) (leaving (envOfC qual scope s.heap.objs.size f cd) e) (fun _ s''=>CX outer H s E e s'') (fun e' s''=>CX outer H s E e' s'') s'
theorem ik {sc:Scope}{n:Nat}{x:Str}(h:sc.names.lookup x=some .cell):∃c,(cellsFrom n sc.names []).lookup x=some c:=by
 have q:=cellsFrom_some sc.names n [] (.inl h);exact Option.isSome_iff_exists.mp q
theorem mG {CX:CXT}{P:Program}{w:World}{K:Frag}{mg:Str->Option Value}{base:Heap}{N ps:List Str}{qual:Str}{scope:Scope}{f:Addr}{cd:Value}{A:Around}{outer:List Env}{s s1:Shared}{H:Hp}{E:XK}{us:List Value}{vs:List V}
  (S:FnScope N ps scope) (hd:A.handled=none) (e0:Env0 P w K mg base A outer s H) (hl:vs.length=ps.length) (r:Vals vs us)
  (x:InCallC s s.heap.objs.size (bindL (envOfC qual scope s.heap.objs.size f cd).kindOf (ps.zip us) fun _=>none) (cellsFrom (s.heap.objs.size+1) scope.names []) (bindC (envOfC qual scope s.heap.objs.size f cd).kindOf (ps.zip us) fun _=>none) s1) :
  Inv (eU CX P w K mg base N qual scope f cd A outer s H E) [] (start N vs) H s1:=by
 have hpl:ps.length<=N.length:=by have:=congrArg List.length S.pre;rw[List.length_take] at this;omega
 obtain⟨h1,tk,rfl,hk⟩:=x.done;have noA:∀b:Addr,b∉(eU CX P w K mg base N qual scope f cd A outer s H E).ex:=fun b z=>absurd (show b∈([]:List Addr) from z) (by simp);refine⟨⟨e0.mod,S.kind,rfl,rfl,Nat.le_refl _,fun y z c h1 h2=>?_,fun y hy=>?_,fun y c _ h=>?_,fun _=>hd,Around.frames_deeper e0.frames,.inr ⟨rfl,rfl⟩,fun b z=>absurd z (noA b),e0.bs,e0.bsz,fun b _ _=>noA b,fun b z=>absurd z (noA b),e0.funs,e0.frf⟩,
  rfl,e0.bare,Un.kept hk,⟨_,x.toInCall.ns,fun i y v h1 h2 h3=>?_⟩,fun y c h=>⟨_,x.cell y c h⟩,e0.hok.fresh (Nat.le_refl _),fun y c h=>?_,fun p hp=>absurd (show p∈([]:List (Addr × Obj)) from hp) (by simp),e0.hok.kept hk,?_⟩
 ·exact name_of_addr x.apart (mem_of_lookup h1) (mem_of_lookup h2)
 ·have hy:scope.names.lookup y=some .cell\/scope.names.lookup y=some .free:=hy;rcases hy with hy | hy
  ·exact ik hy
  exact absurd rfl (S.nofree _ (mem_of_lookup hy))
 ·exact Nat.le_of_lt (x.above y c (mem_of_lookup h))
 ·have hi:i<vs.length:=by
   unfold start at h2;by_cases hi:i<vs.length
   ·exact hi
   rw[List.getElem?_append_right (by simpa using hi)] at h2;rw[List.getElem?_replicate] at h2;split at h2 <;> cases h2
  have ha:vs[i]?=some v:=by
   unfold start at h2;rw[List.getElem?_append_left (by simpa using hi),List.getElem?_map] at h2;cases e:vs[i]? with
   |none=>rw[e] at h2;cases h2
   |some a=>rw[e] at h2;cases h2;rfl
  obtain⟨u,hu,rv⟩:=r.get ha;have hp:ps[i]?=some y:=by rw[<- S.pre,List.getElem?_take_of_lt (by omega)];exact h1
  have ndP:ps.Nodup:=by rw[<- S.pre];exact S.nd.sublist (List.take_sublist _ _)
  refine⟨u,rv,?_⟩;rcases S.par y (List.mem_of_getElem? hp) with k | k
  ·exact .inl ⟨k,mD ndP hp hu k⟩
  obtain⟨c,e⟩:=ik (n:=s.heap.objs.size+1) k;refine .inr ⟨.inl k,c,e,?_⟩;have q:=x.cell y c e;rw[mF ndP hp hu (by show scope.names.lookup y≠_;rw[k];decide)] at q;exact q
 ·exact e0.hok.fresh (Nat.le_of_lt (x.above y c (mem_of_lookup h)))
 unfold start;show _=N.length;rw[List.length_append,List.length_map,List.length_replicate];omega
theorem Gd {CX:CXT}{P:Program}{w:World}{K:Frag}{mg:Str->Option Value}{base:Heap}{k:Nat}{f:Addr}{name qual:Str}{params:Arguments}{body:List Stmt}{scope:Scope}{dV kV doc pm cdv ct oc:Value}{an od:Option Addr}
  {osl:Array (Option Value)} {N ps:List Str} {sp:Sp} (lk:K.lookup f=some ⟨oc,od,.func (fnOf name qual params body scope dV kV doc pm an cdv ct),osl⟩) (hcd:codeIn K cdv qual=true) (S:FnScope N ps scope)
  (len:∀vs H Q E,sp vs H Q E->vs.length=ps.length)
  (hbody:∀(A:Around) (outer:List Env) (s:Shared) (H:Hp) (vs:List V) (Q:VK) (E:XK),Room k (A.deeper (envOfC qual scope s.heap.objs.size f cdv))->sp vs H Q E ->
   ∃t,PSs (eU CX P w K mg base N qual scope f cdv A outer s H E) body t/\t { nx:=fun _ H'=>Q .non H',rt:=Q} (start N vs) H) :
  FnOk P w K mg base CX (k+1) f (fnOf name qual params body scope dV kV doc pm an cdv ct) ps sp:=by
 refine⟨len,fun A outer s H args us vs Q E hr e0 hb r hsp=>?_⟩;have hl:=len _ _ _ _ hsp;have KX:K.In s.heap:=e0.mod.kin.keeps fun b o e=>(e0.bs b o e).1;have lim:s.heap.NoLimit:=e0.mod.nolimit.keeps fun b o e=>(e0.bs b o e).1;have hkind:∀y∈ps.zip us,scope.names.lookup y.1=some .local\/(scope.names.lookup y.1=some .cell/\((cellsFrom (s.heap.objs.size+1) scope.names []).lookup y.1).isSome=true):=fun ⟨n,v⟩ hy=>by
  rcases S.par n (List.of_mem_zip hy).1 with q | q
  ·exact .inl q
  exact .inr ⟨q,cellsFrom_some _ _ _ (.inl q)⟩
 refine codeAny_call_function hr.depth (KX _ _ lk) rfl S.co S.gen rfl (codeRec_of KX hcd) (hb _ _ _ _ ?_);refine wpAny_newFunctionEnv_cells S.kind hkind fun env he s1 x=>?_;subst he;refine⟨lim.keeps x.toInCall.keep,codeAny_func ?_⟩;obtain⟨t,ht,hq⟩:=hbody A outer s H vs Q E (hr.deeper _) hsp;have I:Inv (eU CX P w K mg base N qual scope f cdv A outer s H E) [] (start N vs) H s1:=mG S hr.hd e0 hl r x;refine wpAny_mono (ht [] s1 (start N vs) H _ I hq) (fun fl s' hs=>?_) fun e s' hs=>hs;have fin:∀{U':St} {H':Hp} {v:V} {u:Value},Inv (eU CX P w K mg base N qual scope f cdv A outer s H E) [] U' H' s'->RelV v u->Q v H'->CE outer P w H s Q u s' :=
  fun {U' H' v u} J rv q=>⟨v,H',J.os,J.bare,J.base,J.hok,rv,q⟩
 cases fl with
 |ret u=>obtain⟨v,U',H',J,rv,q⟩:=hs;exact fin J rv q
 |next=>obtain⟨U',H',J,q⟩:=hs;exact fin (v:=V.non) (u:=Value.none) J rfl q
 |brk=>obtain⟨_,_,_,q⟩:=hs;exact False.elim q
 |cont =>
 obtain⟨_,_,_,q⟩:=hs;exact False.elim q
section
variable {X:Cx}{x:Str}{p pos:Pos}{e:Expr}{es:List Expr}{t:TA}{id T:String}{r:List V->Hp->VK->Prop}
def tCB (r:List V->Hp->VK->Prop) (t:TA):TE:=fun U H Q=>t U H fun vs H1=>r vs H1 Q
theorem xX (hc:CallR X (.builtin id) r) (hg:Gl X x) (hm:X.mg x=none) (hv:bootBuiltins x=some (.builtin id)) (ha:PA X (e::es) t) (hn:x≠"__name__":=by decide) (hdb:(x==("__debug__":Str))=false:=by decide)
  (he:starEach (e::es) X.env=(false,eval e X.env)::starEach es X.env:=by rfl) (hpl:(backTo pos (starEach es X.env)).any (·.1)=false:=by rfl):PE X (.Call (.Name x p) (e::es) [] pos) (tCB r t):=by
 intro pins s U H Q I h;refine wpAny_Call_Name_kw (eO I hg hm hv ?_ hn hdb);exact PyProof.Rows.callWith_builtin1 (thn (ha pos pins s U H _ I h) fun us s1 ⟨vs,H1,I1,r1,q1⟩=>hc pins s1 U H1 vs us Q I1 r1 q1) he hpl
theorem wF (hc:CallR X (.type T) r) (hg:Gl X x) (hm:X.mg x=none) (hv:bootBuiltins x=some (.type T)) (ha:PA X (e::es) t) (hn:x≠"__name__":=by decide) (hdb:(x==("__debug__":Str))=false:=by decide)
  (he:starEach (e::es) X.env=(false,eval e X.env)::starEach es X.env:=by rfl) (hpl:(backTo pos (starEach es X.env)).any (·.1)=false:=by rfl):PE X (.Call (.Name x p) (e::es) [] pos) (tCB r t):=by
 intro pins s U H Q I h;refine wpAny_Call_Name_kw (eO I hg hm hv ?_ hn hdb);exact PyProof.Rows.callWith_type1 (thn (ha pos pins s U H _ I h) fun us s1 ⟨vs,H1,I1,r1,q1⟩=>hc pins s1 U H1 vs us Q I1 r1 q1) he hpl
end
end L2
namespace HT
open PySem PyProof.Rows
section
open PySem.SeqAt
open PySem.AutoSeq1 (wpAny_loadPart')
open PySem.MeetsSeq PySem.MeetsSeq2 PySem.MeetsSeq3
variable {prog:Program}{w:World}{A:Around}{E:Value->Shared->Prop}{s:Shared}
theorem cat_tup {t b:Addr}{vs ws:List Value}{Q:Value->Shared->Prop}(ht:IsTup s.heap t vs.toArray) (hb:IsTup s.heap b ws.toArray) (hv:vs≠[])
  (h1:ws=[]->Q (.ref t) s) (h2:ws≠[]->Q (.ref s.heap.objs.size) { s with heap:=s.heap.push { cls:=.type "tuple",data:=.seq (vs++ws).toArray}})
  (hsz:vs.length+ws.length<=sizeLine):wpAny (model prog w) A (binaryOp .Add (.ref t) (.ref b)) Q E s:=by
 obtain⟨⟨cls,dd,data,sl⟩,ho,hc,n,hd⟩:=id ht;obtain⟨⟨cls2,dd2,data2,sl2⟩,ho2,hc2,n2,hd2⟩:=id hb;simp only at hc hd hc2 hd2;subst hc hd hc2 hd2;have e:vs.toArray++ws.toArray=(vs++ws).toArray:=by simp
 by_cases hw:ws=[]
 ·exact concat_meets ⟨_,ho,rfl⟩ ⟨_,ho2,rfl⟩ noFill_tuple_add seq_tuple_add PySem.F.slot_tuple_add PySem.F.entry_tuple_add (PySem.F.args_tuple_add_2 _ _)
   (tuple_addW1 t b vs.toArray ws.toArray n n2 dd dd2 sl sl2 (by simpa using hv) (by simp [hw])) ⟨ho,ho2,h1 hw⟩
 refine concat_meets ⟨_,ho,rfl⟩ ⟨_,ho2,rfl⟩ noFill_tuple_add seq_tuple_add PySem.F.slot_tuple_add PySem.F.entry_tuple_add (PySem.F.args_tuple_add_2 _ _)
  (tuple_addW2 t b vs.toArray ws.toArray n n2 dd dd2 sl sl2 (by simpa using hv) (by simpa using hw) (by rw[List.size_toArray,List.size_toArray];exact hsz)) ⟨ho,ho2,?_⟩
 rw[e];exact h2 hw
def sIx (n d:Nat):Option Int->Nat
 |none=>d
 |some v=>if v<0 then (v+(n:Int)).toNat else min v.toNat n
theorem sIx_none (n d:Nat):sIx n d none=d:=rfl
theorem sIx_nat (n d k:Nat):sIx n d (some (k:Int))=min k n:=by
 show (if (k:Int)<0 then ((k:Int)+(n:Int)).toNat else min (k:Int).toNat n)=min k n;rw[if_neg (by omega),Int.toNat_natCast]
theorem IW (n d:Nat) (hd:d<=n) (o:Option Int):sIx n d o<=n:=by
 cases o with
 |none=>exact hd
 |some v =>
  show (if v<0 then (v+(n:Int)).toNat else min v.toNat n)<=n
  by_cases hv:v<0
  ·
   rw[if_pos hv];omega
  ·
   rw[if_neg hv];exact Nat.min_le_right _ _
theorem uM (v:Int) (n d:Nat):(if v<0 then max (v+(n:Int)) 0 else min v (n:Int))=((sIx n d (some v):Nat):Int):=by
 show (if v<0 then max (v+(n:Int)) 0 else min v (n:Int))=(((if v<0 then (v+(n:Int)).toNat else min v.toNat n):Nat):Int);by_cases hv:v<0
 ·simp only[if_pos hv];omega
 simp only[if_neg hv];omega
theorem sX (lo hi:Option Int) (n:Nat):Builtin.Slice.sliceAdjust lo hi 1 (n:Int)=(((sIx n 0 lo:Nat):Int),((sIx n n hi:Nat):Int)):=by
 have h1:¬((1:Int)<0):=by omega
 unfold Builtin.Slice.sliceAdjust;simp only[h1,if_false];refine Prod.ext ?_ ?_
 ·cases lo with
  |none=>rfl
  |some v=>exact uM v n 0
 cases hi with
 |none=>rfl
 |some v=>exact uM v n n
theorem sY (i j:Nat):Builtin.Slice.slicePlaces (i:Int) (j:Int) 1=j - i:=by
 unfold Builtin.Slice.slicePlaces;have h1:(1:Int)>0:=by omega
 simp only[h1,if_true,Int.ediv_one];split <;> omega
theorem j9 {v:Value}{o:Option Int}{Q:Option Int->Shared->Prop}(p:IsPart v o) (h:Q o s):wpAny (model prog w) A (Builtin.Slice.slicePartIndex v) Q E s:=by
 cases p with
 |none=>exact slicePart_none h
 |int i t=>exact slicePart_int h
theorem iY {sl:Addr}{vl vu:Value}{lo hi:Option Int}{n:Nat}{Q:Int × Int × Nat->Shared->Prop}(hs:s.heap.IsSliceOf sl vl vu .none) (pl:IsPart vl lo) (pu:IsPart vu hi)
  (h:Q (((sIx n 0 lo:Nat):Int),1,sIx n n hi - sIx n 0 lo) s):wpAny (model prog w) A (Builtin.Slice.sliceApplied (.ref sl) (pure (n:Int))) Q E s:=by
 obtain⟨os,hos,hcs,hds⟩:=id hs;unfold Builtin.Slice.sliceApplied Builtin.Slice.sliceFields;refine wpAny_bind (wpAny_bind (wpAny_field hos hds (x:=vl) rfl (wpAny_bind (wpAny_field hos hds (x:=vu) rfl (wpAny_bind (wpAny_field hos hds (x:=.none) rfl (wpAny_pure ?_)))))));refine wpAny_bind (slicePart_none ?_);show wpAny _ _ (if ((1:Int)==0)=true then _ else _) _ _ s;rw[if_neg (by decide)];refine wpAny_bind (j9 pl (wpAny_bind (j9 pu (wpAny_bind (wpAny_pure ?_)))));show wpAny _ _ (match Builtin.Slice.sliceAdjust lo hi 1 (n:Int) with | (lo,hi)=>pure (lo,(1:Int),Builtin.Slice.slicePlaces lo hi 1)) _ _ s;rw[sX lo hi n];show wpAny _ _ (pure (((sIx n 0 lo:Nat):Int),(1:Int),Builtin.Slice.slicePlaces ((sIx n 0 lo:Nat):Int) ((sIx n n hi:Nat):Int) 1)) _ _ s;rw[sY];exact wpAny_pure h
theorem xY (xs : Array Value) (i k : Nat) : ((List.range k).filterMap fun (m : Nat) => xs[((i : Int) + (m : Int) * 1).toNat]?).toArray = ((xs.toList.drop i).take k).toArray:=by
 have e:(fun (m:Nat)=>xs[((i:Int)+(m:Int)*1).toNat]?)=fun m=>xs[i+m]?:=by
  funext m;have:((i:Int)+(m:Int)*1).toNat=i+m:=by omega
  rw[this]
 rw [e];have:=pick_run xs i k;rw [List.filterMap_map] at this;have e2 : ((fun x => xs[x]?) ∘ fun x => i + x) = fun m => xs[i + m]?:=rfl;rw [e2] at this;rw [this]
theorem getItem_tuple_cut {t sl:Addr}{items:Array Value}{vl vu:Value}{lo hi:Option Int}{Q:Value->Shared->Prop}(ht:IsTup s.heap t items) (hs:s.heap.IsSliceOf sl vl vu .none) (pl:IsPart vl lo) (pu:IsPart vu hi)
  (hw:¬(sIx items.size 0 lo=0/\sIx items.size items.size hi=items.size))
  (h:Q (.ref s.heap.objs.size) { s with heap:=s.heap.push { cls:=.type "tuple",data:=.seq ((items.toList.drop (sIx items.size 0 lo)).take (sIx items.size items.size hi - sIx items.size 0 lo)).toArray}})
  (hsz:items.size<=sizeLine):wpAny (model prog w) A (getItem (.ref t) (.ref sl)) Q E s:=by
 have htake:sizeOk (.seq ((items.toList.drop (sIx items.size 0 lo)).take (sIx items.size items.size hi - sIx items.size 0 lo)).toArray):=by show ((items.toList.drop (sIx items.size 0 lo)).take (sIx items.size items.size hi - sIx items.size 0 lo)).toArray.size<=sizeLine;rw[List.size_toArray,List.length_take,List.length_drop,Array.length_toList];omega
 have hj:sIx items.size items.size hi<=items.size:=IW _ _ (Nat.le_refl _) hi;obtain⟨os,hos,hcs,hds⟩:=id hs;have hTs:s.TypeIs (.ref sl) "slice":=⟨os,hos,hcs⟩;unfold getItem;try with_reducible refine wpAny_holding ?_
 first | refine wpAny_bind (wpAny_pure ?_) | skip
 refine wpAny_bind (wpAny_sequenceKey ht.typeIs (by decide) ?_);refine wpAny_bind (wpAny_callSpecial?_slot (name:=Str.ofString "__getitem__") ht.typeIs PyProof.Rows.slot_tuple_getitem
  (wpAny_call_entry PyProof.Rows.slot_tuple_getitem ht.typeIs entry_tuple_getitem ?_ (args_tuple_getitem _ _)))
 show wpAny _ _ (Builtin.Tuple.tupleItemsOf (.ref t) >>= _) _ _ s;refine wpAny_bind (tupleItemsOf_ ht ?_);refine wpAny_bind (wpAny_typeOf hTs ?_);rw[if_pos (by decide)];refine wpAny_bind (iY hs pl pu ?_);have hno:¬((((sIx items.size 0 lo:Nat):Int)==0&&(1:Int)==1&&(sIx items.size items.size hi - sIx items.size 0 lo)==items.size)=true):=by intro q;rw[Bool.and_eq_true,Bool.and_eq_true] at q;have q1:((sIx items.size 0 lo:Nat):Int)=0:=eq_of_beq q.1.1;have q2:sIx items.size items.size hi - sIx items.size 0 lo=items.size:=eq_of_beq q.2;exact hw ⟨by omega,by omega⟩
 show wpAny _ _ (if (((sIx items.size 0 lo:Nat):Int)==0&&(1:Int)==1&&(sIx items.size items.size hi - sIx items.size 0 lo)==items.size)=true then _ else _) _ _ s;rw[if_neg hno,xY];first
  |exact wpAny_bind (m:=Builtin.Tuple.tupleExact _) (wpAny_newObj_type (wpAny_pure ⟨_,rfl,wpAny_pure h⟩) htake)
  |exact wpAny_bind (m:=Builtin.Tuple.tupleExact _) (wpAny_newObj_type (wpAny_bind (wpAny_pure (wpAny_pure ⟨_,rfl,wpAny_pure h⟩))) htake)
  |exact wpAny_bind (wpAny_bind (m:=Builtin.Tuple.tupleExact _) (wpAny_newObj_type (wpAny_pure (wpAny_pure ⟨_,rfl,wpAny_pure h⟩)) htake))
  |exact wpAny_bind (wpAny_bind (m:=Builtin.Tuple.tupleExact _) (wpAny_newObj_type (wpAny_pure ⟨_,rfl,wpAny_pure h⟩) htake))
end
end HT
namespace L2
abbrev TO:=St->Hp->(Option Int->Hp->Prop)->Prop
def PO (X:Cx) (e:Option Expr) (t:TO):Prop :=
 ∀(pins:List (Addr × Obj)) (s:Shared) (U:St) (H:Hp) (Q:Option Int->Hp->Prop),Inv X pins U H s->t U H Q ->
  wpAny (model X.prog X.w) X.A (evalPart e X.env) (fun u s'=>∃o H',Inv X pins U H' s'/\IsPart u o/\Q o H') X.xe s
def Cz:TO:=fun _ H Q=>Q none H
def Mm (t:TE):TO:=fun U H Q=>t U H fun x H1=>∃i,x=.int i/\Q (some i) H1
section
variable {X:Cx}{e:Expr}{te:TE}{lo hi:Option Expr}{tl th:TO}{pos p2:Pos}
theorem CG:PO X none Cz:=by
 intro pins s U H Q I h;rw[evalPart_none];exact wpAny_pure ⟨none,H,I,.none,h⟩
theorem CJ (h:PE X e te):PO X (some e) (Mm te):=by
 intro pins s U H Q I hw;rw[evalPart_some];refine thn (h pins s U H _ I hw) fun u s1 ⟨x,H1,I1,r1,q1⟩=>?_;obtain⟨i,rfl,q⟩:=q1;obtain⟨t,rfl⟩:=r1;exact⟨some i,H1,I1,.int i t,q⟩
def SlR (X:Cx) (r:V->Option Int->Option Int->Hp->VK->Prop):Prop :=
 ∀(pins:List (Addr × Obj)) (s:Shared) (U:St) (H:Hp) (x:V) (v vl vu:Value) (lo hi:Option Int) (sl:Addr) (Q:VK),Inv X pins U H s->RelV x v->s.heap.IsSliceOf sl vl vu .none->IsPart vl lo->IsPart vu hi->r x lo hi H Q ->
  ∃T id,typeLookup (.type T) "__getitem__"=pure (some (.builtin id))/\s.TypeIs v T/\wpAny (model X.prog X.w) X.A (getItem v (.ref sl)) (EP X pins U Q) X.xe s
theorem SlR.or {r r':V->Option Int->Option Int->Hp->VK->Prop}(h:SlR X r) (h':SlR X r'):SlR X (fun x lo hi H Q=>r x lo hi H Q\/r' x lo hi H Q):=by
 intro pins s U H x v vl vu lo hi sl Q I rx hs pl pu q;rcases q with q | q
 ·exact h pins s U H x v vl vu lo hi sl Q I rx hs pl pu q
 exact h' pins s U H x v vl vu lo hi sl Q I rx hs pl pu q
def tSl (r:V->Option Int->Option Int->Hp->VK->Prop) (te:TE) (tl th:TO):TE:=fun U H Q=>te U H fun x H1=>tl U H1 fun l H2=>th U H2 fun u H3=>r x l u H3 Q
theorem xZ {r:V->Option Int->Option Int->Hp->VK->Prop}(hr:SlR X r) (he:PE X e te) (hl:PO X lo tl) (hu:PO X hi th):PE X (.Subscript e (.Slice lo hi none p2) pos) (tSl r te tl th):=by
 intro pins s U H Q I h;refine Subscript_ (thn (he pins s U H _ I h) fun v s1 ⟨x,H1,I1,r1,q1⟩=>?_);refine wpAny_Slice (thn (hl pins s1 U H1 _ I1 q1) fun vl s2 ⟨l,H2,I2,pl,q2⟩=>thn (hu pins s2 U H2 _ I2 q2) fun vu s3 ⟨u,H3,I3,pu,q3⟩=>?_);rw[evalPart_none];refine wpAny_pure ?_;have I4:Inv X pins U H3 { s3 with heap:=s3.heap.push { cls:=.type "slice",data:=.fields #[vl,vu,.none]}}:=I3.kept (t':=s3.toks) fun b ob q=>Heap.get?_push_of_some _ q;obtain⟨T,id,hT,ht,hg⟩:=hr pins { s3 with heap:=s3.heap.push { cls:=.type "slice",data:=.fields #[vl,vu,.none]}} U H3 x v vl vu l u s3.heap.objs.size Q I4 r1 (Heap.IsSliceOf.new ..) pl pu q3;show wpAny (model X.prog X.w) X.A (subscriptTail e (.Slice lo hi none p2) v (.ref s3.heap.objs.size)) (EP X pins U Q) X.xe { s3 with heap:=s3.heap.push { cls:=.type "slice",data:=.fields #[vl,vu,.none]}};exact tail_any (ops:=[.ref s3.heap.objs.size,v]) ht hT hg (by with_unfolding_all rfl)
def qu (xs:List V) (lo hi:Option Int):List V:=(xs.drop (HT.sIx xs.length 0 lo)).take (HT.sIx xs.length xs.length hi - HT.sIx xs.length 0 lo)
theorem jr (xs:List V) (lo hi:Option Int):(qu xs lo hi).length<=xs.length:=by
 unfold qu;rw[List.length_take,List.length_drop];omega
def Qi (K:Frag):V->Option Int->Option Int->Hp->VK->Prop:=fun x lo hi H Q=>∃a xs,x=.ref a/\SqT K H a xs /\
 ¬(HT.sIx xs.length 0 lo=0/\HT.sIx xs.length xs.length hi=xs.length)/\∀p,H p=none->Q (.ref p) (upd H p (.tup (qu xs lo hi)))
theorem sl_tup:SlR X (Qi X.K):=by
 intro pins s U H x v vl vu lo hi sl Q I rx hs pl pu h;obtain⟨a,xs,rfl,hx,hw,q⟩:=h;cases rx;obtain⟨its,r,ht,hz⟩:=I.tuple hx;have hlen:its.toArray.size=xs.length:=by rw[List.size_toArray];exact r.length.symm
 refine⟨"tuple",_,PyProof.Rows.slot_tuple_getitem.lookup,ht.typeIs,?_⟩;refine HT.getItem_tuple_cut ht hs pl pu (by rw[hlen];exact hw) ?_ (by rw[hlen];exact hz);rw[hlen];refine⟨.ref s.heap.objs.size,_,I.laid (t':=s.toks) (o:=.tup (qu xs lo hi)) (fun b ob q=>Heap.get?_push_of_some _ q) (Nat.le_refl _) ?_,rfl,q _ (I.hok.fresh (Nat.le_refl _))⟩;exact⟨Nat.le_trans (jr xs lo hi) hz,_,(r.drop (HT.sIx xs.length 0 lo)).take (HT.sIx xs.length xs.length hi - HT.sIx xs.length 0 lo),Tup0.new _ _⟩
def Mp (K:Frag):R2:=fun x y H Q=>∃a b xs ys,x=.ref a/\y=.ref b/\SqT K H a xs/\SqT K H b ys/\xs≠[]/\xs.length+ys.length<=sizeLine /\
 (ys=[]->Q (.ref a) H)/\(ys≠[]->∀p,H p=none->Q (.ref p) (upd H p (.tup (xs++ys))))
theorem Vals.nil_iff {xs:List V}{us:List Value}(r:Vals xs us):us=[]↔xs=[]:=by
 cases r with
 |nil=>simp
 |cons _ _=>simp
theorem op_catT:OpR X (binaryOp .Add) (Mp X.K):=by
 intro pins s U H x y v u Q I rx ry h;obtain⟨a,b,xs,ys,rfl,rfl,ha,hb,hx,hz,q1,q2⟩:=h;cases rx;cases ry;obtain⟨its,r1,p1,_⟩:=I.tuple ha;obtain⟨its2,r2,p2,_⟩:=I.tuple hb;refine HT.cat_tup p1 p2 (fun z=>hx (r1.nil_iff.mp z)) (fun z=>⟨.ref a,H,I,rfl,q1 (r2.nil_iff.mp z)⟩) (fun z=>?_) (by rw[<- r1.length,<- r2.length];exact hz);refine⟨.ref s.heap.objs.size,_,I.laid (t':=s.toks) (o:=.tup (xs++ys)) (fun b ob q=>Heap.get?_push_of_some _ q) (Nat.le_refl _) ?_,rfl,q2 (fun w=>z (r2.nil_iff.mpr w)) _ (I.hok.fresh (Nat.le_refl _))⟩;exact⟨by rw[List.length_append];exact hz,_,r1.append r2,Tup0.new _ _⟩
end
def ixN (n:Nat) (i:Int):Option Nat:=if 0<=i then (if i<n then some i.toNat else none) else if -(n:Int)<=i then some (i+n).toNat else none
def atI {α:Type}(xs:List α) (i:Int):Option α:=(ixN xs.length i).bind fun j=>xs[j]?
theorem nY {n:Nat}{i:Int}{j:Nat}(h:ixN n i=some j):seqIndex? i n=some j/\j<n /\ -(n:Int)<=i/\i<n:=by
 unfold ixN at h;by_cases h0:0<=i
 ·rw[if_pos h0] at h;by_cases h1:i<n
  ·rw[if_pos h1] at h;have e:i.toNat=j:=Option.some.inj h;exact⟨by rw[seqIndex_of h0 h1,e],by omega,by omega,h1⟩
  rw[if_neg h1] at h;cases h
 rw[if_neg h0] at h;by_cases h1 : -(n:Int)<=i
 ·rw[if_pos h1] at h;have e:(i+n).toNat=j:=Option.some.inj h;exact⟨by rw[seqIndex_neg (by omega) h1,e],by omega,h1,by omega⟩
 rw[if_neg h1] at h;cases h
theorem nZ {α:Type}{xs:List α}{i:Int}{v:α}(h:atI xs i=some v):∃j,seqIndex? i xs.length=some j/\xs[j]?=some v/\j<xs.length /\ -(xs.length:Int)<=i/\i<xs.length:=by
 unfold atI at h;cases e:ixN xs.length i with
 |none=>rw[e] at h;cases h
 |some j =>
 rw[e] at h;obtain⟨h1,h2,h3,h4⟩:=nY e;exact⟨j,h1,h,h2,h3,h4⟩
theorem cI {α:Type}{xs:List α}{j:Nat}{v:α}(h:xs[j]?=some v):atI xs (j:Int)=some v:=by
 have hj:j<xs.length:=(List.getElem?_eq_some_iff.mp h).1;have e:ixN xs.length (j:Int)=some j:=by unfold ixN;rw[if_pos (by omega),if_pos (by omega)];simp
 unfold atI;rw[e];exact h
def uN (b:Expr):Prop:=∀o i,subscripted b false o i=operate [o,i] (getItem o i)
def IxR (X:Cx) (r:R2):Prop :=
 ∀(value slice:Expr) (pins:List (Addr × Obj)) (s:Shared) (U:St) (H:Hp) (x y:V) (v u:Value) (Q:VK),Inv X pins U H s->RelV x v->RelV y u->r x y H Q ->
  subscripted slice false v u=operate [v,u] (getItem v u)->wpAny (model X.prog X.w) X.A (subscriptTail value slice v u) (EP X pins U Q) X.xe s
def MtR (X:Cx) (id:String) (r:V->List V->Hp->VK->Prop):Prop :=
 ∀(pins:List (Addr × Obj)) (s:Shared) (U:St) (H:Hp) (x:V) (xs:List V) (v:Value) (us:List Value) (Q:VK),Inv X pins U H s->RelV x v->Vals xs us->r x xs H Q ->
  wpAny (model X.prog X.w) X.A (call (.builtin id) (v::us)) (EP X pins U Q) X.xe s
section
variable {X:Cx}{a b:Expr}{ta tb:TE}{pos:Pos}
theorem IxR.or {r r':R2}(h:IxR X r) (h':IxR X r'):IxR X (fun x y H Q=>r x y H Q\/r' x y H Q):=by
 intro value slice pins s U H x y v u Q I rx ry q hs;rcases q with q | q
 ·exact h value slice pins s U H x y v u Q I rx ry q hs
 exact h' value slice pins s U H x y v u Q I rx ry q hs
theorem MtR.or {id:String}{r r':V->List V->Hp->VK->Prop}(h:MtR X id r) (h':MtR X id r'):MtR X id (fun x xs H Q=>r x xs H Q\/r' x xs H Q):=by
 intro pins s U H x xs v us Q I rx rs q;rcases q with q | q
 ·exact h pins s U H x xs v us Q I rx rs q
 exact h' pins s U H x xs v us Q I rx rs q
theorem Mq {r:R2}(hr:IxR X r) (ha:PE X a ta) (hb:PE X b tb) (hs:uN b):PE X (.Subscript a b pos) (tOp r ta tb):=by
 intro pins s U H Q I h;exact Subscript_ (Io ha hb I h fun v u s2 x y H2 I2 rx ry q=>hr a b pins s2 U H2 x y v u Q I2 rx ry q (hs _ _))
def Mr (K:Frag):R2:=fun x y H Q=>∃p xs i v,x=.ref p/\y=.int i/\SqL K H p xs/\atI xs i=some v/\Q v H
def Ms (K:Frag):R2:=fun x y H Q=>∃p xs i v,x=.ref p/\y=.int i/\SqT K H p xs/\atI xs i=some v/\Q v H
def Mt:R2:=fun x y H Q=>∃z i c,x=.str z/\y=.int i/\z.length<=sizeLine/\atI z.cps.toList i=some c/\Q (.str ⟨#[c]⟩) H
theorem ix_list:IxR X (Mr X.K):=by
 intro value slice pins s U H x y v u Q I rx ry h hs;obtain⟨p,xs,i,z,rfl,rfl,hq,he,q⟩:=h;cases rx;obtain⟨t,rfl⟩:=ry;obtain⟨its,r,pl,hz⟩:=I.list hq;obtain⟨j,h1,h2,h3,h4,h5⟩:=nZ he;obtain⟨w,ew,rw'⟩:=r.get h2;have hl:=r.length;have hn:=fZ;have fin:EP X pins U Q w s:=⟨z,H,I,rw',q⟩;by_cases h0:0<=i
 ·have hj:i.toNat=j:=by rw[seqIndex_of h0 h5] at h1;exact Option.some.inj h1
  exact item_listR pl.isList h0 (by omega) (by rw[hj];simpa using ew) fin hs
 have hj:(i+(its.toArray.size:Int)).toNat=j:=by rw[seqIndex_neg (by omega) h4] at h1;rw[List.size_toArray,<- hl];exact Option.some.inj h1
 exact subscriptTail_builtinR (x:=w) pl.isList.typeIs slot_list_getitem.lookup
  (wpAny_getItem_list_neg (Q:=fun r s'=>r=w/\EP X pins U Q r s') pl.isList (by omega) (by rw[List.size_toArray] <;> omega) (by omega) (by rw[hj];simpa using ew) ⟨rfl,fin⟩) hs
theorem ix_tup:IxR X (Ms X.K):=by
 intro value slice pins s U H x y v u Q I rx ry h hs;obtain⟨p,xs,i,z,rfl,rfl,hq,he,q⟩:=h;cases rx;obtain⟨t,rfl⟩:=ry;obtain⟨its,r,pl,hz⟩:=I.tuple hq;obtain⟨j,h1,h2,h3,h4,h5⟩:=nZ he;obtain⟨w,ew,rw'⟩:=r.get h2;have hl:=r.length;have hn:=fZ;have fin:EP X pins U Q w s:=⟨z,H,I,rw',q⟩;exact subscriptTail_builtinR (x:=w) pl.typeIs slot_tuple_getitem.lookup
  (getItem_tuple (j:=j) (Q:=fun r s'=>r=w/\EP X pins U Q r s') pl (by omega) (by omega) (by rw[List.size_toArray,<- hl];exact h1) (by simpa using ew) ⟨rfl,fin⟩) hs
theorem Ja:IxR X Mt:=by
 intro value slice pins s U H x y v u Q I rx ry h hs;obtain⟨z,i,c,rfl,rfl,hz,he,q⟩:=h;obtain⟨t,rfl⟩:=rx;obtain⟨t',rfl⟩:=ry;obtain⟨j,h1,h2,h3,h4,h5⟩:=nZ he;have hl:z.cps.toList.length=z.length:=by simp [Str.length]
 rw[hl] at h1 h4 h5;have hn:=fZ;exact tail_any (typeIs_str s z t) slot_str_getitem.lookup (getItem_str (c:=c) (by
  have e1:decide (i < -(2^63:Int))=false:=decide_eq_false (by omega)
  have e2:decide (i ≥ 2^63)=false:=decide_eq_false (by omega)
  rw[e1,e2,Bool.or_false]) (by rw[h1];simpa using h2) ⟨.str ⟨#[c]⟩,H,I.tok _,⟨_,rfl⟩,q⟩) hs
def rIx (K:Frag):R2:=fun x y H Q=>Mr K x y H Q\/Ms K x y H Q\/Mt x y H Q
theorem Jb:IxR X (rIx X.K):=ix_list.or (ix_tup.or Ja)
theorem sZ (its:List Value) (n j:Nat) (u:Value):Obj.mapSeq (·.setIfInBounds j u) { cls:=.type "list",data:=.seq its.toArray n}={ cls:=.type "list",data:=.seq (its.set j u).toArray n}:=by
 simp [Obj.mapSeq]
theorem Inv.lst {pins:List (Addr × Obj)}{U:St}{H:Hp}{s:Shared}{p:Addr}{xs:List V}(I:Inv X pins U H s) (h:H p=some (.lst xs)) :
  ∃(its:List Value) (n:Nat),Vals xs its/\s.heap.get? p=some { cls:=.type "list",data:=.seq its.toArray n}/\xs.length<=sizeLine:=by
 obtain⟨z,its,n,r,e⟩:=I.hok p _ h;exact⟨its,n,r,e,z⟩
theorem Inv.lstUpd {pins:List (Addr × Obj)}{U:St}{H:Hp}{s:Shared}{p:Addr}{xs ys:List V}{its its':List Value}{n n':Nat}{f:Obj->Obj}(I:Inv X pins U H s) (h:H p=some (.lst xs))
  (ho:s.heap.get? p=some { cls:=.type "list",data:=.seq its.toArray n}) (hf:f { cls:=.type "list",data:=.seq its.toArray n}={ cls:=.type "list",data:=.seq its'.toArray n'}) (r:Vals ys its') (hz:ys.length<=sizeLine) (t:Nat) :
  Inv X pins U (upd H p (.lst ys)) { s with heap:=s.heap.update p f,toks:=t}:=by
 have e:(s.heap.update p f).get? p=some { cls:=.type "list",data:=.seq its'.toArray n'}:=by rw[Heap.get?_update_self f ho (by rw[hf] <;> rfl),hf]
 refine I.write (x:=p) (e:=p) (by rw[h];trivial) (.inl rfl) (fun b u hb q=>(Heap.get?_update_other _ _ (Ne.symm hb)).trans q) ⟨_,e⟩ ?_;exact⟨hz,its',n',r,e⟩
def Mu:V->V->V->Hp->(Hp->Prop)->Prop:=fun o i v H Q=>∃p xs k j,o=.ref p/\i=.int k/\H p=some (.lst xs)/\ixN xs.length k=some j/\Q (upd H p (.lst (xs.set j v)))
theorem set_list:PSet X Mu:=by
 intro pins s U H o i v ov iv u Q I ro ri rv h;obtain⟨p,xs,k,j,rfl,rfl,hp,hj,q⟩:=h;cases ro;obtain⟨t,rfl⟩:=ri;obtain⟨its,n,r,ho,hz⟩:=I.lst hp;obtain⟨h1,h2,h3,h4⟩:=nY hj;have hl:=r.length;have hn:=fZ;have I':Inv X pins U (upd H p (.lst (xs.set j v))) { s with heap:=s.heap.update p (Obj.mapSeq (·.setIfInBounds j u))} :=
  I.lstUpd hp ho (sZ its n j u) (r.set rv j) (by rw[List.length_set];exact hz) s.toks
 by_cases h0:0<=k
 ·have hk:k.toNat=j:=by rw[seqIndex_of h0 h4] at h1;exact Option.some.inj h1
  exact PySem.W.ki_setAt ho h0 (by omega) (by rw[List.size_toArray,<- hl];exact h4) (by rw[hk];exact⟨_,I',q⟩)
 have hk:(k+(its.toArray.size:Int)).toNat=j:=by rw[seqIndex_neg (by omega) h3] at h1;rw[List.size_toArray,<- hl];exact Option.some.inj h1
 exact PySem.W.ki_setBack ho (by omega) (by rw[List.size_toArray,<- hl];exact h3) (by omega) (by rw[hk];exact⟨_,I',q⟩)
theorem oh (lo hi:Option Int) (n:Nat):(sliceBounds lo hi none n).1=((HT.sIx n 0 lo:Nat):Int)/\(sliceBounds lo hi none n).2.1=((HT.sIx n n hi:Nat):Int)/\(sliceBounds lo hi none n).2.2=1:=by
 refine⟨?_,?_,rfl⟩
 ·cases lo with
  |none=>simp [sliceBounds,HT.sIx]
  |some i =>
  simp only[sliceBounds,HT.sIx,Option.getD_none,show (1:Int)>0 by decide,if_true];by_cases h:i<0
  ·simp only[h,if_true] <;> omega
  simp only[h,if_false] <;> omega
 cases hi with
 |none=>simp [sliceBounds,HT.sIx]
 |some i =>
 simp only[sliceBounds,HT.sIx,Option.getD_none,show (1:Int)>0 by decide,if_true];by_cases h:i<0
 ·simp only[h,if_true] <;> omega
 simp only[h,if_false] <;> omega
theorem lQ (its:List Value) (lo hi:Option Int):slicePick its.toArray lo hi none=((its.drop (HT.sIx its.length 0 lo)).take (HT.sIx its.length its.length hi - HT.sIx its.length 0 lo)).toArray:=by
 obtain⟨h1,h2,h3⟩:=oh lo hi its.toArray.size;unfold slicePick;rw[h1,h2,h3];simp only[sliceRange_one,pick_run,List.size_toArray] <;> rfl
def Qj (K:Frag):V->Option Int->Option Int->Hp->VK->Prop:=fun x lo hi H Q=>∃a xs,x=.ref a/\SqL K H a xs/\∀p,H p=none->Q (.ref p) (upd H p (.lst (qu xs lo hi)))
theorem sl_list:SlR X (Qj X.K):=by
 intro pins s U H x v vl vu lo hi sl Q I rx hs pl pu h;obtain⟨a,xs,rfl,hx,q⟩:=h;cases rx;obtain⟨its,r,ht,hz⟩:=I.list hx;have hlen:=r.length;refine⟨"list",_,slot_list_getitem.lookup,ht.isList.typeIs,?_⟩;refine wpAny_getItem_list_slice ht.isList hs pl pu .none (by simp) ?_ (by rw[List.size_toArray] <;> omega);rw[lQ,<- hlen];refine⟨.ref s.heap.objs.size,_,I.laid (t':=s.toks) (o:=.lst (qu xs lo hi)) (fun b ob q=>Heap.get?_push_of_some _ q) (Nat.le_refl _) ?_,rfl,q _ (I.hok.fresh (Nat.le_refl _))⟩;exact⟨Nat.le_trans (jr xs lo hi) hz,_,0,(r.drop (HT.sIx xs.length 0 lo)).take (HT.sIx xs.length xs.length hi - HT.sIx xs.length 0 lo),Heap.get?_push_size _ rfl⟩
theorem call_len_seq:CallR X (.builtin "len") (fun xs H Q=>∃p ys,xs=[.ref p]/\(SqL X.K H p ys\/SqT X.K H p ys)/\Q (.int ys.length) H):=by
 intro pins s U H xs us Q I r h;obtain⟨p,ys,rfl,hq,q⟩:=h;obtain⟨u,rfl,rx⟩:=vals1 r;cases rx;have hn:=fZ;rcases hq with hq | hq
 ·obtain⟨its,r',pl,hz⟩:=I.list hq;have hlen:=r'.length;exact Calls.call_len_list pl.isList (by simp only[List.size_toArray] <;> omega) ⟨.int ys.length,H,I.tok _,⟨s.toks+1,by rw[List.size_toArray,hlen]⟩,q⟩
 obtain⟨its,r',pl,hz⟩:=I.tuple hq;have hlen:=r'.length;exact len_tuple pl (by simp only[List.size_toArray] <;> omega) ⟨.int ys.length,H,I.tok _,⟨s.toks+1,by rw[List.size_toArray,hlen]⟩,q⟩
theorem ou:CallR X (.builtin "len") (fun xs H Q=>∃z,xs=[.str z]/\z.length<=sizeLine/\Q (.int z.length) H):=by
 intro pins s U H xs us Q I r h;obtain⟨z,rfl,hz,q⟩:=h;obtain⟨u,rfl,t,rfl⟩:=vals1 r;have hn:=fZ;exact len_str (by omega) ⟨.int z.length,H,I.tok _,⟨_,rfl⟩,q⟩
theorem CallR.or {f:Value}{r r':List V->Hp->VK->Prop}(h:CallR X f r) (h':CallR X f r'):CallR X f (fun xs H Q=>r xs H Q\/r' xs H Q):=by
 intro pins s U H xs us Q I rs q;rcases q with q | q
 ·exact h pins s U H xs us Q I rs q
 exact h' pins s U H xs us Q I rs q
theorem oA:CallR X (.type "list") (fun xs H Q=>∃p ys,xs=[.ref p]/\(SqL X.K H p ys\/SqT X.K H p ys)/\∀l,H l=none->Q (.ref l) (upd H l (.lst ys))):=by
 intro pins s U H xs us Q I r h;obtain⟨p,ys,rfl,hq,q⟩:=h;obtain⟨u,rfl,rx⟩:=vals1 r;cases rx;have fin:∀(its:List Value),Vals ys its->ys.length<=sizeLine->∀(h':Heap) (c':Nat),(∀b o',s.heap.get? b=some o'->h'.get? b=some o') ->
   h'.get? s.heap.objs.size=some { cls:=.type "list",dict:=none,data:=.seq its.toArray c',slots:=#[]}->EP X pins U Q (.ref s.heap.objs.size) { s with heap:=h'}:=fun its r' hz h' c' kp e =>
  ⟨.ref s.heap.objs.size,_,I.laid (t':=s.toks) kp (Nat.le_refl _) (show ObjOk X.prog X.w _ h' _ (.lst ys) from ⟨hz,its,c',r',e⟩),rfl,q _ (I.hok.fresh (Nat.le_refl _))⟩
 rcases hq with hq | hq
 ·obtain⟨its,r',pl,hz⟩:=I.list hq;have hlen:=r'.length;obtain⟨o,ho,hc,n,hd⟩:=pl.isList;exact call_list_seq p (.inl rfl) ho hc hd (fun h' c' kp e=>fin its r' hz h' c' kp e) (by simp only[List.size_toArray] <;> omega)
 obtain⟨its,r',pl,hz⟩:=I.tuple hq;have hlen:=r'.length;obtain⟨o,ho,hc,n,hd⟩:=pl;exact call_list_seq p (.inr rfl) ho hc hd (fun h' c' kp e=>fin its r' hz h' c' kp e) (by simp only[List.size_toArray] <;> omega)
theorem lR:CallR X (.type "tuple") (fun xs H Q=>∃p ys,xs=[.ref p]/\((SqL X.K H p ys/\∀l,H l=none->Q (.ref l) (upd H l (.tup ys)))\/(SqT X.K H p ys/\Q (.ref p) H))):=by
 intro pins s U H xs us Q I r h;obtain⟨p,ys,rfl,h⟩:=h;obtain⟨u,rfl,rx⟩:=vals1 r;cases rx;rcases h with ⟨hq,q⟩ | ⟨hq,q⟩
 ·obtain⟨its,r',pl,hz⟩:=I.list hq;have hlen:=r'.length;refine call_tuple_list pl.isList (fun h' kp=>?_) (by simp only[List.size_toArray] <;> omega);have I1:Inv X pins U H { s with heap:=h'}:=I.kept (t':=s.toks) kp;have I2:Inv X pins U (upd H h'.objs.size (.tup ys)) { s with heap:=h'.push { cls:=.type "tuple",data:=.seq its.toArray}} :=
   I1.laid (t':=s.toks) (fun b o e=>Heap.get?_push_of_some _ e) (Nat.le_refl _) (show ObjOk X.prog X.w _ _ _ (.tup ys) from ⟨hz,its,r',Tup0.new _ _⟩)
  exact⟨.ref h'.objs.size,_,I2,rfl,q _ (I1.hok.fresh (Nat.le_refl _))⟩
 obtain⟨its,r',pl,hz⟩:=I.tuple hq;exact call_tuple_same pl ⟨.ref p,H,I,rfl,q⟩
def tyV (K:Frag) (T:String) (x:V) (H:Hp):Prop:=match x with
 |.str _=>T="str"
 |.int _=>T="int"
 |.ref p=>(T="list"/\∃xs,SqL K H p xs)\/(T="tuple"/\∃xs,SqT K H p xs) \/
   (T="dict"/\((∃kvs,H p=some (.dK kvs))\/∃kvs,H p=some (.dT kvs)))\/(T="set"/\∃S n,H p=some (.set S n))
 |_=>False
theorem Jc {pins:List (Addr × Obj)}{U:St}{H:Hp}{s:Shared}{T:String}{x:V}{v:Value}(I:Inv X pins U H s) (r:RelV x v) (ty:tyV X.K T x H) :
  s.TypeIs v T/\∀a,v=.ref a->∃ob,s.heap.get? a=some ob/\ob.dict=none:=by
 cases x with
 |str z=>obtain⟨t,rfl⟩:=r;cases (show T="str" from ty);exact⟨typeIs_str s z t,fun _ e=>nomatch e⟩
 |int i=>obtain⟨t,rfl⟩:=r;cases (show T="int" from ty);exact⟨typeIs_int s i t,fun _ e=>nomatch e⟩
 |ref p =>
  cases r;rcases ty with ⟨rfl,xs,hq⟩ | ⟨rfl,xs,hk⟩ | ⟨rfl,hk⟩ | ⟨rfl,S,n,hk⟩
  ·obtain⟨its,_,pl,_⟩:=I.list hq;refine⟨pl.isList.typeIs,fun a e=>?_⟩;cases e;obtain⟨o,n,e,c,hd,_⟩:=pl;exact⟨o,e,hd⟩
  ·rcases hk with hk | ⟨o,its,n,hk,hc,hd,_⟩
   ·obtain⟨_,its,r,o,ho,hc,n,hd,hn⟩:=hk.ok I.hok;refine⟨⟨o,ho,hc⟩,fun a e=>?_⟩;cases e;exact⟨o,ho,hn⟩
   refine⟨⟨o,I.kIn p o hk,hc⟩,fun a e=>?_⟩;cases e;exact⟨o,I.kIn _ o hk,hd⟩
  ·have z:∃o,s.heap.get? p=some o/\o.ExactDict:=by
    rcases hk with ⟨kvs,hk⟩ | ⟨kvs,hk⟩
    ·obtain⟨_,_,_,_,o,_,_,e,ex,_⟩:=I.hok p _ hk;exact⟨o,e,ex⟩
    obtain⟨_,_,_,_,o,_,_,e,ex,_⟩:=I.hok p _ hk;exact⟨o,e,ex⟩
   obtain⟨o,e,ex⟩:=z;refine⟨⟨o,e,ex.1⟩,fun a e2=>?_⟩;cases e2;exact⟨o,e,ex.2.1⟩
  obtain⟨o,_,_,_,e,ex,_⟩:=I.hok p _ hk;refine⟨⟨o,e,ex.1⟩,fun a e2=>?_⟩;cases e2;exact⟨o,e,ex.2.1⟩
 |_=>exact False.elim ty
def tBM (K:Frag) (T:String) (r:V->List V->Hp->VK->Prop) (to:TE) (t:TA):TE:=fun U H Q=>to U H fun x H1=>tyV K T x H1/\t U H1 fun xs H2=>r x xs H2 Q
variable {o e:Expr}{es:List Expr}{to:TE}{t:TA}{name:Str}{apos cpos:Pos}{T id:String}{r:V->List V->Hp->VK->Prop}
theorem Mv (pa:PlainAttrs T) (slot:Slot T name id) (hty:typeOf (.builtin id)=pure (.type "method_descriptor")) (hm:MtR X id r) (ho:PE X o to) (ha:PA X (e::es) t)
  (hbase:attributeBase o name X.env (eval o X.env)=eval o X.env:=by rfl)
  (hfew:((backTo cpos (starEach (e::es) X.env)).all (fun x=>!x.1)&&(backToKw cpos (keywordEach [] X.env)).all (fun x=>x.1.isSome)
   && decide ((e::es).length+([]:List Keyword).length+(if ([]:List Keyword).isEmpty then 0 else 1)<30))=true:=by rfl)
  (hline:(apos.endLine==cpos.line)=true:=by rfl) (hs:starEach (e::es) X.env=(false,eval e X.env)::starEach es X.env:=by rfl) (hplain:(backTo cpos (starEach es X.env)).any (·.1)=false:=by rfl) :
  PE X (.Call (.Attribute o name apos) (e::es) [] cpos) (tBM X.K T r to t):=by
 intro pins s U H Q I h;refine wpAny_Call_method_late hbase hfew hline rfl (thn (ho pins s U H _ I h) fun v s1 ⟨x,H1,I1,r1,ty,q1⟩=>?_);obtain⟨h1,h2⟩:=Jc I1 r1 ty;refine⟨T,id,pa,slot,hty,h1,h2,?_⟩;have hA:=ha cpos pins s1 U H1 _ I1 q1;rw[hs] at hA ⊢;refine Calls.callWith_builtin (by show (false||(backTo cpos (starEach es X.env)).any (·.1))=false;rw[hplain] <;> rfl) (Calls.evalArgs_plain ?_);exact thn hA fun us s2 ⟨vs,H2,I2,r2,q2⟩=>hm pins s2 U H2 x vs v us Q I2 r1 r2 q2
/- xs.append(e),list.index on a module's tuple .. are MtR facts of 06m -/
end
def MtM (X:Cx) (id:String) (r:V->List V->Hp->VK->Prop):Prop :=
 ∀(pins:List (Addr × Obj)) (s:Shared) (U:St) (H:Hp) (x:V) (xs:List V) (v:Value) (us:List Value) (Q:VK),Inv X pins U H s->RelV x v->Vals xs us->r x xs H Q ->
  wpAny (model X.prog X.w) X.A (call (.builtin id) (v::us)) (EP X pins U Q) X.xe s
theorem Vals.one {x:V}{us:List Value}(r:Vals [x] us):∃u,us=[u]/\RelV x u:=vals1 r
theorem Vals.two {x y:V}{us:List Value}(r:Vals [x,y] us):∃u v,us=[u,v]/\RelV x u/\RelV y v:=vals2 r
theorem Vals.zero:∀{us:List Value},Vals [] us->us=[]
 |_,.nil=>rfl
theorem Vals.eraseIdx:∀{xs:List V}{us:List Value}(i:Nat),Vals xs us->Vals (xs.eraseIdx i) (us.eraseIdx i)
 |_,_,_,.nil=>.nil
 |_,_,0,.cons _ t=>t
 |_,_,i+1,.cons r t=>.cons r (Vals.eraseIdx i t)
theorem mH {α:Type}:∀(l:List α) (i:Nat),(l.eraseIdx i).length<=l.length
 |[],_=>Nat.le_refl _
 |_::_,0=>Nat.le_succ _
 |_::r,i+1=>Nat.succ_le_succ (mH r i)
section
variable {X:Cx}{pins:List (Addr × Obj)}{U:St}{H:Hp}{s:Shared}{l b:Addr}{xs ys zs:List V}
theorem Inv.lset {its its':List Value}{n:Nat}{f:Array Value->Array Value}{t':Nat}(I:Inv X pins U H s) (hH:H l=some (.lst xs))
  (e:s.heap.get? l=some { cls:=.type "list",data:=.seq its.toArray n}) (hf:f its.toArray=its'.toArray) (hv:Vals ys its') (hz:ys.length<=sizeLine) :
  Inv X pins U (upd H l (.lst ys)) { s with heap:=s.heap.update l (Obj.mapSeq f),toks:=t'}:=by
 have q:=PySem.IsL.update e f;rw[hf] at q;refine I.write (x:=l) (e:=l) (by rw[hH];exact trivial) (.inl rfl) (fun b' u hb hu=>(Heap.get?_update_other s.heap (Obj.mapSeq f) (Ne.symm hb)).trans hu) ⟨_,q⟩ ?_;exact⟨hz,its',_,hv,q⟩
theorem Inv.lnew {its:List Value}{t':Nat}(I:Inv X pins U H s) (hv:Vals ys its) (hz:ys.length<=sizeLine) :
  Inv X pins U (upd H s.heap.objs.size (.lst ys)) { s with heap:=s.heap.push { cls:=.type "list",data:=.seq its.toArray},toks:=t'} :=
 I.laid (fun _ _ q=>Heap.get?_push_of_some _ q) (Nat.le_refl _) ⟨hz,its,0,hv,Heap.get?_push_size _ rfl⟩
theorem Inv.fresh (I:Inv X pins U H s):H s.heap.objs.size=none:=I.hok.fresh (Nat.le_refl _)
theorem Inv.lstM (I:Inv X pins U H s) (hH:H l=some (.lst xs)):xs.length<=sizeLine/\∃(its:List Value) (n:Nat),Vals xs its/\xs.length=its.length/\s.heap.get? l=some { cls:=.type "list",data:=.seq its.toArray n}:=by
 obtain⟨z,its,n,r,e⟩:=I.hok l _ hH;exact⟨z,its,n,r,r.length,e⟩
def CP:V->List V->Hp->VK->Prop:=fun x vs H Q=>∃l xs y,x=.ref l/\vs=[y]/\H l=some (.lst xs)/\xs.length<sizeLine/\Q .non (upd H l (.lst (xs++[y])))
theorem wG:MtM X "list.append" CP:=by
 intro pins s U H x vs v us Q I rx rv h;obtain⟨l,xs,y,rfl,rfl,hH,hz,q⟩:=h;cases rx;obtain⟨u,rfl,ru⟩:=rv.one;obtain⟨z,its,n,r,hl,e⟩:=I.lstM hH;refine call_meets F.slot_list_append ⟨_,e,rfl⟩ F.entry_list_append (F.args_list_append_2 _ _) (list_append l its.toArray n u (by rw[List.size_toArray];omega)) ⟨e,?_⟩;refine⟨.non,_,I.lset (its':=its++[u]) hH e (by simp) (r.append (.cons ru .nil)) ?_,rfl,q⟩;rw[List.length_append,List.length_singleton];omega
def Jd:V->List V->Hp->VK->Prop:=fun x vs H Q=>∃l xs i k y,x=.ref l/\vs=[.int i]/\H l=some (.lst xs) /\ -(2^63)<=i/\i<2^63/\seqIndex? i xs.length=some k/\xs[k]?=some y/\Q y (upd H l (.lst (xs.eraseIdx k)))
theorem yc:MtM X "list.pop" Jd:=by
 intro pins s U H x vs v us Q I rx rv h;obtain⟨l,xs,i,k,y,rfl,rfl,hH,h1,h2,hk,hy,q⟩:=h;cases rx;obtain⟨u,rfl,ru⟩:=rv.one;obtain⟨t,rfl⟩:=ru;obtain⟨z,its,n,r,hl,e⟩:=I.lstM hH;obtain⟨w,hw,rw'⟩:=r.get hy;refine call_meets F.slot_list_pop ⟨_,e,rfl⟩ F.entry_list_pop (F.args_list_pop_2 _ _)
  (MeetsSeq.list_pop_at l its.toArray n i t k w (fitsIndex_both h1 h2) (by rw[List.size_toArray,<- hl];exact hk) (by rw[<- Array.getElem?_toList];exact hw) (by rw[List.size_toArray];omega)) ⟨e,?_⟩
 refine⟨y,_,I.lset (its':=its.eraseIdx k) hH e ?_ (r.eraseIdx k) ?_,rw',q⟩
 ·show its.toArray.eraseIdxIfInBounds k=(its.eraseIdx k).toArray;rw[List.eraseIdxIfInBounds_toArray]
 have:=mH xs k;omega
def Qk:R2:=fun x y H Q=>∃l b xs zs,x=.ref l/\y=.ref b/\H l=some (.lst xs)/\H b=some (.lst zs)/\xs.length+zs.length<=sizeLine/\∀p,H p=none->Q (.ref p) (upd H p (.lst (xs++zs)))
theorem op_cat:OpR X (binaryOp .Add) Qk:=by
 intro pins s U H x y v u Q I rx ry h;obtain⟨l,b,xs,zs,rfl,rfl,hH,hB,hz,q⟩:=h;cases rx;cases ry;obtain⟨z,its,n,r,hl,e⟩:=I.lstM hH;obtain⟨z2,its2,n2,r2,hl2,e2⟩:=I.lstM hB;refine PySem.P.add_list e e2 ?_ (by rw[List.size_toArray,List.size_toArray];omega);have ea:its.toArray++its2.toArray=(its++its2).toArray:=by simp
 rw[ea];exact⟨.ref _,_,I.lnew (t':=s.toks) (r.append r2) (by rw[List.length_append];omega),rfl,q _ I.fresh⟩
variable {prog:Program}{w:World}{A:Around}{E:Value->Shared->Prop}
set_option maxRecDepth 100000 in
end
section
variable {κ:Type} [DecidableEq κ]
def iZ (kvs:List (κ × V)) (k:κ):Option V:=(kvs.find? fun kv=>decide (kv.1=k)).map (·.2)
def putK (kvs:List (κ × V)) (k:κ) (v:V):List (κ × V) :=
 if (kvs.any fun kv=>decide (kv.1=k))=true then kvs.map (fun kv=>if kv.1=k then (kv.1,v) else kv) else kvs++[(k,v)]
def Ge (kvs:List (κ × V)) (k:κ):List (κ × V):=kvs.filter fun kv=>decide (kv.1≠k)
theorem il {p:κ × V}{r:List (κ × V)}{k:κ}(e:p.1=k):iZ (p::r) k=some p.2:=by simp [iZ,List.find?_cons,e]
theorem ir {p:κ × V}{r:List (κ × V)}{k:κ}(e:¬p.1=k):iZ (p::r) k=iZ r k:=by simp [iZ,List.find?_cons,e]
theorem qw (k:κ):∀kvs:List (κ × V),(kvs.any fun kv=>decide (kv.1=k))=(iZ kvs k).isSome
 |[]=>rfl
 |p::r=>by
  rw[List.any_cons]
  by_cases e:p.1=k
  ·
   simp only[il e,decide_eq_true e,Bool.true_or,Option.isSome_some]
  ·
   rw[ir e,decide_eq_false e,Bool.false_or];exact qw k r
theorem eV (kvs:List (κ × V)) (k:κ) (v:V):(putK kvs k v).length<=kvs.length+1:=by
 unfold putK;split
 ·rw[List.length_map];omega
 rw[List.length_append,List.length_cons,List.length_nil];omega
theorem RelO.isSome_eq {o:Option V}{u:Option Value}(r:RelO o u):o.isSome=u.isSome:=by
 cases o with
 |none=>cases u with
  |none=>rfl
  |some _=>exact (show False from r).elim
 |some _=>cases u with
  |none=>exact (show False from r).elim
  |some _=>rfl
theorem RelO.getD {o:Option V}{u:Option Value}{d:V}{d':Value}(r:RelO o u) (rd:RelV d d'):RelV (o.getD d) (u.getD d'):=by
 cases o with
 |none=>cases u with
  |none=>exact rd
  |some _=>exact (show False from r).elim
 |some _=>cases u with
  |none=>exact (show False from r).elim
  |some _=>exact r
theorem KV.val {kvs:List (κ × V)}{vs:List (κ × Value)}(r:KV kvs vs) (k:κ):RelO (iZ kvs k) (valueAt vs k):=by
 unfold KV at r;induction r with
 |nil=>exact True.intro
 |@cons p q ps qs h t ih =>
 obtain⟨h1,h2⟩:=h;by_cases e:p.1=k
 ·have e':q.1=k:=h1.symm.trans e;have b:valueAt (q::qs) k=some q.2:=by simp [valueAt,List.find?_cons,e']
  rw[il e,b];exact h2
 have e':¬q.1=k:=fun z=>e (h1.trans z);have b:valueAt (q::qs) k=valueAt qs k:=by simp [valueAt,List.find?_cons,e']
 rw[ir e,b];exact ih
theorem KV.any {kvs:List (κ × V)}{vs:List (κ × Value)}(r:KV kvs vs) (k:κ):(kvs.any fun kv=>decide (kv.1=k))=vs.any fun kv=>decide (kv.1=k):=by
 unfold KV at r;induction r with
 |nil=>rfl
 |cons h t ih=>rw[List.any_cons,List.any_cons,ih,h.1]
theorem KV.repl {kvs:List (κ × V)}{vs:List (κ × Value)}(r:KV kvs vs) (k:κ) {y:V}{u:Value}(ry:RelV y u) :
  KV (kvs.map fun kv=>if kv.1=k then (kv.1,y) else kv) (vs.map fun kv=>if kv.1=k then (kv.1,u) else kv):=by
 unfold KV at r ⊢;induction r with
 |nil=>exact .nil
 |@cons p q ps qs h t ih =>
 rw[List.map_cons,List.map_cons];refine .cons ?_ ih;obtain⟨h1,h2⟩:=h;by_cases e:p.1=k
 ·rw[if_pos e,if_pos (h1.symm.trans e)];exact⟨h1,ry⟩
 rw[if_neg e,if_neg (fun z=>e (h1.trans z))];exact⟨h1,h2⟩
theorem KV.put {kvs:List (κ × V)}{vs:List (κ × Value)}(r:KV kvs vs) (k:κ) {y:V}{u:Value}(ry:RelV y u):KV (putK kvs k y) (stored vs k u):=by
 unfold putK stored;rw[r.any k];by_cases e:(vs.any fun kv=>decide (kv.1=k))=true
 ·rw[if_pos e,if_pos e];exact r.repl k ry
 rw[if_neg e,if_neg e];exact Paired.snoc r ⟨rfl,ry⟩
theorem KV.drop {kvs:List (κ × V)}{vs:List (κ × Value)}(r:KV kvs vs) (k:κ):KV (Ge kvs k) (without vs k):=by
 unfold KV at r ⊢;unfold Ge without;induction r with
 |nil=>exact .nil
 |@cons p q ps qs h t ih =>
 obtain⟨h1,h2⟩:=h;rw[List.filter_cons,List.filter_cons];by_cases e:p.1=k
 ·have a:¬decide (p.1≠k)=true:=by simp [e]
  have b:¬decide (q.1≠k)=true:=by simp [h1.symm.trans e]
  rw[if_neg a,if_neg b];exact ih
 have e':¬q.1=k:=fun z=>e (h1.trans z);have a:decide (p.1≠k)=true:=by simp [e]
 have b:decide (q.1≠k)=true:=by simp [e']
 rw[if_pos a,if_pos b];exact .cons ⟨h1,h2⟩ ih
theorem KV.keys {kvs:List (κ × V)}{vs:List (κ × Value)}(r:KV kvs vs):kvs.map (·.1)=vs.map (·.1):=by
 unfold KV at r;induction r with
 |nil=>rfl
 |cons h t ih=>rw[List.map_cons,List.map_cons,ih,h.1]
theorem KV.length {kvs:List (κ × V)}{vs:List (κ × Value)}(r:KV kvs vs):kvs.length=vs.length:=Paired.length r
end
theorem uO {P:Program}{w:World}{k:Key}{u:Value}(r:RelV (kV k) u):(bM P w).is k u=true:=by
 cases k with
 |inl i=>obtain⟨t,e⟩:=(show ∃t,u=Value.int i t from r);subst e;exact ql P w i t
 |inr x=>obtain⟨t,e⟩:=(show ∃t,u=Value.str x t from r);subst e;exact qm P w x t
theorem mJ {P:Program}{w:World}:∀{ks:List Key}{us:List Value},Vals (ks.map kV) us->ItemsAre (bM P w) ks us
 |[],_,r=>by rw[List.map_nil] at r;cases r;exact .nil
 |k::ks,_,r=>by
  rw[List.map_cons] at r
  cases r with
  |cons h t=>exact .cons (uO h) (mJ t)
abbrev KT (H:Hp):List (List Key × V)->List (List Key × Addr × Value)->Prop:=Paired fun p q=>p.1=q.1/\H q.2.1=some (.tup (p.1.map kV))/\RelV p.2 q.2.2
theorem KT.val {H:Hp}{kvs:List (List Key × V)}{xs:List (List Key × Addr × Value)}(r:KT H kvs xs) (k:List Key):RelO (iZ kvs k) ((atKey xs k).map (·.2)):=by
 induction r with
 |nil=>exact True.intro
 |@cons p q ps qs h t ih =>
 obtain⟨h1,_,h2⟩:=h;by_cases e:p.1=k
 ·have e':q.1=k:=h1.symm.trans e;have b:atKey (q::qs) k=some q.2:=by simp [atKey,List.find?_cons,e']
  rw[il e,b];exact h2
 have e':¬q.1=k:=fun z=>e (h1.trans z);have b:atKey (q::qs) k=atKey qs k:=by simp [atKey,List.find?_cons,e']
 rw[ir e,b];exact ih
theorem KT.repl {H:Hp}{kvs:List (List Key × V)}{xs:List (List Key × Addr × Value)}(r:KT H kvs xs) (k:List Key) {y:V}{u:Value}(ry:RelV y u) :
  KT H (kvs.map fun kv=>if kv.1=k then (kv.1,y) else kv) (xs.map (putAt k u)):=by
 induction r with
 |nil=>exact .nil
 |@cons p q ps qs h t ih =>
 rw[List.map_cons,List.map_cons];refine .cons ?_ ih;obtain⟨h1,h2,h3⟩:=h;unfold putAt;by_cases e:p.1=k
 ·rw[if_pos e,if_pos (h1.symm.trans e)];exact⟨h1,h2,ry⟩
 rw[if_neg e,if_neg (fun z=>e (h1.trans z))];exact⟨h1,h2,h3⟩
theorem KT.put {H:Hp}{kvs:List (List Key × V)}{xs:List (List Key × Addr × Value)}(r:KT H kvs xs) (k:List Key) {b:Addr}{y:V}{u:Value}(hb:H b=some (.tup (k.map kV))) (ry:RelV y u) :
  KT H (putK kvs k y) (storedH xs k b u):=by
 have e:(kvs.any fun kv=>decide (kv.1=k))=(atKey xs k).isSome:=by rw[qw,(r.val k).isSome_eq,Option.isSome_map]
 unfold putK storedH;rw[e];by_cases q:(atKey xs k).isSome=true
 ·rw[if_pos q,if_pos q];exact r.repl k ry
 rw[if_neg q,if_neg q];exact Paired.snoc r ⟨rfl,hb,ry⟩
theorem KT.keeps {H H':Hp}{kvs:List (List Key × V)}{xs:List (List Key × Addr × Value)}(r:KT H kvs xs) (ht:∀b ys,H b=some (.tup ys)->H' b=some (.tup ys)):KT H' kvs xs :=
 Paired.mapP r fun _ _ z=>⟨z.1,ht _ _ z.2.1,z.2.2⟩
section
variable {P:Program}{w:World}{H:Hp}{h:Heap}{a:Addr}
theorem Gf {u:HO}(ok:HOk P w H h) (e:Rd H a u):ObjOk P w H h a u:=e.ok ok
theorem yd {kvs:List (Key × V)}(ok:HOk P w H h) (e:Rd H a (.dK kvs)):kvs.length<=sizeLine/\(a==sysModules)=false/\∃vs,KV kvs vs/\h.DictOf (bM P w) a vs :=
 show ObjOk P w H h a (.dK kvs) from Gf ok e
theorem Gg {kvs:List (Key × V)}(ok:HOk P w H h) (e:H a=some (.dK kvs)):kvs.length<=sizeLine/\(a==sysModules)=false/\∃vs,KV kvs vs/\h.DictOf (bM P w) a vs:=yd ok (.inl e)
theorem tu {ks:List Key}(ok:HOk P w H h) (e:H a=some (.tup (ks.map kV))):(tupleKind (bM P w)).is h ks a:=by
 obtain⟨_,its,r,o,h1,h2,n,h3,_⟩:=(show ObjOk P w H h a (.tup (ks.map kV)) from ok a _ e);exact⟨o,its.toArray,n,h1,h2,h3,by simpa using mJ r⟩
theorem ye {kvs:List (List Key × V)}(ok:HOk P w H h) (e:Rd H a (.dT kvs)):kvs.length<=sizeLine/\(a==sysModules)=false /\
  ∃xs,KT H kvs xs/\h.DictOfH (tupleKind (bM P w)) a xs:=by
 obtain⟨z,y,xs,r,o,es,ep,h1,h2,h3,h4,h5⟩:=(show ObjOk P w H h a (.dT kvs) from Gf ok e);refine⟨z,y,xs,r,o,es,ep,h1,h2,h3,h4,fun x hx=>?_,h5⟩;have all:∀{l:List (List Key × V)} {m:List (List Key × Addr × Value)},KT H l m->∀x∈m,(tupleKind (bM P w)).is h x.1 x.2.1:=by
  intro l m q;induction q with
  |nil=>intro x hx;exact nomatch hx
  |@cons p q ps qs hq t ih =>
  intro x hx;rcases List.mem_cons.mp hx with e | hx
  ·subst e;exact tu ok (by rw[<- hq.1];exact hq.2.1)
  exact ih x hx
 exact all r x hx
theorem Mw {kvs:List (List Key × V)}(ok:HOk P w H h) (e:H a=some (.dT kvs)):kvs.length<=sizeLine/\(a==sysModules)=false /\
  ∃xs,KT H kvs xs/\h.DictOfH (tupleKind (bM P w)) a xs:=ye ok (.inl e)
end
def DGet (H:Hp) (a:Addr) (y:V) (r:Option V):Prop :=
 (∃kvs k,Rd H a (.dK kvs)/\y=kV k/\r=iZ kvs k)\/∃kvs k b,Rd H a (.dT kvs)/\y=.ref b/\H b=some (.tup (k.map kV))/\r=iZ kvs k
def DPut (H:Hp) (a:Addr) (y v:V) (H':Hp):Prop :=
 (∃kvs k,H a=some (.dK kvs)/\y=kV k/\kvs.length<sizeLine/\H'=upd H a (.dK (putK kvs k v))) \/
 ∃kvs k b,H a=some (.dT kvs)/\y=.ref b/\H b=some (.tup (k.map kV))/\kvs.length<sizeLine/\H'=upd H a (.dT (putK kvs k v))
theorem DGet.k {H:Hp}{a:Addr}{kvs:List (Key × V)}{k:Key}(e:H a=some (.dK kvs)):DGet H a (kV k) (iZ kvs k):=.inl ⟨kvs,k,.inl e,rfl,rfl⟩
theorem DGet.t {H:Hp}{a b:Addr}{kvs:List (List Key × V)}{k:List Key}(e:H a=some (.dT kvs)) (eb:H b=some (.tup (k.map kV))):DGet H a (.ref b) (iZ kvs k):=.inr ⟨kvs,k,b,.inl e,rfl,eb,rfl⟩
theorem DPut.k {H:Hp}{a:Addr}{kvs:List (Key × V)}{k:Key}{v:V}(e:H a=some (.dK kvs)) (hl:kvs.length<sizeLine):DPut H a (kV k) v (upd H a (.dK (putK kvs k v))):=.inl ⟨kvs,k,e,rfl,hl,rfl⟩
theorem DPut.t {H:Hp}{a b:Addr}{kvs:List (List Key × V)}{k:List Key}{v:V}(e:H a=some (.dT kvs)) (eb:H b=some (.tup (k.map kV))) (hl:kvs.length<sizeLine) :
  DPut H a (.ref b) v (upd H a (.dT (putK kvs k v))):=.inr ⟨kvs,k,b,e,rfl,eb,hl,rfl⟩
section
variable {X:Cx}{pins:List (Addr × Obj)}{U:St}{H:Hp}{s:Shared}{a:Addr}{y v:V}{u r:Value}{o:Option V}{A:Around}{E:Value->Shared->Prop}
theorem Inv.big (I:Inv X pins U H s):sysModules<s.heap.objs.size:=by
 have h:mainGlobals<s.heap.objs.size:=(I.mod.glob.keeps I.bk).lt;exact Nat.lt_trans (by decide) h
theorem wH {Q:Value->Shared->Prop}(hu:A.units+1<cLine) (I:Inv X pins U H s) (g:DGet H a y (some v)) (ry:RelV y u) (h:∀w' s',Inv X pins U H s'->RelV v w'->Q w' s') :
  wpAny (model X.prog X.w) A (getItem (.ref a) u) Q E s:=by
 rcases g with ⟨kvs,k,e,ey,l⟩ | ⟨kvs,k,b,e,ey,eb,l⟩
 ·subst ey;obtain⟨z,hd,vs,rel,dd⟩:=yd I.hok e;obtain⟨w',hw,rw'⟩:=RelO.some_of (v:=v) (o:=valueAt vs k) (by rw[l];exact rel.val k);exact wpAny_getItem_of (uO ry) dd.mapOf hw (h w' _ (I.tok _) rw')
 subst ey;cases (show u=Value.ref b from ry);obtain⟨z,hd,xs,rel,dd⟩:=ye I.hok e;obtain⟨w',hw,rw'⟩:=RelO.some_of (v:=v) (o:=(atKey xs k).map (·.2)) (by rw[l];exact rel.val k);obtain⟨p,hp,hp2⟩:=Option.map_eq_some_iff.mp hw;refine wpAny_getItem_heap (tupleKind_room_in1 hu) (tu I.hok eb) dd hp ?_;rw[hp2];exact h w' _ (I.tok _) rw'
theorem oE {h':Heap}{t':Nat}{ob:HO}(I:Inv X pins U H s) (mu:Mut (H a)) (hs:Heap.SameBut a s.heap h') (he:∃q,h'.get? a=some q) (new:ObjOk X.prog X.w (upd H a ob) h' a ob) :
  Inv X pins U (upd H a ob) { s with heap:=h',toks:=t'} :=
 I.write (x:=a) (e:=a) mu (.inl rfl) (fun b q hb z=>(hs.2 b hb).trans z) he new
theorem dh {P:Program}{w:World}{H':Hp}{h':Heap}{kvs:List (Key × V)}{vs:List (Key × Value)}(z:kvs.length<=sizeLine) (hd:(a==sysModules)=false) (rel:KV kvs vs) (dd:h'.DictOf (bM P w) a vs) :
  ObjOk P w H' h' a (.dK kvs):=⟨z,hd,vs,rel,dd⟩
theorem wI {H':Hp}{Q:Unit->Shared->Prop}(hu:A.units+1<cLine) (I:Inv X pins U H s) (g:DPut H a y v H') (ry:RelV y u) (rv:RelV v r) (h:∀s',Inv X pins U H' s'->Q () s') :
  wpAny (model X.prog X.w) A (setItem (.ref a) u r) Q E s:=by
 rcases g with ⟨kvs,k,e,ey,l,eH⟩ | ⟨kvs,k,b,e,ey,eb,l,eH⟩
 ·subst ey eH;obtain⟨z,hd,vs,rel,dd⟩:=Gg I.hok e;have hz:vs.length<=sizeLine:=by rw[<- rel.length];exact z
  have hl:(putK kvs k v).length<=sizeLine:=by have:=eV kvs k v;omega
  refine wpAny_setItem_pairs (hsz:=hz) (uO ry) dd fun h' dd' hs=>h _ ?_;have he:∃q,h'.get? a=some q:=let ⟨q,_,_,hq,_⟩:=dd';⟨q,hq⟩;exact oE I (by rw[e];exact True.intro) hs he (dh hl hd (rel.put k rv) dd')
 subst ey eH;cases (show u=Value.ref b from ry);obtain⟨z,hd,xs,rel,dd⟩:=Mw I.hok e;have hz:xs.length<=sizeLine:=by rw[<- Paired.length rel];exact z
 have hl:(putK kvs k v).length<=sizeLine:=by have:=eV kvs k v;omega
 refine wpAny_setItem_heap (hsz:=hz) (tupleKind_room_in1 hu) (tu I.hok eb) dd fun h' dd' hs=>h _ ?_;obtain⟨q,es,ep,hq,h2,h3,h4,_,h5⟩:=dd';refine oE I (by rw[e];exact True.intro) hs ⟨q,hq⟩ ⟨hl,hd,_,(rel.put k eb rv).keeps fun c ys ec=>?_,q,es,ep,hq,h2,h3,h4,h5⟩;rw[aH (Li ec e (fun z=>nomatch z))];exact ec
variable {kvs:List (Key × V)}{k:Key}
end
def Je (i:Expr):Prop:=∀ov iv,subscripted i false ov iv=operate [ov,iv] (getItem ov iv)
theorem CQ {prog:Program}{w:World}{A:Around}{E:Value->Shared->Prop}{s:Shared}{env:Env}{value slice:Expr}{pos:Pos}{T id:String}{Q:Value->Shared->Prop}
  (hl:typeLookup (.type T) "__getitem__"=pure (some (.builtin id))) (hs:Je slice)
  (h:wpAny (model prog w) A (eval value env) (fun o s₁=>wpAny (model prog w) A (eval slice env) (fun i s₂=>s₂.TypeIs o T/\wpAny (model prog w) A (getItem o i) Q E s₂) E s₁) E s) :
  wpAny (model prog w) A (eval (.Subscript value slice pos) env) Q E s:=by
 refine Subscript_ (wpAny_mono h (fun o s₁ h₁=>wpAny_mono h₁ (fun i s₂ h₂=>?_) fun _ _ x=>x) fun _ _ x=>x);obtain⟨hT,h₂⟩:=h₂;unfold subscriptTail;refine wpAny_bind ?_;rw[getitemInPython_of_ne hT.not_modules];refine wpAny_bind (wpAny_specialOf hT hl ?_);have fin:wpAny (model prog w) A (subscripted slice false o i) (fun r s₃=>wpAny (model prog w) A (letTemporaryGo value o r >>= fun _=>pure r) Q E s₃) E s₂:=by rw[hs o i];exact wpAny_operating (wpAny_mono h₂ (fun r s₃ h₃=>wpAny_bind (wpAny_letTemporaryGo (wpAny_pure h₃))) fun _ _ x=>x)
 first
  |exact wpAny_pure (wpAny_bind fin)
  |exact wpAny_bind (wpAny_pure (wpAny_bind fin))
  |exact wpAny_bind fin
theorem qz {X:Cx}{pins:List (Addr × Obj)}{U:St}{H:Hp}{s:Shared}{a:Addr}{y:V}{o:Option V}(I:Inv X pins U H s) (g:DGet H a y o):s.TypeIs (.ref a) "dict":=by
 rcases g with ⟨kvs,k,e,_,_⟩ | ⟨kvs,k,b,e,_,_,_⟩
 ·obtain⟨_,_,vs,_,dd⟩:=yd I.hok e;exact dd.typeIs
 obtain⟨_,_,xs,_,dd⟩:=ye I.hok e;exact dd.typeIs
def Mx (td ty:TE):TE:=fun U H Q=>td U H fun x H1=>ty U H1 fun y H2=>∃a v,x=.ref a/\DGet H2 a y (some v)/\Q v H2
def Mz (td ty tv:TE):TS:=fun D U H=>tv U H fun v H1=>td U H1 fun x H2=>ty U H2 fun y H3=>∃a H4,x=.ref a/\DPut H3 a y v H4/\D.nx U H4
section
variable {X:Cx}{o i e value:Expr}{pos pos' tpos:Pos}{td ty tv:TE}
theorem CV (hu:X.A.units+1<cLine) (ho:PE X o td) (hi:PE X i ty) (hs:Je i):PE X (.Subscript o i pos) (Mx td ty):=by
 intro pins s U H Q I h;refine CQ PySem.F.slot_dict_getitem.lookup hs (thn (ho pins s U H _ I h) fun u s1 ⟨x,H1,I1,rx,q1⟩=>thn (hi pins s1 U H1 _ I1 q1) fun iv s2 ⟨y,H2,I2,ry,a,v,ex,g,q2⟩=>?_);subst ex;obtain rfl:u=Value.ref a:=rx;exact⟨qz I2 g,wH hu I2 g ry fun w' s3 I3 rw'=>⟨v,H2,I3,rw',q2⟩⟩
theorem CW (hu:X.A.units+1<cLine) (ho:PE X o td) (hi:PE X i ty) (hv:PE X value tv) (hs:swapsWith value (some (.Subscript o i pos')) pos.line X.env=pure false) :
  PS X (.Assign [.Subscript o i pos'] value pos) (Mz td ty tv):=by
 intro pins s U H D I h;refine wpAny_Assign_Subscript (thn (hv pins s U H _ I h) fun r s1 ⟨v,H1,I1,rv,q1⟩=>thn (ho pins s1 U H1 _ I1 q1) fun u s2 ⟨x,H2,I2,rx,q2⟩=>thn (hi pins s2 U H2 _ I2 q2) fun iv s3 ⟨y,H3,I3,ry,a,H4,ex,g,q3⟩=>?_) hs;subst ex;obtain rfl:u=Value.ref a:=rx;exact wI hu I3 g ry rv fun s4 I4=>⟨U,H4,I4,q3⟩
end
theorem yf {P:Program}{w:World}{H:Hp}(h:Heap) (hb:sysModules<h.objs.size):ObjOk P w H (h.push { cls:=.type "dict",data:=.dict #[]}) h.objs.size (.dK []) :=
 ⟨Nat.zero_le _,beq_eq_false_iff_ne.mpr (Ne.symm (Nat.ne_of_lt hb)),[],.nil,Heap.DictOf.new h⟩
section
variable {X:Cx}{pos:Pos}
end
def oF:List (TE × TE)->St->Hp->(List (V × V)->Hp->Prop)->Prop
 |[],_,H,Q=>Q [] H
 | (tk,tv)::r,U,H,Q=>tk U H fun x H1=>tv U H1 fun y H2=>oF r U H2 fun ps H3=>Q ((x,y)::ps) H3
abbrev VV:List (V × V)->List (Value × Value)->Prop:=Paired fun p q=>RelV p.1 q.1/\RelV p.2 q.2
def PPs (X:Cx) (pos:Pos) (keys:List (Option Expr)) (values:List Expr) (trs:List (TE × TE)):Prop :=
 ∀(pins:List (Addr × Obj)) (s:Shared) (U:St) (H:Hp) (Q:List (V × V)->Hp->Prop),Inv X pins U H s->oF trs U H Q ->
  wpAny (model X.prog X.w) X.A (evalPairs (pairTrees keys values X.env pos)) (fun vs s'=>∃ps H',Inv X pins U H' s'/\VV ps vs/\Q ps H') X.xe s
theorem CZ {X:Cx}{pos:Pos}:PPs X pos [] [] []:=fun pins s U H Q I h=>pairTrees_nil_walk ⟨[],H,I,.nil,h⟩
theorem yg {X:Cx}{pos:Pos}{k v:Expr}{ks:List (Option Expr)}{vs:List Expr}{tk tv:TE}{trs:List (TE × TE)}(hk:PE X k tk) (hv:PE X v tv) (hr:PPs X pos ks vs trs) :
  PPs X pos (some k::ks) (v::vs) ((tk,tv)::trs):=fun pins s U H Q I h =>
 pairTrees_cons_walk (thn (hk pins s U H _ I h) fun u s1 ⟨x,H1,I1,rx,q1⟩=>thn (hv pins s1 U H1 _ I1 q1) fun w2 s2 ⟨y,H2,I2,ry,q2⟩ =>
  thn (hr pins s2 U H2 _ I2 q2) fun ws s3 ⟨ps,H3,I3,rel,q3⟩=>⟨(x,y)::ps,H3,I3,.cons ⟨rx,ry⟩ rel,q3⟩)
def f9 (kvs more:List (Key × V)):List (Key × V):=more.foldl (fun acc kv=>putK acc kv.1 kv.2) kvs
theorem KV.merge:∀{more:List (Key × V)}{rs:List (Key × Value)}{kvs:List (Key × V)}{vs:List (Key × Value)},KV more rs->KV kvs vs->KV (f9 kvs more) (merged vs rs):=by
 intro more rs kvs vs r;unfold KV at r;induction r generalizing kvs vs with
 |nil=>intro q;exact q
 |@cons p q ps qs h t ih =>
 intro r0;have e:KV (putK kvs p.1 p.2) (stored vs q.1 q.2):=by have:=r0.put p.1 h.2;rw[<- h.1];exact this
 exact ih e
theorem fU:∀(more kvs:List (Key × V)),(f9 kvs more).length<=kvs.length+more.length
 |[],kvs=>by show kvs.length<=kvs.length+0;omega
 |p::r,kvs=>by
  have h1:=fU r (putK kvs p.1 p.2)
  have h2:=eV kvs p.1 p.2
  show (f9 (putK kvs p.1 p.2) r).length<=_
  rw[List.length_cons];omega
theorem kh {P:Program}{w:World}:∀{kvs:List (Key × V)}{ws:List (Value × Value)},VV (kvs.map fun kv=>(kV kv.1,kv.2)) ws->∃rs,Carries (bM P w) ws rs/\KV kvs rs
 |[],_,r=>by rw[List.map_nil] at r;cases r;exact⟨[],True.intro,.nil⟩
 |p::kvs,_,r=>by
  rw[List.map_cons] at r
  cases r with
  |@cons a b as bs h t =>
   obtain⟨rs,c,q⟩:=kh (P:=P) (w:=w) t
   obtain⟨b1,b2⟩:=b
   exact⟨(p.1,b2)::rs,⟨uO h.1,rfl,c⟩,.cons ⟨rfl,h.2⟩ q⟩
def MF (trs:List (TE × TE)):TE:=fun U H Q=>∀p,H p=none->oF trs U (upd H p (.dK [])) fun ps H2=>H2 p=some (.dK [])/\∃kvs:List (Key × V),ps=kvs.map (fun kv=>(kV kv.1,kv.2))/\kvs.length<=15/\Q (.ref p) (upd H2 p (.dK (f9 [] kvs)))
theorem Dc {X:Cx}{pos:Pos}{keys:List (Option Expr)}{values:List Expr}{trs:List (TE × TE)}(h:PPs X pos keys values trs) (hall:keys.all (·.isSome)=true) (hl:keys.length=values.length) (h0:keys≠[])
  (h15:keys.length<=15):PE X (.Dict keys values pos) (MF trs):=by
 intro pins s U H Q I q;have hn:=I.hok.fresh (Nat.le_refl s.heap.objs.size);have I1:=I.laid (a:=s.heap.objs.size) (o:=.dK []) (h':=s.heap.push { cls:=.type "dict",data:=.dict #[]}) (t':=s.toks) (fun _ _ q=>Heap.get?_push_of_some _ q) (Nat.le_refl _) (yf s.heap I.big);refine wpAny_Dict_walk (knd:=bM X.prog X.w) hall hl h0 h15 (thn (h pins _ U _ _ I1 (q _ hn)) fun ws s2 ⟨ps,H2,I2,rel,e,kvs,ep,lk,q2⟩=>?_);subst ep;obtain⟨rs,c,rk⟩:=kh (P:=X.prog) (w:=X.w) rel;obtain⟨z,hd,vs0,r0,dd⟩:=Gg I2.hok e;cases r0;refine⟨rs,c,dd,fun h' dd' hs=>⟨.ref s.heap.objs.size,_,?_,rfl,q2⟩⟩;have hz:(f9 [] kvs).length<=sizeLine:=by have h1:=fU kvs [];rw[List.length_nil] at h1;rw[sizeLine_eq];omega
 have he:∃q,h'.get? s.heap.objs.size=some q:=let ⟨q,_,_,hq,_⟩:=dd';⟨q,hq⟩;exact oE I2 (by rw[e];exact True.intro) hs he (dh hz hd (rk.merge .nil) dd')
section
variable {X:Cx}{pins:List (Addr × Obj)}{U:St}{H:Hp}{s:Shared}{a:Addr}{y d:V}{u r:Value}{o:Option V}{A:Around}{E:Value->Shared->Prop}
end
section
variable {X:Cx}{o e f:Expr}{apos cpos:Pos}{td ty tx:TE}
variable {pins:List (Addr × Obj)}{U:St}{H:Hp}{s:Shared}{a:Addr}{kvs:List (Key × V)}{A:Around}{E:Value->Shared->Prop}
variable {y:V}{u:Value}
end
end L2
namespace Att
open PySem PySem.W PySem.Calls PyProof.Rows
theorem jJ {P:Params}{h:Heap}:∀(ns:List Int) (vs:List Value),WellAll P h vs (ns.map WData.int)->IntsAre vs ns:=by
 intro ns;induction ns with
 |nil=>intro vs w;rw[List.map_nil] at w;cases w;exact .nil
 |cons n ns ih =>
 intro vs w;rw[List.map_cons] at w;cases w with
 |cons a b =>
 cases a;exact .cons _ _ (ih _ b)
theorem wJ {l:OpenLaw}{n:Nat}(hn:l.most=some n) {P:Params}{h:Heap}{args:List WData}{vals:List Value}
  (hpre:l.row.toRowW.claim.pre args=true) (hwl:WellAll P h vals args) :
  ∃a vs ns,vals=[Value.ref a]/\args=[WData.list (ns.map WData.int)]/\h.get? a=some { cls:=.type "list",data:=.seq vs.toArray}/\IntsAre vs ns/\ns.length<=n:=by
 have hsh:WShape.hasAll [] args [.list .int]=true:=(pre_splitW hpre).1;have hc:l.pre.holds [] { args:=args}=true:=(pre_splitW hpre).2;obtain⟨d,r,rfl,h1,h2⟩:=hasAllW_cons hsh;obtain rfl:=hasAllW_nil h2;obtain⟨xs,rfl,h3⟩:=hasW_list h1;obtain⟨ns,rfl⟩:=items_int h3;have hlen:ns.length<=n:=by
  unfold OpenLaw.pre at hc;have h4:(WTm.not (.lt (.lit (.int (n:Int))) (.len (.arg 0)))).holds [] { args:=[.list (ns.map .int)]}=true:=by have h4:=(holds_andW hc).1;rw[hn] at h4;exact h4
  have h5:=condW_of h4 (w_not (w_lt w_lit (w_len_list (w_arg rfl))));rw[List.length_map] at h5;refine Nat.le_of_not_lt fun q=>?_;have q':(n:Int)<((ns.length:Nat):Int):=by omega
  first
   | (rw[decide_eq_true q'] at h5;exact absurd h5 (by decide))
   | (simp at h5;omega)
 cases hwl with
 |cons w1 w2 =>
 cases w2;cases w1 with
 |list ho hall=>exact⟨_,_,ns,rfl,rfl,ho,jJ ns _ hall,hlen⟩
theorem wK (l:OpenLaw) (args:List WData):l.row.toRowW.claim.post args (.bool true) args=true :=
 postW_of (r:=l.row.toRowW) (X:=(true==true))
  (show WShape.has [] (.bool true) .bool=true by first | rfl | decide | simp [WShape.has,WShape.arms,WShape.armsAll])
  (show (WTm.eq .res (.lit (.bool true))).value [] { args:=args,res:=some (.bool true),after:=args}=some (.bool (true==true)) from w_eq_bool (w_res rfl) w_lit) rfl
theorem attach_call {l:OpenLaw}{n:Nat}{q:Program}{loose:List Str}{XP:(Str->Option Value)->Heap->Prop}{YP:World->Heap->Prop}{d:DefRec}
  (hn:l.most=some n) (hdf:d.params.defaults=[])
  (call:∀(w:World) (s₀ s₁:Shared) (mg mb:Str->Option Value) (fa:Addr) (o:Obj) (pm cd doc:Value) (a:Addr) (vs:List Value) (ns:List Int),
   Ground q loose [] XP w s₀ mg mb s₁.heap->YP w s₁.heap ->
   s₁.heap.get? fa=some o->o.data=.func (docDef d.name d.params d.body d.scope pm cd doc)->s₁.heap.CodeRec cd d.name->mg d.name=some (.ref fa) ->
   s₁.heap.get? a=some { cls:=.type "list",data:=.seq vs.toArray}->IntsAre vs ns->ns.length<=n->s₁.gens=#[] ->
   codeAny (model l.prog w) callerA (.call (.ref fa) ⟨[.ref a],[]⟩) (fun r s'=>r=.ok (.ret (.bool true))/\OldK s₁.heap s'.heap/\s'.os=s₁.os/\AllBare s'.gens) s₁) :
  WalkO q loose XP YP l.row.toRowW d [] (fun f vs=>PySem.call f vs):=by
 intro w s₀ s₁ mg mb G Y fa o pm cd doc dV kV ho hd hcd hD hmg hg args vals as hpre hlay hrd hwl hlo;obtain rfl:dV=.none:=Dflts.none hD hdf;obtain rfl:kV=.none:=Dflts.noKw hD;obtain⟨a,vs,ns,rfl,rfl,hobj,hints,hlen⟩:=wJ hn hpre hwl;refine enter_call (codeAny_mono (call w s₀ s₁ mg mb fa o pm cd doc a vs ns G Y ho (fd_plain hd) hcd hmg hobj hints hlen hg) fun r s' hq=>?_);obtain⟨rfl,h2,h3,h4⟩:=hq;exact⟨.inl ⟨.bool true,.bool true,[],rfl,fun _=>rfl,.bool true,wK l _,fun _=>⟨List.Pairwise.nil,fun _ hm=>(nomatch hm)⟩⟩,h2,h3,h4⟩
section
variable {prog:Program}{w:World}{A:Around}{E:Value->Shared->Prop}{s:Shared}{K:Frag}
def ledger (h : Heap) (L d : Addr) : List (Addr × Obj):=(List.range h.objs.size).filterMap fun a => if a = L \/ a = d then none else (h.get? a).map fun o => (a,o)
end
end Att
namespace L2
theorem mK:∀{vs:List Value}{ns:List Int},IntsAre vs ns->Vals (ns.map V.int) vs
 |_,_,.nil=>.nil
 |_,_,.cons n t h=>.cons ⟨t,rfl⟩ (mK h)
def Only (H:Hp):Prop:=∀b,H b=none\/∃o xs,H b=some (.frz o (.lst xs))
theorem yh {P:Program}{w:World}{K:Frag}{mg mb:Str->Option Value}{CX:CXT}{k:Nat}{fa a:Addr}{fd:FuncData}{x:Str}{sp:Sp}{s₁:Shared}{vs:List Value}{ns:List Int}
  (KX:K.In s₁.heap) (hns:s₁.heap.Ns mainGlobals mg) (hb:s₁.heap.Ns builtinsNs mb) (hbb:∀x:Str,x≠"__name__"->mb x=bootBuiltins x) (hlim:s₁.heap.NoLimit) (hg:s₁.gens=#[])
  (ha:s₁.heap.get? a=some { cls:=.type "list",data:=.seq vs.toArray}) (hi:IntsAre vs ns) (hl:ns.length<=sizeLine) (hr:Room k callerA)
  (F:∀base:Heap,K.In base->base.Ns mainGlobals mg->FnOk P w K mg base CX k fa fd [x] sp) (hbind:∀(s:Shared) (u:Value),BindsTo s fd ⟨[u],[]⟩ [(x,u)])
  (hsp:∀H:Hp,Only H->SqL K H a (ns.map V.int)->sp [.ref a] H (fun v _=>v=.bl true) fun _ _ _=>False)
  (hCX:∀H e s',CX [] H s₁ (fun _ _ _=>False) e s'->False) :
  codeAny (model P w) callerA (.call (.ref fa) ⟨[.ref a],[]⟩) (fun r s'=>r=.ok (.ret (.bool true))/\OldK s₁.heap s'.heap/\s'.os=s₁.os/\AllBare s'.gens) s₁:=by
 have rv:=mK hi;have lenV:=hi.length
 have core:∀H:Hp,Only H->SqL K H a (ns.map V.int)->HOk P w H s₁.heap->(∀b,H b≠none->b=a)->(H a≠none->K.lookup a=none) ->
   codeAny (model P w) callerA (.call (.ref fa) ⟨[.ref a],[]⟩) (fun r s'=>r=.ok (.ret (.bool true))/\OldK s₁.heap s'.heap/\s'.os=s₁.os/\AllBare s'.gens) s₁:=by
  intro H hO hS hok hA hK
  have base_of:∀{b:Addr} {o:Obj},s₁.heap.get? b=some o->H b=none->(nQ s₁.heap H).get? b=some o:=fun e n=>xK e n
  have noA:∀{b:Addr} {o:Obj} {es:Array DictEntry} {ep:Nat},s₁.heap.get? b=some o->o.data=.dict es ep->H b=none:=fun {b o es ep} e d=>by
   cases q:H b with
   |none=>rfl
   |some u =>
    have e':b=a:=hA b (by rw[q];simp)
    subst e'
    rw[ha] at e;cases e
    have d':Data.seq vs.toArray _=Data.dict es ep:=d
    cases d'
  have nsK:∀{b:Addr} {m:Str->Option Value},s₁.heap.Ns b m->(nQ s₁.heap H).Ns b m:=fun {b m} ⟨o,es,ep,e,d,r⟩=>⟨o,es,ep,base_of e (noA e d),d,r⟩
  have hKb:K.In (nQ s₁.heap H):=fun b o e=>base_of (KX b o e) (by
   cases q:H b with
   |none=>rfl
   |some u =>
    have e':b=a:=hA b (by rw[q];simp)
    subst e'
    rw[hK (by rw[q];simp)] at e;cases e)
  have hM:Mod K mg (nQ s₁.heap H):=⟨hKb,nsK hns,⟨mb,nsK hb,hbb⟩,let ⟨mc,h1,h2⟩:=hlim;⟨mc,nsK h1,h2⟩⟩
  have e0:Env0 P w K mg (nQ s₁.heap H) callerA [] s₁ H:=⟨rfl,hM,fun b o e=>BX e,Nat.le_of_eq (ww _ _),trivial,fun b hb=>absurd (show b∈([]:List Addr) from hb) (by simp),hok,.of_eq hg⟩
  refine codeAny_mono ((F _ hKb (nsK hns)).run callerA [] s₁ H ⟨[.ref a],[]⟩ [.ref a] [.ref a] _ _ hr e0 (hbind s₁ (.ref a)) (.cons rfl .nil) (hsp H hO hS)) fun r s' h=>?_
  cases r with
  |error e=>exact (hCX H e s' h).elim
  |ok fl =>
   cases fl with
   |next=>exact False.elim h
   |brk=>exact False.elim h
   |cont=>exact False.elim h
   |ret u =>
    obtain⟨v,H',os,bare,un,hok',r',q⟩:=h
    have q':v=.bl true:=q
    subst q'
    obtain rfl:u=Value.bool true:=r'
    refine⟨rfl,OldK.of_keep fun b o e=>?_,os,bare⟩
    cases q:H b with
    |none=>exact un.keep b o e q (by intro z;exact absurd (show b∈([]:List Addr) from z) (by simp)) (by simp)
    |some u =>
     rcases hO b with z | ⟨ob,xs,z⟩
     ·
      rw[q] at z;cases z
     ·
      have z2:=un.frzs b ob _ z
      obtain⟨e1,_⟩:=hok b _ z
      obtain⟨e2,_⟩:=hok' b _ z2
      rw[e] at e1;cases e1
      exact e2
 cases hk:K.lookup a with
 |some o =>
  have e:=KX a o hk
  rw[ha] at e
  cases e
  refine core (fun _=>none) (fun _=>.inl rfl) (.inr ⟨_,vs.toArray,_,hk,rfl,rfl,rfl,by rw[List.size_toArray,lenV];exact hl,by simpa using rv⟩) (fun b u z=>by have z':(none:Option HO)=some u:=z;cases z') (fun b z=>absurd rfl z) fun z=>absurd rfl z
 |none =>
 refine core (fun b=>if b=a then some (.frz { cls:=.type "list",data:=.seq vs.toArray} (.lst (ns.map V.int))) else none) (fun b=>?_) (.inl (.inr ⟨{ cls:=.type "list",data:=.seq vs.toArray},if_pos rfl⟩)) (fun b u z=>?_) (fun b z=>?_) fun _=>hk
 ·by_cases hb:b=a
  ·exact .inr ⟨_,_,if_pos hb⟩
  exact .inl (if_neg hb)
 ·by_cases hb:b=a
  ·have z':=(if_pos hb).symm.trans z;cases z';subst hb;exact⟨ha,by rw[List.length_map];exact hl,vs,_,rv,ha⟩
  have z':=(if_neg hb).symm.trans z;cases z'
 by_cases hb:b=a
 ·exact hb
 exact absurd (if_neg hb) z
abbrev KOf {K:Frag}{h:Heap}(_:K.In h):Frag:=K
theorem walk_of {l:PySem.W.OpenLaw}{n k:Nat}{q:Program}{loose:List Str}{XP:(Str->Option Value)->Heap->Prop}{YP:World->Heap->Prop}{d:DefRec}{K:Params->Frag}{CX:World->CXT}{sp:World->Sp}{x:Str}
  (hn:l.most=some n) (hn2:n<=sizeLine) (hdf:d.params.defaults=[]) (hr:Room k callerA)
  (hY:∀(w:World) (h:Heap),YP w h->(K w.params).In h)
  (F:∀(w:World) (mg:Str->Option Value) (fa:Addr) (h:Heap),(K w.params).In h->h.Ns mainGlobals mg->mg d.name=some (.ref fa) ->
   ∃fd:FuncData,(∀(s:Shared) (u:Value),BindsTo s fd ⟨[u],[]⟩ [(x,u)]) /\
    ∀base:Heap,(K w.params).In base->base.Ns mainGlobals mg->FnOk l.prog w (K w.params) mg base (CX w) k fa fd [x] (sp w))
  (hsp:∀(w:World) (H:Hp) (a:Addr) (ns:List Int),ns.length<=n->Only H->SqL (K w.params) H a (ns.map V.int)->sp w [.ref a] H (fun v _=>v=.bl true) fun _ _ _=>False)
  (hCX:∀(w:World) (H:Hp) (s:Shared) (e:Value) (s':Shared),CX w [] H s (fun _ _ _=>False) e s'->False) :
  PySem.W.WalkO q loose XP YP l.row.toRowW d [] (fun f vs=>PySem.call f vs):=by
 refine Att.attach_call hn hdf fun w s₀ s₁ mg mb fa o pm cd doc a vs ns G Y ho hd hcd hmg hobj hints hlen hg=>?_;have KX:=hY w _ Y;obtain⟨fd,hb,hF⟩:=F w mg fa _ KX G.T.g hmg;exact yh KX G.T.g G.T.b G.T.builtins G.T.nolimit hg hobj hints (Nat.le_trans hlen hn2) hr hF hb (fun H hO hS=>hsp w H a ns hlen hO hS) fun H e s'=>hCX w H s₁ e s'
end L2
/- THE LAST THEOREM (shape;LID,My.* are yours):
  My.Adr: a structure of the addresses that your layer names (classes,functions);My.Txt K t: a structure (Prop) of the equations over K;
  My.txt_mk:{K} {implicit addresses ..} (e1:nsIn K mainGlobals "law"=some (some (.ref f))) (e2:K.lookup f=some ⟨oc,od,.func (fnOf "law" "law" params body scope dV kV doc pm an cdv ct),sl⟩) (e3:codeIn K cdv "law"=true) .. : ∃t,My.Txt K t
set_option maxRecDepth 100000 in
set_option maxHeartbeats 0 in
theorem PySem.Challenge.cw_LID_holds : PySem.Challenge.rw_LID.Holds := by
 w_on;o_law;k_head;(case hw=>w_witness2)
 k_fill
 refine L2.walk_of (l:=PySem.Challenge.rw_LID) (n:=63) (k:=40) (x:="script") (CX:=fun w=>..) (sp:=fun _=>My.sp_law) rfl (by decide) rfl ⟨rfl,by decide,by decide⟩ (fun w h Y=>PySem.W.kIn_of Y) ?F ?S ?C
 case F =>
  intro w mg fa h KX G hmg
  have T:∃t,My.Txt (L2.KOf KX) t:=by
   dsimp only[L2.KOf]                          -- K must stand as «<heap const> w.params» for k_is
   refine' My.txt_mk ?e1 ?e2 ?e3 ..
   (case e1=>PySem.W.k_is)                    -- in the order: a name->its address->its object->its parts
   (case e2=>PySem.W.k_is)
   ..
  obtain⟨t,T⟩:=T
  have e0:=hmg.symm.trans (mg_of KX G T.law)
  cases e0                                       -- fa is the law's own address
  exact⟨_,fun s u=>.of_eq rfl,fun base kb nb=>My.law_fn T kb nb⟩     -- if «.of_eq rfl» comes too early: refine'⟨_,?b,fun base kb nb=>My.law_fn T kb nb⟩;exact fun s u=>.of_eq rfl
 case S=>exact fun w H a ns hl hO hS=>..
 case C=>exact ..
(the tactic k_is has no namespace: write k_is) -/
namespace L2
abbrev CX0:CXT:=fun _ _ _ _ _ _=>False
abbrev E0:XK:=fun _ _ _=>False
theorem Gh {X:Cx}:j8 CX0 X E0:=fun _ _ _ _ _ _ _ h=>h.elim
structure Fun (K:Frag) (x qual:Str) (st:Stmt) (f:Addr) (fd:FuncData):Prop where
 ex:∃(oc:Value) (od:Option Addr) (kV doc pm:Value) (an:Option Addr) (cdv ct:Value) (osl:Array (Option Value)),
  fd=fnOf x qual (bH st) (bj st) (au st) .none kV doc pm an cdv ct/\K.lookup f=some ⟨oc,od,.func fd,osl⟩/\codeIn K cdv qual=true
 kp:keepIn K (.ref f)=true
section
variable {P:Program}{w:World}{K:Frag}{mg:Str->Option Value}{base:Heap}
theorem Fun.ok {x qual:Str}{st:Stmt}{f:Addr}{fd:FuncData}{N ps:List Str}{k:Nat}{sp:Sp}(F:Fun K x qual st f fd) (S:FnScope N ps (au st)) (len:∀vs H Q E,sp vs H Q E->vs.length=ps.length)
  (hbody:∀(cdv:Value) (A:Around) (outer:List Env) (s:Shared) (H:Hp) (vs:List V) (Q:VK) (E:XK),Room k (A.deeper (envOfC qual (au st) s.heap.objs.size f cdv))->sp vs H Q E ->
   ∃t,PSs (eU CX0 P w K mg base N qual (au st) f cdv A outer s H E).nox (bj st) t/\t { nx:=fun _ H'=>Q .non H',rt:=Q} (start N vs) H):FnOk P w K mg base CX0 (k+1) f fd ps sp:=by
 obtain⟨oc,od,kV,doc,pm,an,cdv,ct,osl,rfl,lk,hcd⟩:=F.ex;refine Gd lk hcd S len fun A outer s H vs Q E hr hsp=>?_;obtain⟨t,h,q⟩:=hbody cdv A outer s H vs Q E hr hsp;exact⟨t,h.nox,q⟩
theorem Fun.binds {x qual:Str}{st:Stmt}{f:Addr}{fd:FuncData}{ps:List Str}(F:Fun K x qual st f fd)
  (h:∀(kV doc pm:Value) (an:Option Addr) (cdv ct:Value) (us:List Value),us.length=ps.length->bindArgs (fnOf x qual (bH st) (bj st) (au st) .none kV doc pm an cdv ct) ⟨us,[]⟩=pure (ps.zip us)):Binds K fd ps []:=by
 obtain⟨oc,od,kV,doc,pm,an,cdv,ct,osl,rfl,lk,hcd⟩:=F.ex;exact .all (h kV doc pm an cdv ct)
theorem oG {x qual:Str}{st:Stmt}{f:Addr}{oc:Value}{od an:Option Addr}{osl:Array (Option Value)}{kV doc pm cdv ct:Value}(l:K.lookup f=some ⟨oc,od,.func (fnOf x qual (bH st) (bj st) (au st) .none kV doc pm an cdv ct),osl⟩)
  (c:codeIn K cdv qual=true) (k:keepIn K (.ref f)=true):Fun K x qual st f (fnOf x qual (bH st) (bj st) (au st) .none kV doc pm an cdv ct):=⟨⟨oc,od,kV,doc,pm,an,cdv,ct,osl,rfl,l,c⟩,k⟩
variable {X:Cx}
theorem pv (i:Nat) {x:Str}{pos:Pos}(hN:X.N[i]?=some x:=by rfl) (hv:Vis X.env.scope x:=by first | exact Or.inl rfl | exact Or.inr (Or.inl rfl) | exact Or.inr (Or.inr rfl)) (hd:(x==("__debug__":Str))=false:=by decide)
  (hcd:(x==("__classdict__":Str))=false:=by decide):PE X (.Name x pos) (Lj i):=Hx hN hv hd hcd
end
theorem Ql {A B:Prop}(h:B):if false=true then A else B:=by
 rw[if_neg Bool.false_ne_true];exact h
theorem Qm {A B:Prop}(h:A):if true=true then A else B:=by
 rw[if_pos rfl];exact h
section
variable {κ:Type} [DecidableEq κ]
theorem fC:∀{l:List κ}{k:κ},l.Nodup->¬k∈l->(l++[k]).Nodup
 |[],k,_,_=>by simp
 |a::r,k,h,hk=>by
  obtain⟨h1,h2⟩:=List.nodup_cons.mp h
  show (a::(r++[k])).Nodup
  refine List.nodup_cons.mpr ⟨fun m=>?_,fC h2 fun m=>hk (List.mem_cons.mpr (Or.inr m))⟩
  rcases List.mem_append.mp m with q | q
  ·
   exact h1 q
  ·
   exact hk (List.mem_cons.mpr (Or.inl (List.mem_singleton.mp q).symm))
end
theorem jt {F:Str × NameKind->Str × NameKind}(hF:∀p,(F p).1=p.1) {x:Str}{k:NameKind}:∀{names:List (Str × NameKind)},names.lookup x=some k->(names.map F).lookup x=some (F (x,k)).2
 |[],h=>by cases h
 | (m,q)::r,h=>by
  have hm:=hF (m,q)
  rw[List.map_cons,show F (m,q)=(m,(F (m,q)).2) from Prod.ext hm rfl]
  by_cases e:x=m
  ·
   subst e
   rw[List.lookup_cons_self] at h ⊢
   cases h
   rfl
  ·
   have eb:(x==m)=false:=beq_eq_false_iff_ne.mpr e
   simp only[List.lookup,eb] at h ⊢
   exact jt hF h
theorem fP {env:Env}{x:Str}{names:List (Str × NameKind)}(h:names.lookup x=some .free) :
  (names.map fun (n,k)=>if (k==NameKind.free&&env.scope.kind==.function&&env.kindOf n==some .cell) then (n,NameKind.cell) else (n,k)).lookup x=some .cell \/
  (names.map fun (n,k)=>if (k==NameKind.free&&env.scope.kind==.function&&env.kindOf n==some .cell) then (n,NameKind.cell) else (n,k)).lookup x=some .free:=by
 rw[jt (F:=fun (n,k)=>if (k==NameKind.free&&env.scope.kind==.function&&env.kindOf n==some .cell) then (n,NameKind.cell) else (n,k)) (fun p=>by dsimp only;split <;> rfl) h];dsimp only;split
 ·exact .inl rfl
 exact .inr rfl
theorem kj {scope:Scope}{env:Env}(h:∀y∈scope.names,y.2=.free->∃c,env.cells.lookup y.1=some c) :
  ∃cl,closureFor scope env=pure cl/\(∀x c,cl.lookup x=some c->env.cells.lookup x=some c)/\∀y∈scope.names,y.2=.free->∃c,cl.lookup y.1=some c:=by
 have key:∀(names:List (Str × NameKind)) (cs:List (Str × Addr)),(∀y∈names,y.2=.free->∃c,env.cells.lookup y.1=some c)->(∀x c,cs.lookup x=some c->env.cells.lookup x=some c) ->
   ∃cl:List (Str × Addr),(forIn names cs (fun (x:Str × NameKind) (r:List (Str × Addr))=>(do
    if x.2==.free then do
     let a <- cellOf env x.1
     pure (ForInStep.yield ((x.1,a)::r))
    else pure (ForInStep.yield r):Sem (ForInStep (List (Str × Addr))))):Sem (List (Str × Addr)))=pure cl/\(∀x c,cl.lookup x=some c->env.cells.lookup x=some c) /\
    (∀x c,cs.lookup x=some c->∃c',cl.lookup x=some c')/\∀y∈names,y.2=.free->∃c,cl.lookup y.1=some c:=by
  intro names
  induction names with
  |nil=>intro cs _ hc;exact⟨cs,rfl,hc,fun x c e=>⟨c,e⟩,fun y hy=>nomatch hy⟩
  |cons y r ih =>
   intro cs hn hc
   obtain⟨n,k⟩:=y
   by_cases hk:k=.free
   ·
    subst hk
    obtain⟨c,ec⟩:=hn (n,.free) List.mem_cons_self rfl
    have hcell:cellOf env n=pure c:=by unfold cellOf;rw[ec]
    obtain⟨cl,e,h1,h2,h3⟩:=ih ((n,c)::cs) (fun y hy=>hn y (List.mem_cons_of_mem _ hy)) (fun x c' q=>by
     simp only[List.lookup_cons] at q
     cases hx:x==n with
     |true=>rw[hx] at q;cases q;rw[eq_of_beq hx];exact ec
     |false=>rw[hx] at q;exact hc x c' q)
    refine⟨cl,?_,h1,fun x c' q=>?_,fun y hy hf=>?_⟩
    ·
     rw[List.forIn_cons]
     show ((if (NameKind.free==NameKind.free)=true then (cellOf env n >>= fun a=>pure (ForInStep.yield ((n,a)::cs))) else pure (ForInStep.yield cs)) >>= _)=_
     rw[hcell]
     exact e
    ·
     cases hx:x==n with
     |true=>exact h2 x c (by simp only[List.lookup_cons,hx])
     |false=>exact h2 x c' (by simp only[List.lookup_cons,hx];exact q)
    ·
     rcases List.mem_cons.mp hy with rfl | hy
     ·
      exact h2 n c (by simp [List.lookup_cons])
     ·
      exact h3 y hy hf
   ·
    obtain⟨cl,e,h1,h2,h3⟩:=ih cs (fun y hy=>hn y (List.mem_cons_of_mem _ hy)) hc
    have hb:(k==NameKind.free)=false:=by simpa using hk
    refine⟨cl,?_,h1,h2,fun y hy hf=>?_⟩
    ·
     rw[List.forIn_cons]
     show ((if (k==NameKind.free)=true then (cellOf env n >>= fun a=>pure (ForInStep.yield ((n,a)::cs))) else pure (ForInStep.yield cs)) >>= _)=_
     rw[hb]
     exact e
    ·
     rcases List.mem_cons.mp hy with rfl | hy
     ·
      exact absurd hf hk
     ·
      exact h3 y hy hf
 obtain⟨cl,e,h1,_,h3⟩:=key scope.names [] h (fun x c q=>by simp at q);refine⟨cl,?_,h1,h3⟩;unfold closureFor;exact congrArg (fun m=>m >>= fun r=>pure r) e
def bx (X:Cx) (N':List Str) (scope:Scope) (cl:List (Str × Addr)) (pins:List (Addr × Obj)) (s:Shared) (H:Hp) (C:Addr) (fp:List Addr):Cx where
 prog:=X.prog
 w:=X.w
 K:=X.K
 mg:=X.mg
 base:=X.base
 A:=X.A
 N:=N'
 s₀:=s
 H₀:=H
 env:=compEnvC scope cl C X.env
 outer:=X.stack
 stack:=X.stack
 ex:=fp
 fn:=fun x=>scope.names.lookup x==some .cell
 calm:=X.calm
 pn:=X.pn++pins
 xe:=fun _ _=>False
def PIf (X:Cx) (ifs:List Expr) (t:TT):Prop :=
 ∀(pins:List (Addr × Obj)) (s:Shared) (U:St) (H:Hp) (Q:Bool->Hp->Prop),Inv X pins U H s->t U H Q ->
  wpAny (model X.prog X.w) X.A (forIn ifs true fun c r=>if r=true then do let ok <- isTrue c X.env (eval c X.env);pure (ForInStep.yield ok) else pure (ForInStep.yield r)) (TP X pins U Q) X.xe s
def Qn:TT:=fun _ H Q=>Q true H
theorem Dd {X:Cx}:PIf X [] Qn:=fun _ _ _ H _ I h=>wpAny_tests_nil ⟨H,I,h⟩
section
variable {prog:Program}{w:World}{A:Around}{R:Result->Shared->Prop}{s:Shared}
theorem oH {elt target iter:Expr}{ifs:List Expr}{scope:Scope}{pos:Pos}{it acc:Value}{env:Env}(I:Nat->Shared->Prop)
  (turn:∀n s,I n s->wpAny (model prog w) A (pyNext it) (fun r s₁=>match r with | .none=>R (.ok .next) s₁ | .some v=>wpAny (model prog w) A (letOwnedTupleGo target it v) (fun _ s₁'=>wpAny (model prog w) A (assign target env v) (fun _ s₂=>wpAny (model prog w) A (forIn ifs true fun c r=>if r=true then do let ok <- isTrue c env (eval c env);pure (ForInStep.yield ok) else pure (ForInStep.yield r)) (fun ok s₃=>if ok=true then wpAny (model prog w) A (eval elt env) (fun x s₄=>wpAny (model prog w) A (call (.builtin "list.append") [acc,x]) (fun _ s₅=>∃m,m<n/\I m s₅) (fun _ _=>False) s₄) (fun _ _=>False) s₃ else ∃m,m<n/\I m s₃) (fun _ _=>False) s₂) (fun _ _=>False) s₁') (fun _ _=>False) s₁) (fun _ _=>False) s)
  (n:Nat) (h:I n s):codeAny (model prog w) A (.compLoop (.ListComp elt [⟨target,iter,ifs,0⟩] scope pos) 0 it acc env) R s:=by
 refine codeAny_loop rfl I (fun j s₀ hI=>?_) n h;show wpAny _ A ((compTurn (.ListComp elt [⟨target,iter,ifs,0⟩] scope pos) 0 it acc env).onRaise (fun x=>do noteFrame x env;theTreesLotGoes x)) _ _ s₀;refine wpAny_noted ?_;rw[compTurn_list];refine wpAny_bind (wpAny_standAt (wpAny_bind (wpAny_mono (turn j s₀ hI) (fun r s₁ h₁=>?_) fun _ _ h'=>h'.elim)));cases r with
 |none=>exact wpAny_pure h₁
 |some v =>
 refine wpAny_bind (wpAny_mono h₁ (fun _ s₁' h₁'=>?_) fun _ _ h'=>h'.elim);refine wpAny_bind (wpAny_mono h₁' (fun _ s₂ h₂=>wpAny_bind (wpAny_mono h₂ (fun ok s₃ h₃=>?_) fun _ _ h'=>h'.elim)) fun _ _ h'=>h'.elim);cases ok with
 |false=>exact (wpAny_pure (And.intro rfl h₃))
 |true =>
 exact wpAny_bind (wpAny_bind (wpAny_mono h₃ (fun x s₄ h₄=>wpAny_bind (wpAny_mono h₄ (fun _ s₅ h₅=>wpAny_pure (wpAny_pure ⟨rfl,h₅⟩)) fun _ _ h'=>h'.elim)) fun _ _ h'=>h'.elim))
end
def uP (J:It) (g:TG) (tt:TT) (te:TE) (fin:List V->Hp->Prop) (U₀:St) (H₁:Hp):Prop :=
 ∃W:Nat->Nat->List V->St->Hp->Prop,(∃m,W 0 m [] U₀ H₁)/\∀i m ys U H,W i m ys U H ->
  (J.stop i H/\ys.length<=sizeLine/\fin ys H) \/
  (J.go i H/\∀x H',J.yld i H x H'->g x U H' fun U2 H2=>tt U2 H2 fun b H3=>if b=true then te U2 H3 fun y H4=>ys.length<sizeLine/\∃m',m'<m/\W (i+1) m' (ys++[y]) U2 H4 else ∃m',m'<m/\W (i+1) m' ys U2 H3)
def lU (nt:Nat) (cap:List Nat) (U:St):St:=List.replicate nt none++cap.map fun j=>(U[j]?).getD none
structure CompSc (X:Cx) (N':List Str) (nt:Nat) (cap:List Nat) (scope:Scope):Prop where
 kind:scope.kind=.function
 cells:∀y∈scope.names,y.2=.cell->scope.names.lookup y.1=some .cell
 names:∀x∈scope.names,x.2=.local->scope.names.lookup x.1=some .local
 free:∀y∈scope.names,y.2=.free->X.env.kindOf y.1=some .cell\/X.env.kindOf y.1=some .free
 len:N'.length=nt+cap.length
 caps:∀(j:Nat) (x:Str),N'[nt+j]?=some x->∃i,cap[j]?=some i/\X.N[i]?=some x/\scope.names.lookup x=some .free
theorem jK {l:Addr}{its:List Value}{n:Nat}{u:Value}{P:Program}{w:World}{A:Around}{E:Value->Shared->Prop}{s:Shared}{Q:Value->Shared->Prop}
  (e:s.heap.get? l=some { cls:=.type "list",data:=.seq its.toArray n}) (hz:its.length<sizeLine)
  (h:∀h' n',h'.get? l=some { cls:=.type "list",data:=.seq (its++[u]).toArray n'}->(∀b o,b≠l->s.heap.get? b=some o->h'.get? b=some o)->Q .none { s with heap:=h'}) :
  wpAny (model P w) A (call (.builtin "list.append") [.ref l,u]) Q E s:=by
 refine call_meets F.slot_list_append ⟨_,e,rfl⟩ F.entry_list_append (F.args_list_append_2 _ _) (list_append l its.toArray n u (by rw[List.size_toArray];omega)) ⟨e,?_⟩;have q:=PySem.IsL.update e (·.push u);rw[List.push_toArray] at q;exact h _ _ q (fun b o hb hu=>(Heap.get?_update_other s.heap _ (Ne.symm hb)).trans hu)
theorem bz:∀(names:List (Str × NameKind)) (n:Nat) (acc:List (Str × Addr)),cellsFrom n names acc=cellsFrom n names []++acc
 |[],_,_=>rfl
 | (x,k)::r,n,acc=>by
  unfold cellsFrom
  split
  ·
   rw[bz r (n+1) ((x,n)::acc),bz r (n+1) [(x,n)],List.append_assoc]
   rfl
  ·
   exact bz r n acc
theorem cC {α:Type}(x:Str):∀(l m:List (Str × α)),(l++m).lookup x=(l.lookup x).or (m.lookup x)
 |[],_=>rfl
 | (y,v)::r,m=>by
  rw[List.cons_append,List.lookup_cons,List.lookup_cons,cC x r m]
  cases x==y <;> rfl
theorem dN {names:List (Str × NameKind)}{n:Nat}{cl:List (Str × Addr)}{x:Str}{c:Addr}(h:(cellsFrom n names cl).lookup x=some c):(cellsFrom n names []).lookup x=some c\/((cellsFrom n names []).lookup x=none/\cl.lookup x=some c):=by
 rw[bz,cC] at h;cases e:(cellsFrom n names []).lookup x with
 |some d=>rw[e] at h;exact .inl h
 |none=>rw[e] at h;exact .inr ⟨rfl,h⟩
theorem gf {x:Str}{c:Addr}:∀{names:List (Str × NameKind)}{n:Nat}{acc:List (Str × Addr)},(x,c)∈cellsFrom n names acc->(x,NameKind.cell)∈names\/(x,c)∈acc
 |[],_,_,h=>.inr h
 | (y,k)::r,n,acc,h=>by
  unfold cellsFrom at h
  split at h
  ·
   rename_i hk
   rcases gf h with q | q
   ·
    exact .inl (List.mem_cons_of_mem _ q)
   ·
    rcases List.mem_cons.mp q with q | q
    ·
     cases q
     have:k=.cell:=by simpa using hk
     subst this
     exact .inl List.mem_cons_self
    ·
     exact .inr q
  ·
   rcases gf h with q | q
   ·
    exact .inl (List.mem_cons_of_mem _ q)
   ·
    exact .inr q
theorem De {M:Model}{A:Around}{E:Value->Shared->Prop}{s:Shared}{scope:Scope}{globals:Addr}{closure:List (Str × Addr)}{qual:Str}{env:Env}{Q:Env->Shared->Prop}
  (hQ:Q (newEnv scope s.heap.objs.size globals (cellsFrom (s.heap.objs.size+1) scope.names closure) qual none .none (some env) builtinsNs) { s with heap:=pushCells (s.heap.push { cls:=.type "dict",data:=.dict #[]}) scope.names}) :
  wpAny M A (newFunctionEnv scope globals closure [] qual none .none (some env)) Q E s:=by
 simp only[newFunctionEnv,Option.isSome_some,if_true];refine wpAny_bind (wpAny_alloc ?_);refine wpAny_bind (wpAny_layCells _ (fun name kind cells=>by cases hkc:kind==NameKind.cell <;> simp [hkc]) _ _ _ _ ?_);rw[show ({ s with heap:=s.heap.push { cls:=.type "dict",data:=.dict #[]}}:Shared).heap.objs.size=s.heap.objs.size+1 from Heap.size_push ..];refine wpAny_bind ?_;rw[List.forIn_nil];exact wpAny_pure (wpAny_pure hQ)
theorem yj {X:Cx}{pins:List (Addr × Obj)}{U:St}{H:Hp}{s:Shared}{N':List Str}{nt:Nat}{cap:List Nat}{scope:Scope}{cl:List (Str × Addr)}{fp:List Addr}{h':Heap}{C:Addr}{tk:Nat}{pl:List (Addr × Obj)}
  (S:CompSc X N' nt cap scope) (I:Inv X pins U H s) (hcl:∀x c,cl.lookup x=some c->X.env.cells.lookup x=some c) (hclh:∀y∈scope.names,y.2=.free->∃c,cl.lookup y.1=some c)
  (hf:∀b∈fp,j5 X pins H b) (hfl:∀b∈fp,b<s.heap.objs.size) (hC:s.heap.objs.size<C) (hn:h'.Ns C fun _=>none) (hk:∀b o,s.heap.get? b=some o->h'.get? b=some o)
  (hp:∀p∈pl,h'.get? p.1=some p.2/\s.heap.objs.size=p.1/\∀v,p.2.data≠.cell v) (hcc:CellsOk h' (C+1) (cellsFrom (C+1) scope.names [])) :
  Inv (bx X N' scope (cellsFrom (C+1) scope.names cl) pins s H C fp) pl (lU nt cap U) H { s with heap:=h',toks:=tk}:=by
 have two:∀x c,(cellsFrom (C+1) scope.names cl).lookup x=some c->(C+1<=c/\(cellsFrom (C+1) scope.names []).lookup x=some c)\/X.env.cells.lookup x=some c:=fun x c e=>by
  rcases dN e with q | q
  ·exact .inl ⟨(hcc.empty x c (mem_of_lookup q)).2,q⟩
  exact .inr (hcl x c q.2)
 have low:∀x c,X.env.cells.lookup x=some c->c<s.heap.objs.size:=fun x c e=>by obtain⟨v,q⟩:=I.cell x c e;exact q.lt
 have hok:(bx X N' scope (cellsFrom (C+1) scope.names cl) pins s H C fp).Ok:=by
  refine⟨I.ok.mod,S.kind,I.ok.glob,I.ok.blt,Nat.le_of_lt hC,fun x y c e1 e2=>?_,fun x hx=>?_,fun x c z e=>?_,I.ok.hd,I.ok.frames,.inl rfl,fun b hb=>?_,I.bs,Nat.le_trans I.ok.bsz I.sz,fun b o e hb=>?_,fun b hb z=>?_,I.stack,I.stkFree⟩
  ·rcases two x c e1 with ⟨q1,p1⟩ | q1
   ·rcases two y c e2 with ⟨q2,p2⟩ | q2
    ·exact name_of_addr hcc.apart (mem_of_lookup p1) (mem_of_lookup p2)
    exact absurd (Nat.lt_of_lt_of_le (Nat.lt_succ_of_lt (Nat.lt_trans (low y c q2) hC)) q1) (Nat.lt_irrefl _)
   rcases two y c e2 with ⟨q2,p2⟩ | q2
   ·exact absurd (Nat.lt_of_lt_of_le (Nat.lt_succ_of_lt (Nat.lt_trans (low x c q1) hC)) q2) (Nat.lt_irrefl _)
   exact I.ok.inj x y c q1 q2
  ·have hx':(relabel scope X.env).names.lookup x=some .cell\/(relabel scope X.env).names.lookup x=some .free:=hx;have hm:∃k,(x,k)∈(relabel scope X.env).names/\(k=.cell\/k=.free):=by
    rcases hx' with z | z
    ·exact⟨_,mem_of_lookup z,.inl rfl⟩
    exact⟨_,mem_of_lookup z,.inr rfl⟩
   obtain⟨k,hm,hk⟩:=hm;obtain⟨⟨n,k0⟩,hm0,e⟩:=List.mem_map.mp hm;have e':(if (k0==NameKind.free&&X.env.scope.kind==.function&&X.env.kindOf n==some .cell)=true then (n,NameKind.cell) else (n,k0))=(x,k):=e;by_cases hk0:k0=.free
   ·subst hk0;have en:n=x:=by split at e' <;> exact congrArg Prod.fst e'
    subst en;obtain⟨c,ec⟩:=hclh (n,.free) hm0 rfl;show ∃c,(cellsFrom (C+1) scope.names cl).lookup n=some c;rw[bz,cC,ec];cases (cellsFrom (C+1) scope.names []).lookup n with
    |none=>exact⟨c,rfl⟩
    |some d=>exact⟨d,rfl⟩
   have hb:(k0==NameKind.free)=false:=by simpa using hk0
   rw[hb] at e';simp only[Bool.false_and,Bool.false_eq_true,if_false] at e';cases e';rcases hk with rfl | rfl
   ·obtain⟨c,ec⟩:=ik (n:=C+1) (S.cells _ hm0 rfl);refine⟨c,?_⟩;show (cellsFrom (C+1) scope.names cl).lookup _=some c;rw[bz,cC,ec];rfl
   exact absurd rfl hk0
  ·have z':scope.names.lookup x=some .cell:=by simpa [bx] using z
   obtain⟨d,ed⟩:=ik (n:=C+1) z';have e':(cellsFrom (C+1) scope.names cl).lookup x=some c:=e;rw[bz,cC,ed] at e';cases e';have:=(hcc.empty x _ (mem_of_lookup ed)).2;show s.heap.objs.size<=_;omega
  ·obtain⟨f0,f1,f2,f3,f4,f5⟩:=hf b hb;refine⟨fun z=>absurd (hfl b hb) (Nat.not_lt.mpr (by rw[show b=C from z];exact Nat.le_of_lt hC)),fun x c e=>?_⟩;rcases two x c e with ⟨q,_⟩ | q
   ·intro z;rw[z] at q;exact absurd (Nat.lt_of_lt_of_le (Nat.lt_succ_of_lt (Nat.lt_trans (hfl b hb) hC)) q) (Nat.lt_irrefl _)
   exact f4 x c q
  ·obtain⟨f0,f1,f2,f3,f4,f5⟩:=hf b hb;rcases f3 with q | q
   ·exact I.ok.noex b o e q
   exact absurd (Heap.lt_size (I.ok.bs b o e).1) (Nat.not_lt.mpr q)
  obtain⟨f0,f1,f2,f3,f4,f5⟩:=hf b hb;rcases List.mem_cons.mp (I.stkSub b z) with q | q
  ·exact f1 q
  exact f2 q
 obtain⟨m,hnm,hl⟩:=id I.loc;refine⟨hok,rfl,I.bare,Un.kept hk,⟨_,hn,fun i x v e1 e2 e3=>?_⟩,fun x c e=>?_,I.hok.fresh (Nat.le_of_lt hC),fun x c e=>?_,fun p hp'=>?_,I.hok.kept hk,?_⟩
 ·-- a name of the block: one that it takes from around
  unfold lU at e2;by_cases hi:i<nt
  ·rw[List.getElem?_append_left (by simpa using hi),List.getElem?_replicate] at e2;split at e2 <;> cases e2
  obtain⟨j,rfl⟩:∃j,i=nt+j:=⟨i - nt,by omega⟩;obtain⟨k,ck,hN,hfree⟩:=S.caps j x e1;rw[List.getElem?_append_right (by simp),List.length_replicate,Nat.add_sub_cancel_left,List.getElem?_map,ck] at e2;have e2':(U[k]?).getD none=some v:=Option.some.inj e2;have e2'':U[k]?=some (some v):=by
   cases q:U[k]? with
   |none=>rw[q] at e2';cases e2'
   |some z=>rw[q] at e2';exact congrArg some e2'
  have hkd:=S.free (x,.free) (mem_of_lookup hfree) rfl;obtain⟨u,ru,lk⟩:=hl k x v hN e2'' (.inr hkd);refine⟨u,ru,.inr ⟨fP hfree,?_⟩⟩;rcases lk with ⟨kl,_⟩ | ⟨_,c,hc,hcell⟩
  ·rcases hkd with z | z <;> (rw[kl] at z;cases z)
  obtain⟨c',hc'⟩:=hclh (x,.free) (mem_of_lookup hfree) rfl;have e:=hcl x c' hc';rw[hc] at e;cases e;obtain⟨o,ho,hd⟩:=hcell;refine⟨c,?_,o,hk _ _ ho,hd⟩;show (cellsFrom (C+1) scope.names cl).lookup x=some c;rw[bz,cC];cases q:(cellsFrom (C+1) scope.names []).lookup x with
  |none=>exact hc'
  |some d =>
  rcases gf (mem_of_lookup q) with z | z
  ·have:=S.cells _ z rfl;rw[hfree] at this;cases this
  cases z
 ·rcases two x c e with ⟨_,q⟩ | q
  ·exact⟨none,(hcc.empty x c (mem_of_lookup q)).1⟩
  obtain⟨v,o,ho,hd⟩:=I.cell x c q;exact⟨v,o,hk _ _ ho,hd⟩
 ·rcases two x c e with ⟨q,_⟩ | q
  ·exact I.hok.fresh (Nat.le_of_lt (Nat.lt_of_lt_of_le (Nat.lt_succ_of_lt hC) q))
  exact I.freeC x c q
 ·rcases List.mem_append.mp hp' with z | z
  ·obtain⟨e,n,n1,n2,d⟩:=I.pin p z;refine⟨hk _ _ e,n,fun q=>?_,fun q=>?_,d⟩
   ·exact absurd (Heap.lt_size e) (Nat.not_lt.mpr (by rw[show p.1=C from q];exact Nat.le_of_lt hC))
   rcases List.mem_cons.mp (I.stkSub p.1 q) with q | q
   ·exact n1 q
   exact n2 q
  obtain⟨e,n,d⟩:=hp p z;refine⟨e,I.hok.fresh (by omega),fun q=>?_,fun q=>?_,d⟩
  ·exact absurd (n.trans (show p.1=C from q)) (Nat.ne_of_lt hC)
  have:=I.stkSub p.1 q;rcases List.mem_cons.mp this with q | q
  ·exact absurd I.lt (Nat.not_lt.mpr (by rw[<- q,n];exact Nat.le_refl _))
  exact I.nofs (by omega) q
 unfold lU;show _=N'.length;rw[List.length_append,List.length_replicate,List.length_map,S.len]
theorem HOk.track {P:Program}{w:World}{H:Hp}{h h':Heap}{a C:Addr}{o:HO}(x:HOk P w H h) (hn:H a=none) (hC:H C=none) (k:∀b u,b≠C->h.get? b=some u->h'.get? b=some u) (new:ObjOk P w (upd H a o) h' a o):HOk P w (upd H a o) h':=fun b u e=>by
 by_cases hb:b=a
 ·subst hb;rw[bw] at e;cases e;exact new
 rw[aH hb] at e;have nC:∀c z,H c=some z->c≠C:=fun c z q r=>by rw[r,hC] at q;cases q
 refine (x b u e).stay (fun c v hc q=>k c v ?_ q) (fun c q=>by rw[aH (bD q hn)];exact q) fun c xs q=>by rw[aH (bD q hn)];exact q
 rcases hc with rfl | hc
 ·exact nC c u e
 exact nC c _ hc
theorem qC {X:Cx}{pins:List (Addr × Obj)}{U:St}{H₂:Hp}{s₂:Shared}{N':List Str}{nt:Nat}{cap:List Nat}{scope:Scope}{cl:List (Str × Addr)}{elt tg iter:Expr}{ifs:List Expr}{pos:Pos}{g:TG}{tt:TT}{te:TE}
  {it:Addr} {fp:List Addr} {tn:Nat->Heap->Prop} {J:It} {fin:List V->Hp->Prop} {E:Value->Shared->Prop} {RR:Value->Addr->Result->Shared->Prop}
  (hc:X.calm=true) (S:CompSc X N' nt cap scope) (hcl:∀x c,cl.lookup x=some c->X.env.cells.lookup x=some c) (hclh:∀y∈scope.names,y.2=.free->∃c,cl.lookup y.1=some c)
  (hX:∀cl pins s H C fp,PG (bx X N' scope cl pins s H C fp) tg g/\PIf (bx X N' scope cl pins s H C fp) ifs tt/\PE (bx X N' scope cl pins s H C fp) elt te)
  (I:Inv X pins U H₂ s₂) (T:Turn X.prog X.w X.K tg J fp it tn) (st:tn 0 s₂.heap) (hf:∀b∈fp,j5 X pins H₂ b) (hw:uP J g tt te fin (lU nt cap U) H₂)
  (hRR:∀(D C:Addr) (s₄:Shared) (m:Str->Option Value) (ys:List V) (H':Hp),s₄.heap.Ns C m->s₂.heap.objs.size<=D->s₂.heap.objs.size<=C->C≠D->H' D=none->H' C=none->ys.length<=sizeLine->fin ys H' ->
   (∀h',(∀b o,b≠C->s₄.heap.get? b=some o->h'.get? b=some o)->Inv X pins U (upd H' D (.lst ys)) { s₄ with heap:=h'})->RR (.ref D) C (.ok .next) s₄) :
  wpAny (model X.prog X.w) X.A (newList []) (fun acc s₃=>wpAny (model X.prog X.w) X.A (newFunctionEnv scope X.env.globals cl [] X.env.qual none .none (some X.env)) (fun cenv s₄ =>
   codeAny (model X.prog X.w) X.A (.compStart (.ListComp elt [⟨tg,iter,ifs,0⟩] scope pos) 0 (.ref it) acc { cenv with scope:=relabel scope X.env}) (RR acc cenv.locals) s₄) E s₃) E s₂:=by
 refine wpAny_newObj_type (De ?_);dsimp only;generalize hH2:s₂.heap.push { cls:=.type "list",dict:=none,data:=.seq ([]:List Value).toArray}=B;generalize hD:s₂.heap.objs.size=D;have hB:B.objs.size=D+1:=by rw[<- hH2,Heap.size_push,hD]
 have hcc0:CellsOk (pushCells (B.push { cls:=.type "dict",data:=.dict #[]}) scope.names) (B.objs.size+1) (cellsFrom (B.objs.size+1) scope.names []):=by have:=cellsFrom_ok scope.names (B.push { cls:=.type "dict",data:=.dict #[]}) (B.objs.size+1) [] ⟨fun _ _ hm=>(nomatch hm),List.Pairwise.nil⟩ (by rw[Heap.size_push];exact Nat.le_refl _);rw[Heap.size_push] at this;exact this
 have hns₁:(pushCells (B.push { cls:=.type "dict",data:=.dict #[]}) scope.names).Ns B.objs.size fun _=>none:=(Heap.Ns.new B (.type "dict")).keeps (pushCells_keeps _ _);have kp₁:∀b o,B.get? b=some o->(pushCells (B.push { cls:=.type "dict",data:=.dict #[]}) scope.names).get? b=some o:=fun b o e=>pushCells_keeps _ _ b o (Heap.get?_push_of_some _ e);generalize hCe:B.objs.size=C at hns₁ hcc0 ⊢;generalize pushCells (B.push { cls:=.type "dict",data:=.dict #[]}) scope.names=h₁ at hns₁ hcc0 kp₁ ⊢;have hCD:C=D+1:=hCe.symm.trans hB;have hDC:D≠C:=by rw[hCD];exact Nat.ne_of_lt (Nat.lt_succ_self _)
 have hDlt:s₂.heap.objs.size<C:=by rw[hD,hCD];exact Nat.lt_succ_self _
 have below:∀b o,s₂.heap.get? b=some o->b≠C/\b≠D:=fun b o e=>by have:=Heap.lt_size e;rw[hD] at this;exact⟨by rw[hCD];exact Nat.ne_of_lt (Nat.lt_succ_of_lt this),Nat.ne_of_lt this⟩
 have old:∀b o,s₂.heap.get? b=some o->h₁.get? b=some o:=fun b o e=>kp₁ b o (hH2▸Heap.get?_push_of_some _ e);have hacc:h₁.get? D=some { cls:=.type "list",data:=.seq ([]:List Value).toArray 0}:=kp₁ _ _ (hH2▸hD▸Heap.get?_push_size _ rfl);have hst₁:tn 0 h₁:=T.keep _ _ _ st fun b hb o e=>old b o e;have hfl:∀b∈fp,b<s₂.heap.objs.size:=fun b hb=>by obtain⟨o,e,_⟩:=T.obj _ _ st b hb;exact Heap.lt_size e
 obtain⟨W,⟨m0,w0⟩,turn⟩:=hw;obtain⟨hg,hi,he⟩:=hX (cellsFrom (C+1) scope.names cl) pins s₂ H₂ C fp;have stat:∀{H':Hp} {k:Nat} {its:List Value},(∀b∈fp,H' b=none)->∀b∈fp,j5 (bx X N' scope (cellsFrom (C+1) scope.names cl) pins s₂ H₂ C fp) [(D,{ cls:=.type "list",data:=.seq its.toArray k})] H' b:=fun {H' k its} hn b hb=>by
  obtain⟨f0,f1,f2,f3,f4,f5⟩:=hf b hb;have hlt:=hfl b hb;refine⟨hn b hb,fun z=>?_,fun z=>?_,.inl hb,fun x c e=>?_,fun p hp=>?_⟩
  ·rw[show b=C from z] at hlt;exact absurd hlt (Nat.not_lt.mpr (Nat.le_of_lt hDlt))
  ·rcases List.mem_cons.mp (I.stkSub b z) with q | q
   ·exact f1 q
   exact f2 q
  ·rcases dN e with q | q
   ·have:=(hcc0.empty x c (mem_of_lookup q)).2;intro z;rw[z] at this;exact absurd (Nat.lt_of_lt_of_le (Nat.lt_succ_of_lt (Nat.lt_trans hlt hDlt)) this) (Nat.lt_irrefl _)
   exact f4 x c (hcl x c q.2)
  rcases List.mem_append.mp hp with z | z
  ·exact f5 p z
  rw[List.mem_singleton.mp z];intro e;rw[<- (show D=b from e),hD] at hlt;exact Nat.lt_irrefl _ hlt
 have loop:∀s₃:Shared,s₃={ s₂ with heap:=h₁}->codeAny (model X.prog X.w) X.A (.compLoop (.ListComp elt [⟨tg,iter,ifs,0⟩] scope pos) 0 (.ref it) (.ref D) (compEnvC scope (cellsFrom (C+1) scope.names cl) C X.env)) (RR (.ref D) C) s₃:=by
  rintro s₃ rfl;refine oH (fun n s'=>∃i ys its k U' H',Inv (bx X N' scope (cellsFrom (C+1) scope.names cl) pins s₂ H₂ C fp) [(D,{ cls:=.type "list",data:=.seq its.toArray k})] U' H' s'/\Vals ys its/\tn i s'.heap/\(∀b∈fp,H' b=none)/\W i n ys U' H'/\ys.length<=sizeLine) ?_ m0
   ⟨0,[],[],0,lU nt cap U,H₂,yj (tk:=s₂.toks) S I hcl hclh hf hfl hDlt hns₁ old (fun p hp=>?_) hcc0,.nil,hst₁,fun b hb=>(hf b hb).1,w0,Nat.zero_le _⟩
  ·rintro n s3 ⟨i,ys,its,k,U3,H3,I3,rv,st3,fr3,w3,hz⟩;have pD:=I3.pin (D,{ cls:=.type "list",data:=.seq its.toArray k}) (List.mem_append_right _ (List.mem_singleton.mpr rfl));rcases turn i n ys U3 H3 w3 with ⟨stop,hz',hfin⟩ | ⟨go,step⟩
   ·refine thn (T.done (bx X N' scope (cellsFrom (C+1) scope.names cl) pins s₂ H₂ C fp) rfl rfl rfl hc i _ s3 U3 H3 (fun _ _=>False) I3 (stat fr3) st3 stop) fun r s4 ⟨hr,I4⟩=>?_;subst hr;obtain⟨m4,hn4,_⟩:=I4.loc;have pD4:=I4.pin (D,{ cls:=.type "list",data:=.seq its.toArray k}) (List.mem_append_right _ (List.mem_singleton.mpr rfl));refine hRR D C s4 m4 ys H3 hn4 (by rw[hD];exact Nat.le_refl _) (Nat.le_of_lt hDlt) (Ne.symm hDC) pD4.2.1 I4.free hz' hfin fun h' k'=>?_;have nD:∀b u,H3 b=some u->b≠D:=fun b u e z=>by rw[z,pD4.2.1] at e;cases e
    have nDs:∀b o,s₂.heap.get? b=some o->b≠D/\b≠C:=fun b o e=>⟨(below b o e).2,(below b o e).1⟩;have B4:=I4.base;refine I.call' (s':={ s4 with heap:=h'}) (ch:=fp) I4.os ⟨fun b o e n hb hx=>k' b o (nDs b o e).2 (B4.keep b o e n hb hx),fun b o e n hb hx=>?_,fun b o e n hx=>?_,fun b o e hx=>?_,fun b xs e=>?_,fun b o u e=>?_,fun b ps e=>?_⟩ ?_ I4.bare fun b hb=>?_
    ·obtain⟨sl,q⟩:=B4.slot b o e n hb hx;exact⟨sl,k' b _ (nDs b o e).2 q⟩
    ·rw[aH (nDs b o e).1];exact B4.free b o e n hx
    ·obtain⟨o',q⟩:=B4.there b o e hx;exact⟨o',k' b _ (nDs b o e).2 q⟩
    ·have q:=B4.tups b xs e;rw[aH (nD _ _ q)];exact q
    ·have q:=B4.frzs b o u e;rw[aH (nD _ _ q)];exact q
    ·obtain⟨more,q⟩:=B4.tbls b ps e;exact⟨more,by rw[aH (nD _ _ q)];exact q⟩
    ·exact I4.hok.track pD4.2.1 I4.free k' ⟨hz',its,k,rv,k' D _ hDC pD4.1⟩
    obtain⟨f0,f1,f2,f3,f4,f5⟩:=hf b hb;exact⟨f3,f1,f4,f5⟩
   refine thn (T.item (bx X N' scope (cellsFrom (C+1) scope.names cl) pins s₂ H₂ C fp) rfl rfl rfl hc i _ s3 U3 H3 (fun _ _=>False) I3 (stat fr3) st3 go) fun r s4 ⟨u,hr,h4⟩=>?_;subst hr;refine thn h4 fun _ s5 ⟨x,H5,I5,r5,y5,st5,fr5⟩=>?_;have I5':=I5.pinned (stat fr5) (T.obj _ _ st5);refine thn (hg _ s5 U3 H5 x u _ I5' r5 (step x H5 y5)) fun _ s6 ⟨U6,H6,I6,q6⟩=>?_;refine thn (hi _ s6 U6 H6 _ I6 q6) fun ok s7 ⟨H7,I7,q7⟩=>?_;have back:∀{U8:St} {H8:Hp} {s8:Shared},Inv (bx X N' scope (cellsFrom (C+1) scope.names cl) pins s₂ H₂ C fp) ([(D,{ cls:=.type "list",data:=.seq its.toArray k})]++j6 fp s5.heap) U8 H8 s8->tn (i+1) s8.heap/\∀b∈fp,H8 b=none:=fun {U8 H8 s8} I8 =>
    ⟨T.keep _ _ _ st5 fun b hb o e=>(I8.pin (b,o) (List.mem_append_right _ (List.mem_append_right _ (dM hb e)))).1,fun b hb=>by
     obtain⟨o,e,d⟩:=T.obj _ _ st5 b hb
     exact (I8.pin (b,o) (List.mem_append_right _ (List.mem_append_right _ (dM hb e)))).2.1⟩
   cases ok with
   |false=>rw[if_neg Bool.false_ne_true] at q7 ⊢;obtain⟨m',hm,w7⟩:=q7;exact⟨m',hm,i+1,ys,its,k,U6,H7,I7.unpinned,rv,(back I7).1,(back I7).2,w7,hz⟩
   |true =>
   rw[if_pos rfl] at q7 ⊢;refine thn (he _ s7 U6 H7 _ I7 q7) fun uy s8 ⟨y,H8,I8,ry,hz8,m',hm,w8⟩=>?_;have pD8:=I8.pin (D,{ cls:=.type "list",data:=.seq its.toArray k}) (List.mem_append_right _ (List.mem_append_left _ (List.mem_singleton.mpr rfl)));have hl:=rv.length;refine jK pD8.1 (by omega) fun h' k' e' kk=>?_;have I9:Inv (bx X N' scope (cellsFrom (C+1) scope.names cl) pins s₂ H₂ C fp) [] U6 H8 { s8 with heap:=h'}:=by
    refine Inv.turned (t':=s8.toks) (it:=D) (I8.pins_of (pins':=[]) (fun p hp=>nomatch hp)) (fun b o hb e=>kk b o hb e) pD8.2.1 pD8.2.2.1 (.inr (by show s₂.heap.objs.size<=D;rw[hD];exact Nat.le_refl _)) (fun x c e z=>?_) (fun p hp z=>?_)
    ·rcases dN e with q | q
     ·have:=(hcc0.empty x c (mem_of_lookup q)).2;rw[z,hCD] at this;omega
     obtain⟨v,q⟩:=I.cell x c (hcl x c q.2);have:=q.lt;rw[z,hD] at this;exact Nat.lt_irrefl _ this
    rw[List.append_nil] at hp;have:=Heap.lt_size (I.pin p hp).1;rw[z,hD] at this;exact Nat.lt_irrefl _ this
   refine⟨m',hm,i+1,ys++[y],its++[uy],k',U6,H8,I9.pins_of fun p hp=>?_,rv.append (.cons ry .nil),?_,(back I8).2,w8,?_⟩
   ·rw[List.mem_singleton.mp hp];exact⟨e',pD8.2.1,pD8.2.2.1,pD8.2.2.2.1,fun v z=>by cases z⟩
   ·refine T.keep _ _ _ (back I8).1 fun b hb o e=>kk b o (fun z=>?_) e;have:=hfl b hb;rw[z,hD] at this;exact Nat.lt_irrefl _ this
   rw[List.length_append,List.length_singleton];omega
  rw[List.mem_singleton.mp hp];exact⟨hacc,hD,fun v z=>by cases z⟩
 exact codeAny_compStart_list (loop _ rfl) (T.self _ 0 _ _ _ hst₁ (loop _ rfl))
def MJ (wi:TI) (g:TG) (tt:TT) (te:TE) (nt:Nat) (cap:List Nat):TE:=fun U H Q=>wi U H fun J H1=>uP J g tt te (fun ys H'=>∀p,H' p=none->Q (.ref p) (upd H' p (.lst ys))) (lU nt cap U) H1
theorem Df {X:Cx}{N':List Str}{nt:Nat}{cap:List Nat}{scope:Scope}{elt tg iter:Expr}{ifs:List Expr}{pos:Pos}{wi:TI}{g:TG}{tt:TT}{te:TE}(hc:X.calm=true) (S:CompSc X N' nt cap scope) (hi:PI X tg iter wi)
  (hX:∀cl pins s H C fp,PG (bx X N' scope cl pins s H C fp) tg g/\PIf (bx X N' scope cl pins s H C fp) ifs tt/\PE (bx X N' scope cl pins s H C fp) elt te)
  (hs:∀x,foldedSetIterable iter X.env x=pure x:=by intro _;rfl):PE X (.ListComp elt [⟨tg,iter,ifs,0⟩] scope pos) (MJ wi g tt te nt cap):=by
 intro pins s U H Q I h;rw[eval_ListComp];obtain⟨cl,hclos,hcl,hclh⟩:=kj (scope:=scope) (env:=X.env) fun y hy hf=>I.ok.has y.1 (S.free y hy hf);refine wpAny_comprehension_free (use:=none) rfl hs hclos S.kind S.names (thn (hi pins s U H _ I h) fun v s1 h1=>thn h1 fun itv s2 h2=>?_);obtain⟨it,fp,tn,J,H2,rfl,I2,T,st2,f2,hw⟩:=h2;refine qC (RR:=fun acc C=>compPost (model X.prog X.w) X.A X.xe none (EP X pins U Q) acc C) hc S hcl hclh hX I2 T st2 f2 hw fun D C s4 m ys H' hn hD hC hDC nD nC hz hfin k=>?_;refine⟨m,hn,fun h' hs'=>?_⟩;exact⟨.ref D,_,k h' fun b o hb e=>hs'.extBut b o hb e,rfl,hfin D nD⟩
def ym (wi:TI) (g:TG) (tt:TT) (te:TE) (nt:Nat) (cap:List Nat) (i:Nat):TS:=fun D U H=>wi U H fun J H1=>uP J g tt te (fun ys H'=>∀p,H' p=none->D.nx (U.set i (some (.ref p))) (upd H' p (.lst ys))) (lU nt cap U) H1
theorem Dg {X:Cx}{N':List Str}{nt:Nat}{cap:List Nat}{scope:Scope}{elt tg iter:Expr}{ifs:List Expr}{pos pos' spos:Pos}{wi:TI}{g:TG}{tt:TT}{te:TE}{i:Nat}{x:Str}(hc:X.calm=true) (hN:X.N.Nodup) (hi':X.N[i]?=some x) (hx:Loc X.env.scope x) (S:CompSc X N' nt cap scope) (hi:PI X tg iter wi)
  (hX:∀cl pins s H C fp,PG (bx X N' scope cl pins s H C fp) tg g/\PIf (bx X N' scope cl pins s H C fp) ifs tt/\PE (bx X N' scope cl pins s H C fp) elt te)
  (hsw:swapsWith (.ListComp elt [⟨tg,iter,ifs,0⟩] scope pos) (some (.Name x pos')) spos.line X.env=pure true:=by rfl)
  (hs:∀x,foldedSetIterable iter X.env x=pure x:=by intro _;rfl) (hf:X.fn x=true\/X.env.scope.names.lookup x=some .local:=by first | exact .inl rfl | exact .inr rfl | assumption) :
  PS X (.Assign [.Name x pos'] (.ListComp elt [⟨tg,iter,ifs,0⟩] scope pos) spos) (ym wi g tt te nt cap i):=by
 intro pins s U H Dn I h;rw[exec_Assign_Name_used _ _ _ _ hsw];obtain⟨cl,hclos,hcl,hclh⟩:=kj (scope:=scope) (env:=X.env) fun y hy hf=>I.ok.has y.1 (S.free y hy hf);refine wpAny_bind (wpAny_standAt (wpAny_bind ?_));show wpAny _ X.A (do let _ <- comprehension (.ListComp elt [⟨tg,iter,ifs,0⟩] scope pos) scope X.env _ (newList []) false (eval iter X.env) (some (assign (.Name x pos') X.env))) _ _ s;refine wpAny_bind (wpAny_mono (wpAny_comprehension_free (use:=some (assign (.Name x pos') X.env)) (Q:=fun _ s'=>SP X pins Dn .next s') rfl hs hclos S.kind S.names
  (thn (hi pins s U H _ I h) fun v s1 h1=>thn h1 fun itv s2 h2=>?_)) (fun _ s' hq=>wpAny_pure (wpAny_pure hq)) fun _ _ e=>e)
 obtain⟨it,fp,tn,J,H2,rfl,I2,T,st2,f2,hw⟩:=h2;refine qC (RR:=fun acc C=>compPost (model X.prog X.w) X.A X.xe (some (assign (.Name x pos') X.env)) (fun _ s'=>SP X pins Dn .next s') acc C) hc S hcl hclh hX I2 T st2 f2 hw fun D C s4 m ys H' hn hD hC hDC nD nC hz hfin k=>?_;show wpAny _ X.A (assign (.Name x pos') X.env (.ref D)) _ _ s4;have I4:=k s4.heap fun b o _ e=>e;have nCL:C≠X.env.locals:=fun z=>by have:=I2.lt;rw[<- z] at this;exact absurd this (Nat.not_lt.mpr hC)
 have nCc:∀y c,X.env.cells.lookup y=some c->c≠C:=fun y c e z=>by obtain⟨v,q⟩:=I2.cell y c e;have:=q.lt;rw[z] at this;exact absurd this (Nat.not_lt.mpr hC)
 refine wpAny_assign_Name (fB I4 hN hi' hx (show RelV (.ref D) (.ref D) from rfl) (fun s5 I5 ⟨a,sb,ha⟩=>?_) hf);have nCa:C≠a:=by
  rcases ha with rfl | ha
  ·exact nCL
  exact fun z=>nCc x a ha z.symm
 refine⟨m,hn.sameBut sb nCa,fun h' hs'=>⟨_,_,Inv.turned (t':=s5.toks) (it:=C) I5 (fun b o hb e=>hs'.extBut b o hb e) (by rw[aH hDC];exact nC) nCL (.inr (Nat.le_trans I2.sz hC)) nCc (fun p hp z=>?_),hfin D nD⟩⟩;have:=Heap.lt_size (I2.pin p hp).1;rw[z] at this;exact absurd this (Nat.not_lt.mpr hC)
def exP (e C:Addr) (d:Option Addr) (rd:Bool) (h:Heap):Prop:=∃vs sl,h.get? e=some ⟨.ref C,d,.fields vs,sl⟩/\(rd=true->vs[1]?=some .none)
def exO (e C:Addr) (d:Option Addr) (rd:Bool):HO:=.ext (exP e C d rd)
def dxP (dx:Addr) (fs:List (Str × V)) (h:Heap):Prop:=∃mA,h.Ns1 dx mA/\(∀f,RelO (fs.lookup f) (mA f))/\PySem.Within mA (fs.map (·.1))
def dxO (dx:Addr) (fs:List (Str × V)):HO:=.ext (dxP dx fs)
section
variable {P:Program}{w:World}{H:Hp}{h:Heap}{e C dx:Addr}{d:Option Addr}{rd:Bool}{fs:List (Str × V)}
theorem exP.at {h1 h2:Heap}(x:exP e C d rd h1) (k:∀o,h1.get? e=some o->h2.get? e=some o):exP e C d rd h2:=let ⟨vs,sl,a,b⟩:=x;⟨vs,sl,k _ a,b⟩
theorem dxP.at {h1 h2:Heap}(x:dxP dx fs h1) (k:∀o,h1.get? dx=some o->h2.get? dx=some o):dxP dx fs h2:=let ⟨mA,a,b⟩:=x;⟨mA,a.at k,b⟩
theorem exO.ok (x:exP e C d rd h):ObjOk P w H h e (exO e C d rd):=⟨x,let ⟨_,_,a,_⟩:=x;⟨_,a⟩,fun _ _ y k=>y.at k⟩
theorem dxO.ok (x:dxP dx fs h):ObjOk P w H h dx (dxO dx fs):=⟨x,let ⟨_,⟨_,_,_,a,_⟩,_⟩:=x;⟨_,a⟩,fun _ _ y k=>y.at k⟩
theorem exO.of (x:HOk P w H h) (q:H e=some (exO e C d rd)):exP e C d rd h:=(x e _ q).1
theorem dxO.of (x:HOk P w H h) (q:H dx=some (dxO dx fs)):dxP dx fs h:=(x dx _ q).1
end
end L2
set_option maxHeartbeats 1000000
namespace L3
open L2
inductive T where
 |non | bl (b:Bool) | int (i:Int) | str (x:Str) | tup (ts:List T) | ref (a:Addr) | ty (n:String)
mutual
def Rep (K:Frag) (H:Hp):T->V->Prop
 |.non,v=>v=.non
 |.bl b,v=>v=.bl b
 |.int i,v=>v=.int i
 |.str x,v=>v=.str x
 |.tup ts,v=>∃a xs,v=.ref a/\SqT K H a xs/\Reps K H ts xs
 |.ref a,v=>v=.ref a
 |.ty n,v=>v=.ty n
def Reps (K:Frag) (H:Hp):List T->List V->Prop
 |[],xs=>xs=[]
 |t::ts,xs=>∃x r,xs=x::r/\Rep K H t x/\Reps K H ts r
end
def TupLe (K:Frag) (H H':Hp):Prop:=∀a xs,SqT K H a xs->SqT K H' a xs
theorem TupLe.refl {K:Frag}{H:Hp}:TupLe K H H:=fun _ _ h=>h
theorem TupLe.trans {K:Frag}{H H1 H2:Hp}(a:TupLe K H H1) (b:TupLe K H1 H2):TupLe K H H2:=fun c xs h=>b c xs (a c xs h)
mutual
theorem Rep.mono {K:Frag}{H H':Hp}(le:TupLe K H H'):∀{t:T}{v:V},Rep K H t v->Rep K H' t v
 |.non,_,h=>by simp only[Rep] at h ⊢;exact h
 |.bl _,_,h=>by simp only[Rep] at h ⊢;exact h
 |.int _,_,h=>by simp only[Rep] at h ⊢;exact h
 |.str _,_,h=>by simp only[Rep] at h ⊢;exact h
 |.ref _,_,h=>by simp only[Rep] at h ⊢;exact h
 |.ty _,_,h=>by simp only[Rep] at h ⊢;exact h
 |.tup ts,_,h=>by
  simp only[Rep] at h ⊢
  obtain⟨a,xs,e,s,r⟩:=h
  exact⟨a,xs,e,le a xs s,Reps.mono le r⟩
theorem Reps.mono {K:Frag}{H H':Hp}(le:TupLe K H H'):∀{ts:List T}{xs:List V},Reps K H ts xs->Reps K H' ts xs
 |[],_,h=>by simp only[Reps] at h ⊢;exact h
 |t::ts,_,h=>by
  simp only[Reps] at h ⊢
  obtain⟨x,r,e,a,b⟩:=h
  exact⟨x,r,e,Rep.mono le a,Reps.mono le b⟩
end
section
variable {K:Frag}{H:Hp}
theorem Reps.nil:Reps K H [] []:=by simp only[Reps]
theorem Reps.cons {t:T}{v:V}{ts:List T}{vs:List V}(a:Rep K H t v) (b:Reps K H ts vs):Reps K H (t::ts) (v::vs):=by simp only[Reps];exact⟨v,vs,rfl,a,b⟩
theorem Reps.inv {t:T}{ts:List T}{vs:List V}(h:Reps K H (t::ts) vs):∃v r,vs=v::r/\Rep K H t v/\Reps K H ts r:=by simp only[Reps] at h;exact h
theorem Reps.inv0 {vs:List V}(h:Reps K H [] vs):vs=[]:=by simp only[Reps] at h;exact h
theorem Reps.length:∀{ts:List T}{vs:List V},Reps K H ts vs->ts.length=vs.length
 |[],_,h=>by rw[h.inv0];rfl
 |t::ts,_,h=>by obtain⟨v,r,rfl,_,b⟩:=h.inv;simp [Reps.length b]
theorem Reps.get:∀{ts:List T}{vs:List V}{i:Nat}{t:T},Reps K H ts vs->ts[i]?=some t->∃v,vs[i]?=some v/\Rep K H t v
 |[],_,_,_,_,e=>by simp at e
 |a::ts,_,0,t,h,e=>by obtain⟨v,r,rfl,q,_⟩:=h.inv;simp at e;subst e;exact⟨v,rfl,q⟩
 |a::ts,_,i+1,t,h,e=>by obtain⟨v,r,rfl,_,b⟩:=h.inv;simpa using Reps.get b (by simpa using e)
theorem Reps.get':∀{ts:List T}{vs:List V}{i:Nat}{v:V},Reps K H ts vs->vs[i]?=some v->∃t,ts[i]?=some t/\Rep K H t v
 |[],_,_,_,h,e=>by rw[h.inv0] at e;simp at e
 |a::ts,_,0,v,h,e=>by obtain⟨x,r,rfl,q,_⟩:=h.inv;simp at e;subst e;exact⟨a,rfl,q⟩
 |a::ts,_,i+1,v,h,e=>by obtain⟨x,r,rfl,_,b⟩:=h.inv;simpa using Reps.get' b (by simpa using e)
theorem Reps.append:∀{ts us:List T}{xs ys:List V},Reps K H ts xs->Reps K H us ys->Reps K H (ts++us) (xs++ys)
 |[],_,_,_,h,h'=>by rw[h.inv0];exact h'
 |t::ts,_,_,_,h,h'=>by obtain⟨v,r,rfl,a,b⟩:=h.inv;exact .cons a (Reps.append b h')
theorem Reps.take:∀{ts:List T}{xs:List V}(n:Nat),Reps K H ts xs->Reps K H (ts.take n) (xs.take n)
 |[],_,n,h=>by rw[h.inv0];simp only[List.take_nil];exact .nil
 |t::ts,_,0,h=>.nil
 |t::ts,_,n+1,h=>by obtain⟨v,r,rfl,a,b⟩:=h.inv;exact .cons a (Reps.take n b)
theorem Reps.drop:∀{ts:List T}{xs:List V}(n:Nat),Reps K H ts xs->Reps K H (ts.drop n) (xs.drop n)
 |[],_,n,h=>by rw[h.inv0];simp only[List.drop_nil];exact .nil
 |t::ts,_,0,h=>h
 |t::ts,_,n+1,h=>by obtain⟨v,r,rfl,a,b⟩:=h.inv;exact Reps.drop n b
theorem Reps.set:∀{ts:List T}{xs:List V}{t:T}{v:V}(n:Nat),Reps K H ts xs->Rep K H t v->Reps K H (ts.set n t) (xs.set n v)
 |[],_,_,_,n,h,r=>by rw[h.inv0];exact .nil
 |t::ts,_,_,_,0,h,q=>by obtain⟨v,r,rfl,a,b⟩:=h.inv;exact .cons q b
 |t::ts,_,_,_,n+1,h,q=>by obtain⟨v,r,rfl,a,b⟩:=h.inv;exact .cons a (Reps.set n b q)
theorem Reps.eraseIdx:∀{ts:List T}{xs:List V}(n:Nat),Reps K H ts xs->Reps K H (ts.eraseIdx n) (xs.eraseIdx n)
 |[],_,n,h=>by rw[h.inv0];exact .nil
 |t::ts,_,0,h=>by obtain⟨v,r,rfl,a,b⟩:=h.inv;exact b
 |t::ts,_,n+1,h=>by obtain⟨v,r,rfl,a,b⟩:=h.inv;exact .cons a (Reps.eraseIdx n b)
theorem Rep.non {v:V}(h:Rep K H .non v):v=.non:=by simp only[Rep] at h;exact h
theorem Rep.bl {b:Bool}{v:V}(h:Rep K H (.bl b) v):v=.bl b:=by simp only[Rep] at h;exact h
theorem Rep.int {i:Int}{v:V}(h:Rep K H (.int i) v):v=.int i:=by simp only[Rep] at h;exact h
theorem Rep.str {x:Str}{v:V}(h:Rep K H (.str x) v):v=.str x:=by simp only[Rep] at h;exact h
theorem Rep.ref {a:Addr}{v:V}(h:Rep K H (.ref a) v):v=.ref a:=by simp only[Rep] at h;exact h
theorem Rep.ty {n:String}{v:V}(h:Rep K H (.ty n) v):v=.ty n:=by simp only[Rep] at h;exact h
theorem Rep.tup {ts:List T}{v:V}(h:Rep K H (.tup ts) v):∃a xs,v=.ref a/\SqT K H a xs/\Reps K H ts xs:=by simp only[Rep] at h;exact h
theorem Rep.ofNon:Rep K H .non .non:=by simp only[Rep]
theorem Rep.ofBl {b:Bool}:Rep K H (.bl b) (.bl b):=by simp only[Rep]
theorem Rep.ofInt {i:Int}:Rep K H (.int i) (.int i):=by simp only[Rep]
theorem Rep.ofStr {x:Str}:Rep K H (.str x) (.str x):=by simp only[Rep]
theorem Rep.ofRef {a:Addr}:Rep K H (.ref a) (.ref a):=by simp only[Rep]
theorem Rep.ofTy {n:String}:Rep K H (.ty n) (.ty n):=by simp only[Rep]
theorem Rep.ofTup {ts:List T}{a:Addr}{xs:List V}(h:SqT K H a xs) (r:Reps K H ts xs):Rep K H (.tup ts) (.ref a):=by simp only[Rep];exact⟨a,xs,rfl,h,r⟩
end
inductive O3 where
 |lst (ts:List T) | rol (ts:List T) | dct (kvs:List (Str × T)) | dcp (kvs:List (List Key × T))
 |exc (C dx:Addr) | xdt (fs:List (Str × T))
abbrev Hp3:=Addr->Option O3
def up3 (H:Hp3) (a:Addr) (o:O3):Hp3:=fun b=>if b=a then some o else H b
theorem aA {H:Hp3}{a:Addr}{o:O3}:up3 H a o a=some o:=by unfold up3;rw[if_pos rfl]
theorem aC {H:Hp3}{a b:Addr}{o:O3}(h:b≠a):up3 H a o b=H b:=by unfold up3;rw[if_neg h]
theorem Dh {H:Hp3}{a:Addr}{o u:O3}:up3 (up3 H a o) a u=up3 H a u:=by funext b;unfold up3;split <;> rfl
def RepD (K:Frag) (H:Hp):List (Str × T)->List (Key × V)->Prop:=Paired fun (p:Str × T) (q:Key × V)=>q.1=Sum.inr p.1/\Rep K H p.2 q.2
def RepP (K:Frag) (H:Hp):List (List Key × T)->List (List Key × V)->Prop:=Paired fun (p:List Key × T) (q:List Key × V)=>q.1=p.1/\Rep K H p.2 q.2
def RepF (K:Frag) (H:Hp):List (Str × T)->List (Str × V)->Prop:=Paired fun (p:Str × T) (q:Str × V)=>q.1=p.1/\Rep K H p.2 q.2
def RepO (K:Frag) (H:Hp) (a:Addr):O3->Prop
 |.lst ts=>∃xs,H a=some (.lst xs)/\Reps K H ts xs
 |.rol ts=>∃xs,Rd H a (.lst xs)/\Reps K H ts xs
 |.dct kvs=>∃vs,H a=some (.dK vs)/\RepD K H kvs vs
 |.dcp kvs=>∃vs,H a=some (.dT vs)/\RepP K H kvs vs
 |.exc C dx=>H a=some (exO a C (some dx) false)
 |.xdt fs=>∃vs,H a=some (dxO a vs)/\RepF K H fs vs
def SimH (K:Frag) (H3:Hp3) (H:Hp):Prop:=∀a o,H3 a=some o->RepO K H a o
abbrev St3:=List (Option T)
structure SimS (K:Frag) (H:Hp) (U3:St3) (U:L2.St):Prop where
 len:U3.length=U.length
 at':∀(i:Nat) (t:T),U3[i]?=some (some t)->∃v,U[i]?=some (some v)/\Rep K H t v
section
variable {K:Frag}{H H':Hp}{H3:Hp3}{U3:St3}{U:L2.St}
theorem SimS.mono (s:SimS K H U3 U) (le:TupLe K H H'):SimS K H' U3 U:=⟨s.len,fun i t e=>let ⟨v,e',r⟩:=s.at' i t e;⟨v,e',r.mono le⟩⟩
theorem SimS.set (s:SimS K H U3 U) {i:Nat}{t:T}{v:V}(r:Rep K H t v):SimS K H (U3.set i (some t)) (U.set i (some v)):=by
 refine⟨by simp [s.len],fun j u e=>?_⟩;by_cases hj:i=j
 ·subst hj;by_cases hl:i<U3.length
  ·rw[List.getElem?_set_self hl] at e;have e':t=u:=Option.some.inj (Option.some.inj e);subst e';exact⟨v,by rw[List.getElem?_set_self (by rw[<- s.len];exact hl)],r⟩
  rw[List.getElem?_eq_none (by simpa using hl)] at e;cases e
 rw[List.getElem?_set_ne hj] at e;rw[List.getElem?_set_ne hj];exact s.at' j u e
theorem RepD.mono {kvs:List (Str × T)}{vs:List (Key × V)}(h:RepD K H kvs vs) (le:TupLe K H H'):RepD K H' kvs vs:=Paired.mapP h fun _ _ ⟨a,b⟩=>⟨a,b.mono le⟩
theorem RepF.mono {kvs:List (Str × T)}{vs:List (Str × V)}(h:RepF K H kvs vs) (le:TupLe K H H'):RepF K H' kvs vs:=Paired.mapP h fun _ _ ⟨a,b⟩=>⟨a,b.mono le⟩
theorem RepP.mono {kvs:List (List Key × T)}{vs:List (List Key × V)}(h:RepP K H kvs vs) (le:TupLe K H H'):RepP K H' kvs vs:=Paired.mapP h fun _ _ ⟨a,b⟩=>⟨a,b.mono le⟩
theorem ne3 {a b:Addr}{o u:O3}(h:H3 a=some o) (h':H3 b=some u) (d:o≠u):a≠b:=by
 intro e;subst e;rw[h] at h';exact d (Option.some.inj h')
theorem bN {a b:Addr}{o:O3}(h:H3 a=some o) (h':H3 b=none):a≠b:=by
 intro e;subst e;rw[h] at h';cases h'
theorem aO {p:Addr}{o:HO}(hp:H p=none):TupLe K H (upd H p o):=fun a xs h=>by
 rcases h with (h | ⟨ob,h⟩) | h
 ·exact .inl (.inl (by rw[aH (bD h hp)];exact h))
 ·exact .inl (.inr ⟨ob,by rw[aH (bD h hp)];exact h⟩)
 exact .inr h
theorem di {p:Addr}{o:HO}(hp:Mut (H p)):TupLe K H (upd H p o):=fun a xs h=>by
 have key:∀u,H a=some u->¬Mut (some u)->a≠p:=fun u e nm z=>by subst z;rw[e] at hp;exact nm hp
 rcases h with (h | ⟨ob,h⟩) | h
 ·exact .inl (.inl (by rw[aH (key _ h fun z=>z)];exact h))
 ·exact .inl (.inr ⟨ob,by rw[aH (key _ h fun z=>z)];exact h⟩)
 exact .inr h
theorem RepO.stay {a:Addr}{o:O3}(h:RepO K H a o) (le:TupLe K H H') (keep:∀u,H a=some u->H' a=some u):RepO K H' a o:=by
 cases o with
 |lst ts=>obtain⟨xs,e,r⟩:=h;exact⟨xs,keep _ e,r.mono le⟩
 |rol ts =>
  obtain⟨xs,e,r⟩:=h;refine⟨xs,?_,r.mono le⟩;rcases e with e | ⟨ob,e⟩
  ·exact .inl (keep _ e)
  exact .inr ⟨ob,keep _ e⟩
 |dct kvs=>obtain⟨vs,e,r⟩:=h;exact⟨vs,keep _ e,r.mono le⟩
 |dcp kvs=>obtain⟨vs,e,r⟩:=h;exact⟨vs,keep _ e,r.mono le⟩
 |exc C dx=>exact keep _ h
 |xdt fs=>obtain⟨vs,e,r⟩:=h;exact⟨vs,keep _ e,r.mono le⟩
theorem SimH.new {p:Addr}{o:HO}(s:SimH K H3 H) (hp:H p=none):SimH K H3 (upd H p o):=fun a u e =>
 (s a u e).stay (aO hp) fun w q=>by rw[aH (bD q hp)];exact q
theorem SimH.fresh {p:Addr}(s:SimH K H3 H) (hp:H p=none):H3 p=none:=by
 cases e:H3 p with
 |none=>rfl
 |some o =>
  have q:=s p o e
  cases o with
  |lst ts=>obtain⟨xs,z,_⟩:=q;rw[hp] at z;cases z
  |dct ts=>obtain⟨xs,z,_⟩:=q;rw[hp] at z;cases z
  |dcp ts=>obtain⟨xs,z,_⟩:=q;rw[hp] at z;cases z
  |exc C dx=>have z:H p=_:=q;rw[hp] at z;cases z
  |xdt ts=>obtain⟨xs,z,_⟩:=q;rw[hp] at z;cases z
  |rol ts =>
   obtain⟨xs,z,_⟩:=q
   rcases z with z | ⟨ob,z⟩
   ·
    rw[hp] at z;cases z
   ·
    rw[hp] at z;cases z
end
abbrev VK3:=T->Hp3->Prop
abbrev TE3:=St3->Hp3->VK3->Prop
abbrev TT3:=St3->Hp3->(Bool->Hp3->Prop)->Prop
abbrev TA3:=St3->Hp3->(List T->Hp3->Prop)->Prop
structure Ends3 where
 nx:St3->Hp3->Prop
 rt:VK3
 bk:St3->Hp3->Prop:=fun _ _=>False
 ct:St3->Hp3->Prop:=fun _ _=>False
abbrev TS3:=Ends3->St3->Hp3->Prop
abbrev TG3:=T->St3->Hp3->(St3->Hp3->Prop)->Prop
abbrev iu:=List T->St3->Hp3->(St3->Hp3->Prop)->Prop
abbrev R3:=T->T->Hp3->VK3->Prop
section
variable (K:Frag)
def KV3 (H:Hp) (Q3:VK3) (Q:VK):Prop:=∀v H' t H3',TupLe K H H'->SimH K H3' H'->Rep K H' t v->Q3 t H3'->Q v H'
def KS3 (H:Hp) (N3:St3->Hp3->Prop) (N:L2.St->Hp->Prop):Prop:=∀U' H' U3' H3',TupLe K H H'->SimS K H' U3' U'->SimH K H3' H'->N3 U3' H3'->N U' H'
def lft (t3:TE3):TE:=fun U H Q=>∃U3 H3 Q3,SimS K H U3 U/\SimH K H3 H/\t3 U3 H3 Q3/\KV3 K H Q3 Q
def wL (t3:TT3):TT:=fun U H Q=>∃U3 H3 Q3,SimS K H U3 U/\SimH K H3 H/\t3 U3 H3 Q3/\∀b H' H3',TupLe K H H'->SimH K H3' H'->Q3 b H3'->Q b H'
def Qo (t3:TA3):TA:=fun U H Q=>∃U3 H3 Q3,SimS K H U3 U/\SimH K H3 H/\t3 U3 H3 Q3/\∀vs H' ts H3',TupLe K H H'->SimH K H3' H'->Reps K H' ts vs->Q3 ts H3'->Q vs H'
def Di (t3:TS3):TS:=fun D U H=>∃U3 H3 D3,SimS K H U3 U/\SimH K H3 H/\t3 D3 U3 H3/\KS3 K H D3.nx D.nx/\KV3 K H D3.rt D.rt/\KS3 K H D3.bk D.bk/\KS3 K H D3.ct D.ct
def Dj (t3:TG3):TG:=fun v U H Q=>∃t U3 H3 Q3,Rep K H t v/\SimS K H U3 U/\SimH K H3 H/\t3 t U3 H3 Q3/\KS3 K H Q3 Q
def MK (t3:iu):TGs:=fun vs U H Q=>∃ts U3 H3 Q3,Reps K H ts vs/\SimS K H U3 U/\SimH K H3 H/\t3 ts U3 H3 Q3/\KS3 K H Q3 Q
def yo (r3:R3):R2:=fun x y H Q=>∃tx ty H3 Q3,Rep K H tx x/\Rep K H ty y/\SimH K H3 H/\r3 tx ty H3 Q3/\KV3 K H Q3 Q
def Qp (r3:List T->Hp3->VK3->Prop):List V->Hp->VK->Prop:=fun xs H Q=>∃ts H3 Q3,Reps K H ts xs/\SimH K H3 H/\r3 ts H3 Q3/\KV3 K H Q3 Q
def Qq (r3:T->List T->Hp3->VK3->Prop):V->List V->Hp->VK->Prop:=fun x xs H Q=>∃tx ts H3 Q3,Rep K H tx x/\Reps K H ts xs/\SimH K H3 H/\r3 tx ts H3 Q3/\KV3 K H Q3 Q
end
section
variable {K:Frag}{H H1:Hp}
theorem KV3.at {Q3:VK3}{Q:VK}(k:KV3 K H Q3 Q) (le:TupLe K H H1):KV3 K H1 Q3 Q:=fun v H' t H3' l=>k v H' t H3' (le.trans l)
theorem KS3.at {N3:St3->Hp3->Prop}{N:L2.St->Hp->Prop}(k:KS3 K H N3 N) (le:TupLe K H H1):KS3 K H1 N3 N:=fun a b c d l=>k a b c d (le.trans l)
end
def PE3 (X:Cx) (e:Expr) (t:TE3):Prop:=PE X e (lft X.K t)
def PT3 (X:Cx) (e:Expr) (t:TT3):Prop:=PT X e (wL X.K t)
def PW3 (X:Cx) (e:Expr) (t:TT3):Prop:=PW X e (wL X.K t)
def PA3 (X:Cx) (es:List Expr) (t:TA3):Prop:=PA X es (Qo X.K t)
def PS3 (X:Cx) (st:Stmt) (t:TS3):Prop:=PS X st (Di X.K t)
def jc (X:Cx) (st:List Stmt) (t:TS3):Prop:=PSs X st (Di X.K t)
def PG3 (X:Cx) (e:Expr) (t:TG3):Prop:=PG X e (Dj X.K t)
def Dk (X:Cx) (es:List Expr) (t:iu):Prop:=PGs X es (MK X.K t)
def dj (X:Cx) (f:Value->Value->Sem Value) (r:R3):Prop:=OpR X f (yo X.K r)
def cD (X:Cx) (f:Value) (r:List T->Hp3->VK3->Prop):Prop:=CallR X f (Qp X.K r)
def MN (X:Cx) (r:R3):Prop:=IxR X (yo X.K r)
def wM (X:Cx) (id:String) (r:T->List T->Hp3->VK3->Prop):Prop:=MtR X id (Qq X.K r)
theorem PE.imp {X:Cx}{e:Expr}{t t':TE}(h:PE X e t) (w:∀U H Q,t' U H Q->t U H Q):PE X e t':=fun pins s U H Q I q=>h pins s U H Q I (w U H Q q)
theorem PT.imp {X:Cx}{e:Expr}{t t':TT}(h:PT X e t) (w:∀U H Q,t' U H Q->t U H Q):PT X e t':=fun pins s U H Q I q=>h pins s U H Q I (w U H Q q)
theorem PW.imp {X:Cx}{e:Expr}{t t':TT}(h:PW X e t) (w:∀U H Q,t' U H Q->t U H Q):PW X e t':=fun wh pins s U H Q I q=>h wh pins s U H Q I (w U H Q q)
theorem PA.imp {X:Cx}{es:List Expr}{t t':TA}(h:PA X es t) (w:∀U H Q,t' U H Q->t U H Q):PA X es t':=fun pos pins s U H Q I q=>h pos pins s U H Q I (w U H Q q)
theorem PS.imp {X:Cx}{e:Stmt}{t t':TS}(h:PS X e t) (w:∀D U H,t' D U H->t D U H):PS X e t':=fun pins s U H D I q=>h pins s U H D I (w D U H q)
theorem PSs.imp {X:Cx}{e:List Stmt}{t t':TS}(h:PSs X e t) (w:∀D U H,t' D U H->t D U H):PSs X e t':=fun pins s U H D I q=>h pins s U H D I (w D U H q)
theorem PG.imp {X:Cx}{e:Expr}{t t':TG}(h:PG X e t) (w:∀v U H Q,t' v U H Q->t v U H Q):PG X e t':=fun pins s U H v u Q I r q=>h pins s U H v u Q I r (w v U H Q q)
theorem PGs.imp {X:Cx}{e:List Expr}{t t':TGs}(h:PGs X e t) (w:∀v U H Q,t' v U H Q->t v U H Q):PGs X e t':=fun pins s U H v u Q I r q=>h pins s U H v u Q I r (w v U H Q q)
theorem OpR.imp {X:Cx}{f:Value->Value->Sem Value}{t t':R2}(h:OpR X f t) (w:∀x y H Q,t' x y H Q->t x y H Q):OpR X f t':=fun pins s U H x y v u Q I r1 r2 q=>h pins s U H x y v u Q I r1 r2 (w x y H Q q)
theorem CallR.imp {X:Cx}{f:Value}{t t':List V->Hp->VK->Prop}(h:CallR X f t) (w:∀x H Q,t' x H Q->t x H Q):CallR X f t':=fun pins s U H x v Q I r1 q=>h pins s U H x v Q I r1 (w x H Q q)
theorem IxR.imp {X:Cx}{t t':R2}(h:IxR X t) (w:∀x y H Q,t' x y H Q->t x y H Q):IxR X t':=fun a b pins s U H x y v u Q I r1 r2 q=>h a b pins s U H x y v u Q I r1 r2 (w x y H Q q)
theorem MtR.imp {X:Cx}{id:String}{t t':V->List V->Hp->VK->Prop}(h:MtR X id t) (w:∀x xs H Q,t' x xs H Q->t x xs H Q):MtR X id t':=fun pins s U H x xs v us Q I r1 r2 q=>h pins s U H x xs v us Q I r1 r2 (w x xs H Q q)
section
variable {X:Cx}{pos:Pos}
def fV (i:Nat):TE3:=fun U H Q=>match U[i]? with
 |some (some t)=>Q t H
 |_=>False
def tC3 (t:T):TE3:=fun _ H Q=>Q t H
theorem v3 (i:Nat) {x:Str}{pos:Pos}(hN:X.N[i]?=some x:=by rfl) (hv:Vis X.env.scope x:=by first | exact Or.inl rfl | exact Or.inr (Or.inl rfl) | exact Or.inr (Or.inr rfl)) (hd:(x==("__debug__":Str))=false:=by decide)
  (hcd:(x==("__classdict__":Str))=false:=by decide):PE3 X (.Name x pos) (fV i):=by
 refine PE.imp (pv i hN hv hd hcd) ?_;rintro U H Q ⟨U3,H3,Q3,ss,sh,h,k⟩;unfold fV at h;split at h
 ·rename_i t e;obtain⟨v,e',r⟩:=ss.at' i t e;exact⟨v,e',k v H t H3 .refl sh r h⟩
 exact h.elim
theorem ao {i:Int}{j:Nat}:PE3 X (.Constant (.int i) j pos) (tC3 (.int i)):=by
 refine PE.imp xM ?_;rintro U H Q ⟨U3,H3,Q3,ss,sh,h,k⟩;exact k _ _ _ H3 .refl sh .ofInt h
theorem ju {b:Bool}{j:Nat}:PE3 X (.Constant (.bool b) j pos) (tC3 (.bl b)):=by
 refine PE.imp Lk ?_;rintro U H Q ⟨U3,H3,Q3,ss,sh,h,k⟩;exact k _ _ _ H3 .refl sh .ofBl h
theorem yp {j:Nat}:PE3 X (.Constant .none j pos) (tC3 .non):=by
 refine PE.imp Hy ?_;rintro U H Q ⟨U3,H3,Q3,ss,sh,h,k⟩;exact k _ _ _ H3 .refl sh .ofNon h
theorem aF {x:Str}{j:Nat}:PE3 X (.Constant (.str x) j pos) (tC3 (.str x)):=by
 refine PE.imp Hz ?_;rintro U H Q ⟨U3,H3,Q3,ss,sh,h,k⟩;exact k _ _ _ H3 .refl sh .ofStr h
theorem g3 {x:Str}{t:T}{v:V}{u:Value}(hg:Gl X x) (hm:X.mg x=some u) (r:RelV v u) (rt:∀H,Rep X.K H t v) (hd:(x==("__debug__":Str))=false:=by decide):PE3 X (.Name x pos) (tC3 t):=by
 refine PE.imp (Ca hg hm r hd) ?_;rintro U H Q ⟨U3,H3,Q3,ss,sh,h,k⟩;exact k _ _ _ H3 .refl sh (rt H) h
variable {a b c:Expr}{ta tb tc:TE3}
def iw (r:R3) (ta tb:TE3):TE3:=fun U H Q=>ta U H fun x H1=>tb U H1 fun y H2=>r x y H2 Q
theorem fD {r:R3}{U:L2.St}{H:Hp}{Q:VK}(h:lft X.K (iw r ta tb) U H Q):tOp (yo X.K r) (lft X.K ta) (lft X.K tb) U H Q:=by
 obtain⟨U3,H3,Q3,ss,sh,h,k⟩:=h;exact⟨U3,H3,_,ss,sh,h,fun x H1 tx H31 le1 sh1 rx q1=>⟨U3,H31,_,ss.mono le1,sh1,q1,fun y H2 ty H32 le2 sh2 ry q2=>⟨tx,ty,H32,Q3,rx.mono le2,ry,sh2,q2,k.at (le1.trans le2)⟩⟩⟩
theorem aD {op:Operator}{r:R3}(ho:dj X (binaryOp op) r) (ha:PE3 X a ta) (hb:PE3 X b tb):PE3 X (.BinOp a op b pos) (iw r ta tb):=PE.imp (LK ho ha hb) fun _ _ _ h=>fD h
theorem gh {op:CmpOp}{r:R3}(ho:dj X (compareOp op) r) (ha:PE3 X a ta) (hb:PE3 X b tb) (hm:behindInMarks op b=false:=by first | exact xU _ | rfl):PE3 X (.Compare a [op] [b] pos) (iw r ta tb):=PE.imp (Cq ho ha hb hm) fun _ _ _ h=>fD h
theorem aN {r:R3}(hr:MN X r) (ha:PE3 X a ta) (hb:PE3 X b tb) (hs:uN b:=by exact fun _ _=>rfl):PE3 X (.Subscript a b pos) (iw r ta tb):=PE.imp (Mq hr ha hb hs) fun _ _ _ h=>fD h
def km (t:TE3):TT3:=fun U H Q=>t U H fun x H'=>match x with
 |.bl k=>Q k H'
 |_=>False
theorem bu {op:CmpOp}{r:R3}(ho:dj X (compareOp op) r) (ha:PE3 X a ta) (hb:PE3 X b tb) (hm:behindInMarks op b=false:=by first | exact xU _ | rfl):PT3 X (.Compare a [op] [b] pos) (km (iw r ta tb)):=by
 refine PT.imp (Cr ho ha hb hm) ?_;rintro U H Q ⟨U3,H3,Q3,ss,sh,h,k⟩;refine fD (X:=X) ⟨U3,H3,_,ss,sh,h,fun v H' t H3' le sh' r q=>?_⟩;cases t with
 |bl b=>exact⟨b,r.bl,k b H' H3' le sh' q⟩
 |_=>exact q.elim
def jP (r r':R3) (ta tb tc:TE3):TE3:=fun U H Q=>ta U H fun x H1=>tb U H1 fun y H2=>r x y H2 fun z H3=>match z with
 |.bl k=>if k=true then tc U H3 fun w H4=>r' y w H4 Q else Q (.bl false) H3
 |_=>False
theorem mL {r r':R3}{U:L2.St}{H:Hp}{Q:VK}(h:lft X.K (jP r r' ta tb tc) U H Q):sU (yo X.K r) (yo X.K r') (lft X.K ta) (lft X.K tb) (lft X.K tc) U H Q:=by
 obtain⟨U3,H3,Q3,ss,sh,h,k⟩:=h;refine⟨U3,H3,_,ss,sh,h,fun x H1 tx H31 le1 sh1 rx q1=>⟨U3,H31,_,ss.mono le1,sh1,q1,fun y H2 ty H32 le2 sh2 ry q2=>⟨tx,ty,H32,_,rx.mono le2,ry,sh2,q2,fun z H' t H3' le sh' rz q=>?_⟩⟩⟩;cases t with
 |bl b =>
  refine⟨b,rz.bl,?_⟩;cases b with
  |true=>exact⟨U3,H3',_,ss.mono (le1.trans (le2.trans le)),sh',q,fun w H4 tw H34 le4 sh4 rw q4=>⟨ty,tw,H34,Q3,ry.mono (le.trans le4),rw,sh4,q4,k.at (le1.trans (le2.trans (le.trans le4)))⟩⟩
  |false=>exact k _ _ _ _ (le1.trans (le2.trans le)) sh' .ofBl q
 |_=>exact q.elim
theorem qD {op op':CmpOp}{r r':R3}(ho:dj X (compareOp op) r) (ho':dj X (compareOp op') r') (ha:PE3 X a ta) (hb:PE3 X b tb) (hc:PE3 X c tc)
  (hm:lastMarks [op,op'] [b,c]=false:=by with_unfolding_all rfl):PE3 X (.Compare a [op,op'] [b,c] pos) (jP r r' ta tb tc):=PE.imp (xV ho ho' ha hb hc hm) fun _ _ _ h=>mL h
variable {tA tB':TT3}{rest:List Expr}
theorem qF {op op':CmpOp}{r r':R3}(ho:dj X (compareOp op) r) (ho':dj X (compareOp op') r') (ha:PE3 X a ta) (hb:PE3 X b tb) (hc:PE3 X c tc)
  (hm:lastMarks [op,op'] [b,c]=false:=by with_unfolding_all rfl):PT3 X (.Compare a [op,op'] [b,c] pos) (km (jP r r' ta tb tc)):=by
 refine PT.imp (xW ho ho' ha hb hc hm) ?_;rintro U H Q ⟨U3,H3,Q3,ss,sh,h,k⟩;refine mL (X:=X) ⟨U3,H3,_,ss,sh,h,fun v H' t H3' le sh' r q=>?_⟩;cases t with
 |bl b=>exact⟨b,r.bl,k b H' H3' le sh' q⟩
 |_=>exact q.elim
theorem dO (h:PE3 X a ta) (he:∀whole,isTrue a X.env whole=(do let v <- whole;standAt a.pos;holding [v] (truthy v)):=by intro _;rfl):PT3 X a (km ta):=by
 refine PT.imp (HR h he) ?_;rintro U H Q ⟨U3,H3,Q3,ss,sh,h,k⟩;refine⟨U3,H3,_,ss,sh,h,fun v H' t H3' le sh' r q=>?_⟩;cases t with
 |bl b=>exact⟨b,r.bl,k b H' H3' le sh' q⟩
 |_=>exact q.elim
def Gi (t u:TT3):TT3:=fun U H Q=>t U H fun c H1=>if c=true then u U H1 Q else Q false H1
def MP (t u:TT3):TT3:=fun U H Q=>t U H fun c H1=>if c=true then Q true H1 else u U H1 Q
def Gj (t:TT3):TT3:=fun U H Q=>t U H fun c H1=>Q (!c) H1
theorem PW3.pt (h:PW3 X a tA):PT3 X a tA:=PW.pt h
theorem uQ (ha:PT3 X a tA):PW3 X (.BoolOp .And [a] pos) tA:=Ce ha
theorem gj (ha:PT3 X a tA):PW3 X (.BoolOp .Or [a] pos) tA:=HS ha
theorem yq (ha:PT3 X a tA) (hb:PW3 X (.BoolOp .And (b::rest) pos) tB'):PW3 X (.BoolOp .And (a::b::rest) pos) (Gi tA tB'):=by
 refine PW.imp (HW ha hb) ?_;rintro U H Q ⟨U3,H3,Q3,ss,sh,h,k⟩;refine⟨U3,H3,_,ss,sh,h,fun b H' H3' le sh' q=>?_⟩;cases b with
 |true=>exact⟨U3,H3',_,ss.mono le,sh',q,fun b H'' H3'' le' sh'' q'=>k b H'' H3'' (le.trans le') sh'' q'⟩
 |false=>exact k false H' H3' le sh' q
theorem jw (ha:PT3 X a tA) (hb:PW3 X (.BoolOp .Or (b::rest) pos) tB'):PW3 X (.BoolOp .Or (a::b::rest) pos) (MP tA tB'):=by
 refine PW.imp (Ln ha hb) ?_;rintro U H Q ⟨U3,H3,Q3,ss,sh,h,k⟩;refine⟨U3,H3,_,ss,sh,h,fun b H' H3' le sh' q=>?_⟩;cases b with
 |true=>exact k true H' H3' le sh' q
 |false=>exact⟨U3,H3',_,ss.mono le,sh',q,fun b H'' H3'' le' sh'' q'=>k b H'' H3'' (le.trans le') sh'' q'⟩
theorem dR (ha:PT3 X a tA):PT3 X (.UnaryOp .Not a pos) (Gj tA):=by
 refine PT.imp (HX ha) ?_;rintro U H Q ⟨U3,H3,Q3,ss,sh,h,k⟩;exact⟨U3,H3,_,ss,sh,h,fun b H' H3' le sh' q=>k _ H' H3' le sh' q⟩
def yr (ta tb:TE3):TE3:=fun U H Q=>ta U H fun x H1=>match x with
 |.bl c=>if c=true then tb U H1 Q else Q (.bl false) H1
 |_=>False
def MT (ta tb:TE3):TE3:=fun U H Q=>ta U H fun x H1=>match x with
 |.bl c=>if c=true then Q (.bl true) H1 else tb U H1 Q
 |_=>False
def yt (ta:TE3):TE3:=fun U H Q=>ta U H fun x H1=>match x with
 |.bl c=>Q (.bl (!c)) H1
 |_=>False
theorem dm {op:PySem.BoolOp}{t:TE3}(h:PE3 X a t):PE3 X (.BoolOp op [a] pos) t:=HY h
theorem cF (ha:PE3 X a ta) (hb:PE3 X (.BoolOp .And (b::rest) pos) tb):PE3 X (.BoolOp .And (a::b::rest) pos) (yr ta tb):=by
 refine PE.imp (Ia ha hb) ?_;rintro U H Q ⟨U3,H3,Q3,ss,sh,h,k⟩;refine⟨U3,H3,_,ss,sh,h,fun v H' t H3' le sh' r q=>?_⟩;cases t with
 |bl b =>
  refine⟨b,r.bl,?_⟩;cases b with
  |true=>exact⟨U3,H3',_,ss.mono le,sh',q,k.at le⟩
  |false=>exact k _ H' _ H3' le sh' .ofBl q
 |_=>exact q.elim
theorem oJ (ha:PE3 X a ta):PE3 X (.UnaryOp .Not a pos) (yt ta):=by
 refine PE.imp (Ib ha) ?_;rintro U H Q ⟨U3,H3,Q3,ss,sh,h,k⟩;refine⟨U3,H3,_,ss,sh,h,fun v H' t H3' le sh' r q=>?_⟩;cases t with
 |bl b=>exact⟨b,r.bl,k _ H' _ H3' le sh' .ofBl q⟩
 |_=>exact q.elim
def Qs (t:TT3) (ta tb:TE3):TE3:=fun U H Q=>t U H fun c H1=>if c=true then ta U H1 Q else tb U H1 Q
variable {e:Expr}{es:List Expr}{te:TE3}{t:TA3}
def yu:TA3:=fun _ H Q=>Q [] H
def tD (ta:TE3) (tr:TA3):TA3:=fun U H Q=>ta U H fun x H1=>tr U H1 fun xs H2=>Q (x::xs) H2
theorem ak:PA3 X [] yu:=by
 refine PA.imp Iw ?_;rintro U H Q ⟨U3,H3,Q3,ss,sh,h,k⟩;exact k _ _ _ _ .refl sh .nil h
theorem aj (ha:PE3 X e te) (hr:PA3 X es t) (hs:starEach (e::es) X.env=(false,eval e X.env)::starEach es X.env:=by rfl):PA3 X (e::es) (tD te t):=by
 refine PA.imp (Cw ha hr hs) ?_;rintro U H Q ⟨U3,H3,Q3,ss,sh,h,k⟩;exact⟨U3,H3,_,ss,sh,h,fun v H' t H3' le sh' r q=>⟨U3,H3',_,ss.mono le,sh',q,fun vs H'' ts H3'' le' sh'' rs q'=>k _ _ _ _ (le.trans le') sh'' (.cons (r.mono le') rs) q'⟩⟩
def Gk (t:TA3):TE3:=fun U H Q=>t U H fun xs H1=>xs.length<=sizeLine/\Q (.tup xs) H1
def Gm (t:TA3):TE3:=fun U H Q=>t U H fun xs H1=>xs.length<=sizeLine/\∀p,H1 p=none->Q (.ref p) (up3 H1 p (.lst xs))
theorem SimH.newTup {K:Frag}{H:Hp}{H3:Hp3}{ts:List T}{xs:List V}{p:Addr}(hp:H p=none) (r:Reps K H ts xs):Rep K (upd H p (.tup xs)) (.tup ts) (.ref p) :=
 .ofTup (.of bw) (r.mono (aO hp))
theorem SimH.newLst {K:Frag}{H:Hp}{H3:Hp3}{ts:List T}{xs:List V}{p:Addr}(s:SimH K H3 H) (hp:H p=none) (r:Reps K H ts xs):SimH K (up3 H3 p (.lst ts)) (upd H p (.lst xs)):=fun a o e=>by
 by_cases ha:a=p
 ·subst ha;rw[aA] at e;cases e;exact⟨xs,bw,r.mono (aO hp)⟩
 rw[aC ha] at e;exact s.new hp a o e
theorem aZ {x1}(h:PA3 X es t):PE3 X (.Tuple es x1 pos) (Gk t):=by
 refine PE.imp (Iz h) ?_;rintro U H Q ⟨U3,H3,Q3,ss,sh,h,k⟩;refine⟨U3,H3,_,ss,sh,h,fun vs H' ts H3' le sh' r q=>⟨by rw[<- r.length];exact q.1,fun p hp=>?_⟩⟩;exact k _ _ _ H3' (le.trans (aO hp)) (sh'.new hp) (SimH.newTup (H3:=H3') hp r) q.2
theorem bc (h:PA3 X es t):PE3 X (.List es pos) (Gm t):=by
 refine PE.imp (IK h) ?_;rintro U H Q ⟨U3,H3,Q3,ss,sh,h,k⟩;refine⟨U3,H3,_,ss,sh,h,fun vs H' ts H3' le sh' r q=>⟨by rw[<- r.length];exact q.1,fun p hp=>?_⟩⟩;exact k _ _ _ _ (le.trans (aO hp)) (sh'.newLst hp r) .ofRef (q.2 p (sh'.fresh hp))
end
section
variable {X:Cx}{st:Stmt}{rest:List Stmt}{e c:Expr}{te:TE3}{tc:TT3}{t u:TS3}{pos:Pos}
def yw:TS3:=fun D U H=>D.nx U H
def iy (t u:TS3):TS3:=fun D U H=>t { D with nx:=u D} U H
theorem bh:jc X [] yw:=by
 refine PSs.imp Cg ?_;rintro D U H ⟨U3,H3,D3,ss,sh,h,k1,_⟩;exact k1 _ _ _ _ .refl ss sh h
theorem aq (h1:PS3 X st t) (h2:jc X rest u):jc X (st::rest) (iy t u):=by
 refine PSs.imp (xN h1 h2) ?_;rintro D U H ⟨U3,H3,D3,ss,sh,h,k1,k2,k3,k4⟩;exact⟨U3,H3,_,ss,sh,h,fun U' H' U3' H3' le ss' sh' q=>⟨U3',H3',D3,ss',sh',q,k1.at le,k2.at le,k3.at le,k4.at le⟩,k2,k3,k4⟩
theorem aB (h1:PS3 X st t):jc X [st] t:=jO h1
def yx (te:TE3):TS3:=fun D U H=>te U H fun _ H1=>D.nx U H1
theorem cJ (he:PE3 X e te) (hs:swapsWith e none pos.line X.env=pure false:=by rfl):PS3 X (.Expr e pos) (yx te):=by
 refine PS.imp (Ci he hs) ?_;rintro D U H ⟨U3,H3,D3,ss,sh,h,k1,_⟩;exact⟨U3,H3,_,ss,sh,h,fun v H' t H3' le sh' r q=>k1 _ _ _ _ le (ss.mono le) sh' q⟩
def yz (te:TE3):TS3:=fun D U H=>te U H D.rt
theorem aP (he:PE3 X e te):PS3 X (.Return (some e) pos) (yz te):=by
 refine PS.imp (Ie he) ?_;rintro D U H ⟨U3,H3,D3,ss,sh,h,k1,k2,_⟩;exact⟨U3,H3,_,ss,sh,h,k2⟩
def Jf:TS3:=fun D _ H=>D.rt .non H
def Gn (c:TT3) (t u:TS3):TS3:=fun D U H=>c U H fun b H1=>if b=true then t D U H1 else u D U H1
theorem bO {a b:List Stmt}(hc:PT3 X c tc) (ha:jc X a t) (hb:jc X b u):PS3 X (.If c a b pos) (Gn tc t u):=by
 refine PS.imp (Lw hc ha hb) ?_;rintro D U H ⟨U3,H3,D3,ss,sh,h,k1,k2,k3,k4⟩;refine⟨U3,H3,_,ss,sh,h,fun b H' H3' le sh' q=>?_⟩;cases b with
 |true=>exact⟨U3,H3',D3,ss.mono le,sh',q,k1.at le,k2.at le,k3.at le,k4.at le⟩
 |false=>exact⟨U3,H3',D3,ss.mono le,sh',q,k1.at le,k2.at le,k3.at le,k4.at le⟩
def eX (i:Nat):TG3:=fun v U H Q=>Q (U.set i (some v)) H
theorem aR {i:Nat}{x:Str}(hN:X.N.Nodup) (hi:X.N[i]?=some x:=by rfl) (hx:Loc X.env.scope x:=by first | exact Or.inl rfl | exact Or.inr rfl) (hf:X.fn x=true\/X.env.scope.names.lookup x=some .local:=by first | exact .inl rfl | exact .inr rfl | assumption):PG3 X (.Name x pos) (eX i):=by
 refine PG.imp (Cj hN hi hx hf) ?_;rintro v U H Q ⟨t,U3,H3,Q3,r,ss,sh,h,k⟩;exact k _ _ _ _ .refl (ss.set r) sh h
def yC:iu:=fun ts U H Q=>match ts with
 |[]=>Q U H
 |_=>False
def oK (t:TG3) (u:iu):iu:=fun ts U H Q=>match ts with
 |x::r=>t x U H fun U' H'=>u r U' H' Q
 |[]=>False
theorem fG:Dk X [] yC:=by
 refine PGs.imp Ck ?_;rintro vs U H Q ⟨ts,U3,H3,Q3,r,ss,sh,h,k⟩;cases ts with
 |nil=>exact⟨r.inv0,k _ _ _ _ .refl ss sh h⟩
 |cons _ _=>exact h.elim
theorem bI {e:Expr}{es:List Expr}{t:TG3}{u:iu}(h1:PG3 X e t) (h2:Dk X es u)
  (hs:(assignEach (e::es) X.env).map (·.2)=assign e X.env::(assignEach es X.env).map (·.2):=by rfl):Dk X (e::es) (oK t u):=by
 refine PGs.imp (xP h1 h2 hs) ?_;rintro vs U H Q ⟨ts,U3,H3,Q3,r,ss,sh,h,k⟩;cases ts with
 |nil=>exact h.elim
 |cons x ts =>
 obtain⟨v,vr,rfl,rv,rr⟩:=r.inv;exact⟨v,vr,rfl,x,U3,H3,_,rv,ss,sh,h,fun U' H' U3' H3' le ss' sh' q=>⟨ts,U3',H3',Q3,rr.mono le,ss',sh',q,k.at le⟩⟩
def yD (n:Nat) (g:iu):TG3:=fun t U H Q=>match t with
 |.tup ts=>ts.length=n/\g ts U H Q
 |_=>False
theorem jd {es:List Expr}{k:Nat}{t:iu}{n:Nat}(hc:X.calm=true) (h:Dk X es t)
  (hn:(assignEach es X.env).length=n:=by rfl) (hst:(assignEach es X.env).findIdx? (·.1)=none:=by rfl):PG3 X (.Tuple es k pos) (yD n t):=by
 refine PG.imp (Ig hc h hn hst) ?_;rintro v U H Q ⟨t,U3,H3,Q3,r,ss,sh,h,k⟩;cases t with
 |tup ts=>obtain⟨a,xs,rfl,s,rs⟩:=r.tup;exact⟨a,xs,rfl,s,by rw[<- rs.length];exact h.1,ts,U3,H3,Q3,rs,ss,sh,h.2,k⟩
 |_=>exact h.elim
def qG (te:TE3) (g:TG3):TS3:=fun D U H=>te U H fun x H1=>g x U H1 D.nx
theorem tE {tg e:Expr}{te:TE3}{g:TG3}(he:PE3 X e te) (hg:PG3 X tg g) (hs:swapsWithSole [tg] e pos.line X.env=pure false:=by rfl) (hw:swappedStores [tg] e X.env=pure none:=by rfl)
  (h1:(assignEach [tg] X.env).map (·.2)=[assign tg X.env]:=by rfl):PS3 X (.Assign [tg] e pos) (qG te g):=by
 refine PS.imp (Ii he hg hs hw h1) ?_;rintro D U H ⟨U3,H3,D3,ss,sh,h,k1,_⟩;exact⟨U3,H3,_,ss,sh,h,fun v H' t H3' le sh' r q=>⟨t,U3,H3',_,r,ss.mono le,sh',q,k1.at le⟩⟩
theorem aJ {i:Nat}{x:Str}{e:Expr}{te:TE3}{pos':Pos}(hN:X.N.Nodup) (he:PE3 X e te) (hi:X.N[i]?=some x:=by rfl) (hx:Loc X.env.scope x:=by first | exact Or.inl rfl | exact Or.inr rfl)
  (hs:swapsWith e (some (.Name x pos')) pos.line X.env=pure false:=by rfl) (hf:X.fn x=true\/X.env.scope.names.lookup x=some .local:=by first | exact .inl rfl | exact .inr rfl | assumption) :
  PS3 X (.Assign [.Name x pos'] e pos) (qG te (eX i)):=by
 refine PS.imp (Ij hN hi hx he hs hf) ?_;rintro D U H ⟨U3,H3,D3,ss,sh,h,k1,_⟩;exact⟨U3,H3,_,ss,sh,h,fun v H' t H3' le sh' r q=>k1 _ _ _ _ le ((ss.mono le).set r) sh' q⟩
end
abbrev qH:=T->T->T->Hp3->(Hp3->Prop)->Prop
def Jg (K:Frag) (t3:qH):xO:=fun o i v H Q=>∃to ti tv H3 Q3,Rep K H to o/\Rep K H ti i/\Rep K H tv v/\SimH K H3 H/\t3 to ti tv H3 Q3/\∀H' H3',TupLe K H H'->SimH K H3' H'->Q3 H3'->Q H'
def Gp (X:Cx) (t:qH):Prop:=PSet X (Jg X.K t)
theorem PSet.imp {X:Cx}{t t':xO}(h:PSet X t) (w:∀o i v H Q,t' o i v H Q->t o i v H Q):PSet X t':=fun pins s U H o i v ov iv u Q I r1 r2 r3 q=>h pins s U H o i v ov iv u Q I r1 r2 r3 (w o i v H Q q)
section
variable {X:Cx}{pos:Pos}
def Gq (to ti:TE3) (t:qH):TG3:=fun v U H Q=>to U H fun o H1=>ti U H1 fun i H2=>t o i v H2 fun H3=>Q U H3
theorem yE {o i:Expr}{to ti:TE3}{t:qH}(ho:PE3 X o to) (hi:PE3 X i ti) (hs:Gp X t)
  (ha:∀v,assign (.Subscript o i pos) X.env v=(do
   let ov <- holding [v] (eval o X.env)
   let iv <- holding [v,ov] (eval i X.env)
   standAt pos
   holding [v,ov,iv] (setItem ov iv v)
   release [v,ov,iv] []):=by intro _;rfl):PG3 X (.Subscript o i pos) (Gq to ti t):=by
 refine PG.imp (Ih ho hi hs ha) ?_;rintro v U H Q ⟨t,U3,H3,Q3,r,ss,sh,h,k⟩;exact⟨U3,H3,_,ss,sh,h,fun o H1 to H31 le1 sh1 ro q1=>⟨U3,H31,_,ss.mono le1,sh1,q1,fun i H2 ti H32 le2 sh2 ri q2=>⟨to,ti,t,H32,_,ro.mono le2,ri,r.mono (le1.trans le2),sh2,q2,fun H' H3' le sh' q=>k _ _ _ _ (le1.trans (le2.trans le)) (ss.mono (le1.trans (le2.trans le))) sh' q⟩⟩⟩
end
abbrev TI3:=St3->Hp3->(List T->(Hp3->Prop)->Hp3->Prop)->Prop
def jx (K:Frag) (J:It) (ts:List T) (still:Hp3->Prop) (H:Hp):Prop:=∀H' H3',TupLe K H H'->SimH K H3' H'->still H3' ->
 (∀i,ts.length<=i->J.stop i H')/\∀i t,ts[i]?=some t->J.go i H'/\∀x H'',J.yld i H' x H''->TupLe K H' H''/\SimH K H3' H''/\Rep K H'' t x
def Qt (K:Frag) (t3:TI3):TI:=fun U H R=>∃U3 H3 R3,SimS K H U3 U/\SimH K H3 H/\t3 U3 H3 R3/\∀J ts still H' H3',TupLe K H H'->SimH K H3' H'->jx K J ts still H'->R3 ts still H3'->R J H'
def PI3 (X:Cx) (tg iter:Expr) (t:TI3):Prop:=PI X tg iter (Qt X.K t)
theorem PI.imp {X:Cx}{tg e:Expr}{t t':TI}(h:PI X tg e t) (w:∀U H R,t' U H R->t U H R):PI X tg e t':=fun pins s U H R I q=>h pins s U H R I (w U H R q)
def bJ:Hp3->Prop:=fun _=>True
def bU (a:Addr) (ts:List T):Hp3->Prop:=fun H=>H a=some (.lst ts)\/H a=some (.rol ts)
theorem SimH.sqL {K:Frag}{H:Hp}{H3:Hp3}{a:Addr}{ts:List T}(s:SimH K H3 H) (h:bU a ts H3):∃xs,SqL K H a xs/\Reps K H ts xs:=by
 rcases h with h | h
 ·obtain⟨xs,e,r⟩:=s a _ h;exact⟨xs,.of e,r⟩
 obtain⟨xs,e,r⟩:=s a _ h;exact⟨xs,.inl e,r⟩
section
variable {X:Cx}{tg l:Expr}{tl:TE3}{pos p:Pos}
def yF (tl:TE3):TI3:=fun U H R=>tl U H fun x H1=>match x with
 |.ref a=>match H1 a with
  |some (.lst ts)=>R ts (bU a ts) H1
  |some (.rol ts)=>R ts (bU a ts) H1
  |_=>False
 |_=>False
theorem mO {K:Frag}{H:Hp}{a:Addr}{ts:List T}:jx K (Itl K a) ts (bU a ts) H:=fun H' H3' le sh st=>by
 obtain⟨xs,sq,rs⟩:=sh.sqL st;have hl:=rs.length;refine⟨fun i hi=>⟨xs,sq,by omega⟩,fun i t e=>?_⟩;obtain⟨v,ev,rv⟩:=rs.get e;refine⟨⟨xs,v,sq,ev⟩,fun x H'' y=>?_⟩;obtain⟨e1,y⟩:=y;subst e1;have:=y xs sq;rw[ev] at this;cases this;exact⟨.refl,sh,rv⟩
theorem jQ (hl:PE3 X l tl):PI3 X tg l (yF tl):=by
 refine PI.imp (Cm hl) ?_;rintro U H R ⟨U3,H3,R3,ss,sh,h,k⟩;refine⟨U3,H3,_,ss,sh,h,fun v H' t H3' le sh' r q=>?_⟩;cases t with
 |ref a =>
  have q':(match H3' a with
   |some (.lst ts)=>R3 ts (bU a ts) H3'
   |some (.rol ts)=>R3 ts (bU a ts) H3'
   |_=>False):=q
  split at q'
  ·
   rename_i ts e
   obtain⟨xs,sq,rs⟩:=sh'.sqL (.inl e)
   exact⟨a,r.ref,⟨xs,sq⟩,k _ ts (bU a ts) H' H3' le sh' mO q'⟩
  ·
   rename_i ts e
   obtain⟨xs,sq,rs⟩:=sh'.sqL (.inr e)
   exact⟨a,r.ref,⟨xs,sq⟩,k _ ts (bU a ts) H' H3' le sh' mO q'⟩
  ·
   exact q'.elim
 |_=>exact q.elim
def Gr (tl:TE3):TI3:=fun U H R=>tl U H fun x H1=>match x with
 |.tup ts=>R ts bJ H1
 |_=>False
theorem yG {K:Frag}{H:Hp}{a:Addr}{ts:List T}{xs:List V}(sq:SqT K H a xs) (rs:Reps K H ts xs):jx K (Itt K a) ts bJ H:=fun H' H3' le sh st=>by
 have hl:=rs.length;refine⟨fun i hi=>⟨xs,le _ _ sq,by omega⟩,fun i t e=>?_⟩;obtain⟨v,ev,rv⟩:=rs.get e;refine⟨⟨xs,v,le _ _ sq,ev⟩,fun x H'' y=>?_⟩;obtain⟨e1,y⟩:=y;subst e1;have:=y xs (le _ _ sq);rw[ev] at this;cases this;exact⟨.refl,sh,rv.mono le⟩
theorem tG (hl:PE3 X l tl):PI3 X tg l (Gr tl):=by
 refine PI.imp (Il hl) ?_;rintro U H R ⟨U3,H3,R3,ss,sh,h,k⟩;refine⟨U3,H3,_,ss,sh,h,fun v H' t H3' le sh' r q=>?_⟩;cases t with
 |tup ts=>obtain⟨a,xs,e,sq,rs⟩:=r.tup;exact⟨a,e,⟨xs,sq⟩,k _ ts bJ H' H3' le sh' (yG sq rs) q⟩
 |_=>exact q.elim
def dD (lo:Int) (n:Nat):List T:=(List.range n).map fun (i:Nat)=>T.int (lo+i)
theorem yH {K:Frag}{H:Hp}{lo:Int}{n:Nat}:jx K (Itr lo n) (dD lo n) bJ H:=fun H' H3' le sh st=>by
 refine⟨fun i hi=>by unfold dD at hi;simp at hi;exact hi,fun i t e=>?_⟩;unfold dD at e;rw[List.getElem?_map] at e;by_cases hi:i<n
 ·rw[List.getElem?_range hi] at e;cases e;refine⟨hi,fun x H'' y=>?_⟩;obtain⟨e1,e2⟩:=y;subst e1;subst e2;exact⟨.refl,sh,.ofInt⟩
 rw[List.getElem?_eq_none (by simpa using hi)] at e;cases e
def Gs (ta:TA3):TI3:=fun U H R=>ta U H fun vs H1=>match vs with
 |[.int j]=>-(2^62)<=j/\j<2^62/\R (dD 0 j.toNat) bJ H1
 |[.int i,.int j]=>(-(2^62)<=i/\i<2^62 /\ -(2^62)<=j/\j<2^62)/\R (dD i (j - i).toNat) bJ H1
 |_=>False
theorem b8 {a:Expr}{ta:TA3}(hg:Gl X "range") (hm:X.mg "range"=none) (ha:PA3 X [a] ta) (hs:starEach [a] X.env=[(false,eval a X.env)]:=by rfl):PI3 X tg (.Call (.Name "range" p) [a] [] pos) (Gs (fun U H Q=>ta U H fun vs H1=>vs.length=1/\Q vs H1)):=by
 refine PI.imp (wz hg hm ha hs) ?_;rintro U H R ⟨U3,H3,R3,ss,sh,h,k⟩;refine⟨U3,H3,_,ss,sh,h,fun vs H' ts H3' le sh' r q=>?_⟩;obtain⟨hl,q⟩:=q;cases ts with
 |nil=>cases hl
 |cons t ts =>
 cases ts with
 |cons _ _=>simp at hl
 |nil =>
 cases t with
 |int j=>obtain⟨v,_,rfl,rv,r0⟩:=r.inv;rw[r0.inv0,rv.int];exact⟨j,rfl,q.1,q.2.1,k _ _ _ H' H3' le sh' yH q.2.2⟩
 |_=>exact q.elim
end
def iter3 (g:TG3) (tb:TS3) (D:Ends3) (still:Hp3->Prop):List T->St3->Hp3->Prop
 |[],U,H=>still H/\D.nx U H
 |t::r,U,H=>still H/\g t U H fun U2 H2=>tb { D with nx:=iter3 g tb D still r,ct:=iter3 g tb D still r,bk:=D.nx} U2 H2
theorem iter3.st {g:TG3}{tb:TS3}{D:Ends3}{still:Hp3->Prop}{ts:List T}{U:St3}{H:Hp3}(h:iter3 g tb D still ts U H):still H:=by
 cases ts with
 |nil=>exact h.1
 |cons t r=>exact h.1
def Gu (wi:TI3) (g:TG3) (tb:TS3):TS3:=fun D U H=>wi U H fun ts still H1=>iter3 g tb D still ts U H1
section
variable {X:Cx}{tg iter:Expr}{pos:Pos}
theorem eY {body:List Stmt}{wi:TI3}{g:TG3}{tb:TS3}(hp:PassesOwn (model X.prog X.w) X.A X.env X.xe) (hc:X.calm=true) (hi:PI3 X tg iter wi) (hg:PG3 X tg g) (hb:jc X body tb)
  (hs:∀x,foldedSetIterable iter X.env x=pure x:=by intro _;rfl):PS3 X (.For tg iter body [] pos) (Gu wi g tb):=by
 refine PS.imp (Im hp hc hi hg hb hs) ?_;rintro D U H ⟨U3,H3,D3,ss,sh,h,k1,k2,k3,k4⟩;refine⟨U3,H3,_,ss,sh,h,fun J ts still H1 H31 le sh1 wk q=>?_⟩;refine⟨fun i m U H=>∃U3 H3,TupLe X.K H1 H/\SimS X.K H U3 U/\SimH X.K H3 H/\m=ts.length - i/\i<=ts.length/\iter3 g tb D3 still (ts.drop i) U3 H3,⟨ts.length,U3,H31,.refl,ss.mono le,sh1,rfl,Nat.zero_le _,by simpa using q⟩,?_⟩;rintro i m U H ⟨U4,H4,le4,ss4,sh4,rfl,hi,it⟩;have w:=wk H H4 le4 sh4 it.st;by_cases hlt:i<ts.length
 ·have e:=List.getElem?_eq_getElem hlt;have ed:ts.drop i=ts[i]::ts.drop (i+1):=List.drop_eq_getElem_cons hlt;rw[ed] at it;obtain⟨st,it⟩:=it;obtain⟨go,yl⟩:=w.2 i _ e;refine .inr ⟨go,fun U' H'=>∃U3 H3,TupLe X.K H1 H'/\SimS X.K H' U3 U'/\SimH X.K H3 H'/\iter3 g tb D3 still (ts.drop (i+1)) U3 H3,fun U' H' ⟨s5,h5,a,b,c,d⟩=>⟨ts.length - (i+1),by omega,s5,h5,a,b,c,rfl,hlt,d⟩,fun x H' y=>?_⟩;obtain⟨le',sh',rx⟩:=yl x H' y;refine⟨ts[i],U4,H4,_,rx,ss4.mono le',sh',it,fun U2 H2 U32 H32 le2 ss2 sh2 q2=>?_⟩;have all:TupLe X.K H1 H2:=le4.trans (le'.trans le2);have nx:∀(B:TupLe X.K H1 H2),KS3 X.K H2 (iter3 g tb D3 still (ts.drop (i+1))) (fun U' H'=>∃U3 H3,TupLe X.K H1 H'/\SimS X.K H' U3 U'/\SimH X.K H3 H'/\iter3 g tb D3 still (ts.drop (i+1)) U3 H3) :=
   fun B U' H' U3' H3' l s h q=>⟨U3',H3',B.trans l,s,h,q⟩
  exact⟨U32,H32,_,ss2,sh2,q2,nx all,k2.at (le.trans all),k1.at (le.trans all),nx all⟩
 have e:i=ts.length:=by omega
 subst e;rw[List.drop_length] at it;exact .inl ⟨w.1 _ (Nat.le_refl _),k1 _ _ _ _ (le.trans le4) ss4 sh4 it.2⟩
def uR (c:TT3) (tb:TS3):TS3:=fun D U H=>∃W:Nat->St3->Hp3->Prop,(∃m,W m U H)/\∀m U H,W m U H ->
 c U H fun b H1=>if b=true then tb { D with nx:=fun U' H'=>∃m',m'<m/\W m' U' H',ct:=fun U' H'=>∃m',m'<m/\W m' U' H',bk:=D.nx} U H1 else D.nx U H1
theorem yI {c:Expr}{body:List Stmt}{tc:TT3}{tb:TS3}(hp:PassesOwn (model X.prog X.w) X.A X.env X.xe) (hc:PT3 X c tc) (hb:jc X body tb):PS3 X (.While c body [] pos) (uR tc tb):=by
 refine PS.imp (xQ hp hc hb) ?_;rintro D U H ⟨U3,H3,D3,ss,sh,⟨W,⟨m0,w0⟩,turn⟩,k1,k2,k3,k4⟩;refine⟨fun m U' H'=>∃U3 H3,TupLe X.K H H'/\SimS X.K H' U3 U'/\SimH X.K H3 H'/\W m U3 H3,⟨m0,U3,H3,.refl,ss,sh,w0⟩,?_⟩;rintro m U1 H1 ⟨U4,H4,le4,ss4,sh4,w4⟩;refine⟨U4,H4,_,ss4,sh4,turn m U4 H4 w4,fun b H2 H5 le5 sh5 q=>?_⟩;cases b with
 |true =>
  rw[if_pos rfl] at q ⊢;have nx:KS3 X.K H2 (fun U' H'=>∃m',m'<m/\W m' U' H') (fun U' H'=>∃m',m'<m/\∃U3 H3,TupLe X.K H H'/\SimS X.K H' U3 U'/\SimH X.K H3 H'/\W m' U3 H3) :=
   fun U' H' U3' H3' l s h ⟨m',hm,w⟩=>⟨m',hm,U3',H3',le4.trans (le5.trans l),s,h,w⟩
  exact⟨_,fun U' H' h=>h,U4,H5,_,ss4.mono le5,sh5,q,nx,k2.at (le4.trans le5),k1.at (le4.trans le5),nx⟩
 |false =>
 rw[if_neg Bool.false_ne_true] at q ⊢;exact k1 _ _ _ _ (le4.trans le5) (ss4.mono le5) sh5 q
end
def Jh (X:Cx) (ifs:List Expr) (t:TT3):Prop:=PIf X ifs (wL X.K t)
def uT:TT3:=fun _ H Q=>Q true H
theorem cu {X:Cx}:Jh X [] uT:=fun pins s U H Q I ⟨U3,H3,Q3,ss,sh,h,k⟩=>Dd pins s U H Q I (k _ _ _ .refl sh h)
def jL (nt:Nat) (cap:List Nat) (U:St3):St3:=List.replicate nt none++cap.map fun j=>(U[j]?).getD none
theorem uU {K:Frag}{H:Hp}{U3:St3}{U:L2.St}{nt:Nat}{cap:List Nat}(s:SimS K H U3 U):SimS K H (jL nt cap U3) (lU nt cap U):=by
 refine⟨by simp [jL,lU],fun i t e=>?_⟩;unfold jL at e;unfold lU;by_cases hi:i<nt
 ·rw[List.getElem?_append_left (by simpa using hi),List.getElem?_replicate] at e;split at e <;> cases e
 rw[List.getElem?_append_right (by simpa using hi),List.getElem?_map] at e;rw[List.getElem?_append_right (by simpa using hi),List.getElem?_map];simp only[List.length_replicate] at e ⊢;cases q:cap[i - nt]? with
 |none=>rw[q] at e;cases e
 |some j =>
 rw[q] at e;have e':(U3[j]?).getD none=some t:=Option.some.inj e;have e2:U3[j]?=some (some t):=by
  cases z:U3[j]? with
  |none=>rw[z] at e';cases e'
  |some y=>rw[z] at e';exact congrArg some e'
 obtain⟨v,ev,r⟩:=s.at' j t e2;exact⟨v,by simp [ev],r⟩
def cIter3 (g:TG3) (tt:TT3) (te:TE3) (still:Hp3->Prop) (fin:List T->Hp3->Prop):List T->List T->St3->Hp3->Prop
 |[],ys,U,H=>still H/\ys.length<=sizeLine/\fin ys H
 |t::r,ys,U,H=>still H/\g t U H fun U2 H2=>tt U2 H2 fun b H3=>if b=true then te U2 H3 fun y H4=>ys.length<sizeLine/\cIter3 g tt te still fin r (ys++[y]) U2 H4 else cIter3 g tt te still fin r ys U2 H3
theorem cIter3.st {g:TG3}{tt:TT3}{te:TE3}{still:Hp3->Prop}{fin:List T->Hp3->Prop}{ts ys:List T}{U:St3}{H:Hp3}(h:cIter3 g tt te still fin ts ys U H):still H:=by
 cases ts with
 |nil=>exact h.1
 |cons t r=>exact h.1
theorem yJ {K:Frag}{J:It}{g:TG3}{tt:TT3}{te:TE3}{still:Hp3->Prop}{fin3:List T->Hp3->Prop}{fin:List V->Hp->Prop}{ts:List T}{U3:St3}{U:L2.St}{H1:Hp}{H31:Hp3}
  (wk:jx K J ts still H1) (ss:SimS K H1 U3 U) (sh:SimH K H31 H1) (h:cIter3 g tt te still fin3 ts [] U3 H31)
  (hf:∀ys us H' H3',TupLe K H1 H'->SimH K H3' H'->Reps K H' ys us->fin3 ys H3'->fin us H'):uP J (Dj K g) (wL K tt) (lft K te) fin U H1:=by
 refine⟨fun i m us U H=>∃U3 H3 ys,TupLe K H1 H/\SimS K H U3 U/\SimH K H3 H/\Reps K H ys us/\m=ts.length - i/\i<=ts.length/\cIter3 g tt te still fin3 (ts.drop i) ys U3 H3,⟨ts.length,U3,H31,[],.refl,ss,sh,.nil,rfl,Nat.zero_le _,by simpa using h⟩,?_⟩;rintro i m us U H ⟨U4,H4,ys,le4,ss4,sh4,ry,rfl,hi,it⟩;have w:=wk H H4 le4 sh4 it.st;by_cases hlt:i<ts.length
 ·have e:=List.getElem?_eq_getElem hlt;have ed:ts.drop i=ts[i]::ts.drop (i+1):=List.drop_eq_getElem_cons hlt;rw[ed] at it;obtain⟨st,it⟩:=it;obtain⟨go,yl⟩:=w.2 i _ e;refine .inr ⟨go,fun x H' y=>?_⟩;obtain⟨le',sh',rx⟩:=yl x H' y;refine⟨ts[i],U4,H4,_,rx,ss4.mono le',sh',it,fun U2 H2 U32 H32 le2 ss2 sh2 q2=>?_⟩;refine⟨U32,H32,_,ss2,sh2,q2,fun b H3 H33 le3 sh3 q3=>?_⟩;have all:TupLe K H H3:=le'.trans (le2.trans le3);cases b with
  |true=>rw[if_pos rfl] at q3;refine Qm ?_;refine⟨U32,H33,_,ss2.mono le3,sh3,q3,fun v H5 t H35 le5 sh5 rt q5=>⟨by rw[<- ry.length];exact q5.1,ts.length - (i+1),by omega,U32,H35,ys++[t],le4.trans (all.trans le5),ss2.mono (le3.trans le5),sh5,(ry.mono (all.trans le5)).append (.cons rt .nil),rfl,hlt,q5.2⟩⟩
  |false =>
  rw[if_neg Bool.false_ne_true] at q3;refine Ql ?_;exact⟨ts.length - (i+1),by omega,U32,H33,ys,le4.trans all,ss2.mono le3,sh3,ry.mono all,rfl,hlt,q3⟩
 have e:i=ts.length:=by omega
 subst e;rw[List.drop_length] at it;exact .inl ⟨w.1 _ (Nat.le_refl _),by rw[<- ry.length];exact it.2.1,hf _ _ _ _ le4 sh4 ry it.2.2⟩
def yK (wi:TI3) (g:TG3) (tt:TT3) (te:TE3) (nt:Nat) (cap:List Nat):TE3:=fun U H Q=>wi U H fun ts still H1=>cIter3 g tt te still (fun ys H'=>∀p,H' p=none->Q (.ref p) (up3 H' p (.lst ys))) ts [] (jL nt cap U) H1
def mQ (wi:TI3) (g:TG3) (tt:TT3) (te:TE3) (nt:Nat) (cap:List Nat) (i:Nat):TS3:=fun D U H=>wi U H fun ts still H1=>cIter3 g tt te still (fun ys H'=>∀p,H' p=none->D.nx (U.set i (some (.ref p))) (up3 H' p (.lst ys))) ts [] (jL nt cap U) H1
section
variable {X:Cx}{N':List Str}{nt:Nat}{cap:List Nat}{scope:Scope}{elt tg iter:Expr}{ifs:List Expr}{pos pos' spos:Pos}{wi:TI3}{g:TG3}{tt:TT3}{te:TE3}
theorem dU (hc:X.calm=true) (S:CompSc X N' nt cap scope) (hi:PI3 X tg iter wi)
  (hX:∀cl pins s H C fp,PG3 (bx X N' scope cl pins s H C fp) tg g/\Jh (bx X N' scope cl pins s H C fp) ifs tt/\PE3 (bx X N' scope cl pins s H C fp) elt te)
  (hs:∀x,foldedSetIterable iter X.env x=pure x:=by intro _;rfl):PE3 X (.ListComp elt [⟨tg,iter,ifs,0⟩] scope pos) (yK wi g tt te nt cap):=by
 refine PE.imp (Df (g:=Dj X.K g) (tt:=wL X.K tt) (te:=lft X.K te) hc S hi hX hs) ?_;rintro U H Q ⟨U3,H3,Q3,ss,sh,h,k⟩;refine⟨U3,H3,_,ss,sh,h,fun J ts still H1 H31 le sh1 wk q=>?_⟩;exact yJ wk (uU (ss.mono le)) sh1 q fun ys us H' H3' le' sh' ry q' p hp=>k _ _ _ _ (le.trans (le'.trans (aO hp))) (sh'.newLst hp ry) .ofRef (q' p (sh'.fresh hp))
theorem jR {i:Nat}{x:Str}(hc:X.calm=true) (hN:X.N.Nodup) (S:CompSc X N' nt cap scope) (hi:PI3 X tg iter wi)
  (hX:∀cl pins s H C fp,PG3 (bx X N' scope cl pins s H C fp) tg g/\Jh (bx X N' scope cl pins s H C fp) ifs tt/\PE3 (bx X N' scope cl pins s H C fp) elt te)
  (hi':X.N[i]?=some x:=by rfl) (hx:Loc X.env.scope x:=by first | exact Or.inl rfl | exact Or.inr rfl)
  (hsw:swapsWith (.ListComp elt [⟨tg,iter,ifs,0⟩] scope pos) (some (.Name x pos')) spos.line X.env=pure true:=by rfl)
  (hs:∀x,foldedSetIterable iter X.env x=pure x:=by intro _;rfl) (hf:X.fn x=true\/X.env.scope.names.lookup x=some .local:=by first | exact .inl rfl | exact .inr rfl | assumption) :
  PS3 X (.Assign [.Name x pos'] (.ListComp elt [⟨tg,iter,ifs,0⟩] scope pos) spos) (mQ wi g tt te nt cap i):=by
 refine PS.imp (Dg (g:=Dj X.K g) (tt:=wL X.K tt) (te:=lft X.K te) hc hN hi' hx S hi hX hsw hs hf) ?_;rintro D U H ⟨U3,H3,D3,ss,sh,h,k1,_⟩;refine⟨U3,H3,_,ss,sh,h,fun J ts still H1 H31 le sh1 wk q=>?_⟩;exact yJ wk (uU (ss.mono le)) sh1 q fun ys us H' H3' le' sh' ry q' p hp =>
  k1 _ _ _ _ (le.trans (le'.trans (aO hp))) ((ss.mono (le.trans (le'.trans (aO hp)))).set .ofRef) (sh'.newLst hp ry) (q' p (sh'.fresh hp))
end
abbrev Sp3:=List T->Hp3->VK3->Prop
def mR (K:Frag) (sp:Sp3):Sp:=fun vs H Q _=>∃ts H3 Q3,Reps K H ts vs/\SimH K H3 H/\sp ts H3 Q3/\KV3 K H Q3 Q
def Sub3 (H H':Hp3):Prop:=∀a o,H a=some o->H' a=some o
theorem Sub3.refl {H:Hp3}:Sub3 H H:=fun _ _ h=>h
theorem Sub3.trans {H H1 H2:Hp3}(a:Sub3 H H1) (b:Sub3 H1 H2):Sub3 H H2:=fun c o h=>b c o (a c o h)
theorem Sub3.new {H:Hp3}{p:Addr}{o:O3}(h:H p=none):Sub3 H (up3 H p o):=fun a u e=>by rw[aC (bN e h)];exact e
theorem SimH.sub {K:Frag}{H3 H3':Hp3}{H:Hp}(s:SimH K H3' H) (h:Sub3 H3 H3'):SimH K H3 H:=fun a o e=>s a o (h a o e)
def Fin3 (Q:VK3):VK3:=fun v H=>∃H',Sub3 H' H/\Q v H'
theorem Fin3.of {Q:VK3}{v:T}{H H':Hp3}(h:Sub3 H' H) (q:Q v H'):Fin3 Q v H:=⟨H',h,q⟩
def aU (N:List Str) (ts:List T):St3:=ts.map some++List.replicate (N.length - ts.length) none
theorem je {K:Frag}{H:Hp}{N:List Str}{ts:List T}{vs:List V}(r:Reps K H ts vs):SimS K H (aU N ts) (L2.start N vs):=by
 refine⟨by simp [aU,L2.start,r.length],fun i t e=>?_⟩;unfold aU at e;unfold L2.start;have hl:=r.length;by_cases hi:i<ts.length
 ·rw[List.getElem?_append_left (by simpa using hi),List.getElem?_map] at e;rw[List.getElem?_append_left (by rw[List.length_map];omega),List.getElem?_map];cases q:ts[i]? with
  |none=>rw[q] at e;cases e
  |some u =>
  rw[q] at e;cases e;obtain⟨v,ev,rv⟩:=r.get q;exact⟨v,by rw[ev];rfl,rv⟩
 rw[List.getElem?_append_right (by simpa using hi),List.getElem?_replicate] at e;split at e <;> cases e
section
variable {X:Cx}{k:Nat}{f:Addr}{fd:FuncData}{ps:List Str}{sp:Sp3}{x:Str}{p pos:Pos}{e:Expr}{es:List Expr}{t:TA3}
def FnOk3 (P:Program) (w:World) (K:Frag) (mg:Str->Option Value) (base:Heap) (k:Nat) (f:Addr) (fd:FuncData) (ps:List Str) (sp:Sp3):Prop:=FnOk P w K mg base CX0 k f fd ps (mR K sp)
theorem FnOk3.mono {P:Program}{w:World}{K:Frag}{mg:Str->Option Value}{base:Heap}{j k:Nat}(F:FnOk3 P w K mg base j f fd ps sp) (h:j<=k):FnOk3 P w K mg base k f fd ps sp:=FnOk.mono F h
def kE (sp:Sp3) (t:TA3):TE3:=fun U H Q=>t U H fun vs H1=>sp vs H1 Q
theorem Dl (F:FnOk3 X.prog X.w X.K X.mg X.base k f fd ps sp) (hr:Room k X.A) (hg:Gl X x) (hm:X.mg x=some (.ref f)) (hk:keepIn X.K (.ref f)=true) (hb:Binds X.K fd ps [])
  (ha:PA3 X (e::es) t) (hdb:(x==("__debug__":Str))=false:=by decide) (he:starEach (e::es) X.env=(false,eval e X.env)::starEach es X.env:=by rfl) (hpl:(backTo pos (starEach es X.env)).any (·.1)=false:=by rfl) :
  PE3 X (.Call (.Name x p) (e::es) [] pos) (kE sp t):=by
 refine PE.imp (Cy (dvs:=[]) (E:=E0) F hr hg hm hk hb .nil Gh ha hdb he hpl) ?_;rintro U H Q ⟨U3,H3,Q3,ss,sh,h,k⟩;refine⟨U3,H3,_,ss,sh,h,fun vs H' ts H3' le sh' r q=>?_⟩;show mR X.K sp (vs++[]) H' Q E0;rw[List.append_nil];exact⟨ts,H3',Q3,r,sh',q,k.at le⟩
theorem fn3 {P:Program}{w:World}{K:Frag}{mg:Str->Option Value}{base:Heap}{qual:Str}{st:Stmt}{N:List Str}(F:Fun K x qual st f fd) (S:FnScope N ps (au st)) (len:∀ts H Q,sp ts H Q->ts.length=ps.length)
  (hbody:∀(cdv:Value) (A:Around) (outer:List Env) (s:Shared) (H:Hp) (E:XK) (ts:List T) (H3:Hp3) (Q:VK3),Room k (A.deeper (envOfC qual (au st) s.heap.objs.size f cdv))->sp ts H3 Q ->
   ∃t,jc (eU CX0 P w K mg base N qual (au st) f cdv A outer s H E).nox (bj st) t/\t { nx:=fun _ H'=>Fin3 Q .non H',rt:=Fin3 Q} (aU N ts) H3):FnOk3 P w K mg base (k+1) f fd ps sp:=by
 refine F.ok S (fun vs H Q E ⟨ts,H3,Q3,r,sh,q,k⟩=>by rw[<- r.length];exact len _ _ _ q) fun cdv A outer s H vs Q E hr ⟨ts,H3,Q3,r,sh,q,k⟩=>?_;obtain⟨t,ht,hq⟩:=hbody cdv A outer s H E ts H3 Q3 hr q;exact⟨_,ht,aU N ts,H3,_,je r,sh,hq,fun U' H' U3' H3' le ss' sh' ⟨H4,sb,q⟩=>k _ _ _ _ le (sh'.sub sb) .ofNon q,fun v H' t H3' le sh' rv ⟨H4,sb,q⟩=>k _ _ _ _ le (sh'.sub sb) rv q,fun _ _ _ _ _ _ _ z=>z,fun _ _ _ _ _ _ _ z=>z⟩
end
noncomputable instance:DecidableEq T:=fun a b=>Classical.propDecidable (a=b)
def pl:Nat->T->Bool
 |_,.non=>true
 |_,.int _=>true
 |_,.str _=>true
 |d+1,.tup ts=>ts.all (pl d)
 |_,_=>false
section
variable {X:Cx}{pins:List (Addr × Obj)}{U:L2.St}{H:Hp}{s:Shared}
theorem uV (I:Inv X pins U H s):∀(d:Nat) (x y:T) (v:V),pl d x=true->pl d y=true->Rep X.K H x v->Rep X.K H y v->x=y:=by
 intro d;induction d with
 |zero =>
  intro x y v px py rx ry;cases x <;> cases y <;> first
   |rfl
   | (simp only[Rep] at rx ry;subst rx;cases ry <;> rfl)
   | (simp [pl] at px;done)
   | (simp [pl] at py;done)
 |succ d ih =>
 intro x y v px py rx ry;cases x with
 |tup ts =>
  cases y with
  |tup us =>
   obtain⟨a,xs,rfl,sq,r⟩:=rx.tup;obtain⟨b,ys,e,sq',r'⟩:=ry.tup;cases e;have:=I.tuple_inj sq sq';subst this;simp only[pl,List.all_eq_true] at px py;congr 1;have key:∀(ts us:List T) (xs:List V),(∀t∈ts,pl d t=true)->(∀t∈us,pl d t=true)->Reps X.K H ts xs->Reps X.K H us xs->ts=us:=by
    intro ts;induction ts with
    |nil =>
     intro us xs _ _ h h';rw[h.inv0] at h';cases us with
     |nil=>rfl
     |cons u us=>obtain⟨_,_,e,_⟩:=h'.inv;cases e
    |cons t ts ih2 =>
    intro us xs p1 p2 h h';obtain⟨v,r,rfl,a,b⟩:=h.inv;cases us with
    |nil=>exact absurd h'.inv0 (by simp)
    |cons u us =>
    obtain⟨v',r',e,a',b'⟩:=h'.inv;cases e;rw[ih t u v (p1 t List.mem_cons_self) (p2 u List.mem_cons_self) a a',ih2 us r (fun t ht=>p1 t (List.mem_cons_of_mem _ ht)) (fun t ht=>p2 t (List.mem_cons_of_mem _ ht)) b b']
   exact key ts us xs px py r r'
  |_=>first | (simp only[Rep] at rx ry;obtain⟨a,xs,e,_⟩:=rx;subst e;cases ry;done) | (simp [pl] at py;done)
 |_=>cases y <;> first
  |rfl
  | (simp only[Rep] at rx ry;subst rx;cases ry <;> rfl)
  | (simp [pl] at px;done)
  | (simp [pl] at py;done)
  | (simp only[Rep] at rx ry;obtain⟨a,xs,e,_⟩:=ry;subst e;cases rx;done)
theorem units_in1 (A:Around):A.in1.units=A.units+1:=by rfl
theorem kI {α:Type} [DecidableEq (Option α)] (ts us:List α):((List.range (min ts.length us.length)).all (fun j=>decide (ts[j]?=us[j]?))&&ts.length==us.length)=true↔ts=us:=by
 rw[Bool.and_eq_true,List.all_eq_true,beq_iff_eq];constructor
 ·rintro⟨h,hl⟩;refine List.ext_getElem? fun i=>?_;by_cases hi:i<ts.length
  ·exact of_decide_eq_true (h i (List.mem_range.mpr (by omega)))
  rw[List.getElem?_eq_none (by omega),List.getElem?_eq_none (by omega)]
 rintro rfl;exact⟨fun i _=>by simp,rfl⟩
theorem Dm {us:List Value}{i:Nat}(h:i<us.toArray.size) {v:Value}(e:us[i]?=some v):us.toArray[i]=v:=by
 have:us.toArray[i]?=some v:=by simpa using e
 rw[Array.getElem?_eq_getElem h] at this;exact Option.some.inj this
theorem uW (I:Inv X pins U H s):∀(d:Nat) (A:Around) (x y:T) (vx vy:V) (u v:Value),pl d x=true->pl d y=true->Rep X.K H x vx->Rep X.K H y vy->RelV vx u->RelV vy v->A.units+d<cLine->SeqAt.EqAt A s u v (decide (x=y)):=by
 have fY:∀(A:Around) (x y:T) (vx vy:V) (u v:Value),pl 0 x=true->pl 0 y=true->Rep X.K H x vx->Rep X.K H y vy->RelV vx u->RelV vy v->SeqAt.EqAt A s u v (decide (x=y)):=by
  intro A x y vx vy u v px py rx ry ru rv;cases x with
  |non =>
   cases rx.non;cases ru;cases y with
   |non=>cases ry.non;cases rv;simp only[decide_true];exact SeqAt.EqAt.same _
   |int j=>cases ry.int;obtain⟨t',rfl⟩:=rv;rw[decide_eq_false (by simp)];exact SeqAt.EqAt.none_int _ _
   |str j=>cases ry.str;obtain⟨t',rfl⟩:=rv;rw[decide_eq_false (by simp)];exact SeqAt.EqAt.none_str _ _
   |_=>simp [pl] at py
  |int i =>
   cases rx.int;obtain⟨t,rfl⟩:=ru;cases y with
   |non=>cases ry.non;cases rv;rw[decide_eq_false (by simp)];exact SeqAt.EqAt.int_none _ _
   |int j=>cases ry.int;obtain⟨t',rfl⟩:=rv;rw[show decide (T.int i=T.int j)=(i==j) by by_cases h:i=j <;> simp [h]];exact SeqAt.EqAt.int_int _ _ _ _
   |str j=>cases ry.str;obtain⟨t',rfl⟩:=rv;rw[decide_eq_false (by simp)];exact SeqAt.EqAt.int_str _ _ _ _
   |_=>simp [pl] at py
  |str i =>
   cases rx.str;obtain⟨t,rfl⟩:=ru;cases y with
   |non=>cases ry.non;cases rv;rw[decide_eq_false (by simp)];exact SeqAt.EqAt.str_none _ _
   |int j=>cases ry.int;obtain⟨t',rfl⟩:=rv;rw[decide_eq_false (by simp)];exact SeqAt.EqAt.str_int _ _ _ _
   |str j=>cases ry.str;obtain⟨t',rfl⟩:=rv;rw[show decide (T.str i=T.str j)=(i==j) by by_cases h:i=j <;> simp [h]];exact SeqAt.EqAt.str_str _ _ _ _
   |_=>simp [pl] at py
  |_=>simp [pl] at px
 intro d;induction d with
 |zero=>intro A x y vx vy u v px py rx ry ru rv _;exact fY A x y vx vy u v px py rx ry ru rv
 |succ d ih =>
 intro A x y vx vy u v px py rx ry ru rv hu;have hu0:A.units<cLine:=by omega
 cases x with
 |tup ts =>
  obtain⟨a,xs,rfl,sq,r⟩:=rx.tup;cases ru;obtain⟨its,rv1,ht,_⟩:=I.tuple sq;cases y with
  |tup us =>
   obtain⟨b,ys,rfl,sq',r'⟩:=ry.tup;cases rv;obtain⟨its',rv2,ht',_⟩:=I.tuple sq';by_cases hab:a=b
   ·subst hab;have e:T.tup ts=T.tup us:=uV I (d+1) _ _ (.ref a) px py (.ofTup sq r) (.ofTup sq' r');rw[e,decide_eq_true rfl];exact SeqAt.EqAt.same _
   have l1:=r.length;have l2:=r'.length;have l3:=rv1.length;have l4:=rv2.length;have key:=SeqAt.RcAt.tuples (A:=A) (s:=s) (e:=fun j=>decide (ts[j]?=us[j]?)) (show s.heap.IsTuple a its.toArray from ht) (show s.heap.IsTuple b its'.toArray from ht') hu0 (fun j h1 h2=>by
    rw[List.size_toArray] at h1 h2
    have g1:j<ts.length:=by omega
    have g2:j<us.length:=by omega
    obtain⟨p1,e1,q1⟩:=r.get (List.getElem?_eq_getElem g1)
    obtain⟨p2,e2,q2⟩:=r'.get (List.getElem?_eq_getElem g2)
    obtain⟨z1,f1,w1⟩:=rv1.get e1
    obtain⟨z2,f2,w2⟩:=rv2.get e2
    rw[Dm _ f1,Dm _ f2,List.getElem?_eq_getElem g1,List.getElem?_eq_getElem g2]
    simp only[pl,List.all_eq_true] at px py
    have:=ih A.in1 ts[j] us[j] p1 p2 z1 z2 (px _ (List.getElem_mem g1)) (py _ (List.getElem_mem g2)) q1 q2 w1 w2 (by rw[units_in1];omega)
    rw[show decide (some ts[j]=some us[j])=decide (ts[j]=us[j]) by by_cases h:ts[j]=us[j] <;> simp [h]]
    exact this)
   have eb:((List.range (min its.toArray.size its'.toArray.size)).all (fun j=>decide (ts[j]?=us[j]?))&&its.toArray.size==its'.toArray.size)=decide (T.tup ts=T.tup us):=by
    rw[List.size_toArray,List.size_toArray,<- l3,<- l1,<- l4,<- l2,Bool.eq_iff_iff,kI,decide_eq_true_iff];constructor
    ·rintro rfl;rfl
    intro h;injection h
   rw[eb] at key;exact .of_refs hab key
  |non=>cases ry.non;cases rv;rw[decide_eq_false (by simp)];exact SeqAt.EqAt.tuple_none ht hu0
  |int j=>cases ry.int;obtain⟨t',rfl⟩:=rv;rw[decide_eq_false (by simp)];exact SeqAt.EqAt.tuple_int _ _ ht hu0
  |str j=>cases ry.str;obtain⟨t',rfl⟩:=rv;rw[decide_eq_false (by simp)];exact SeqAt.EqAt.tuple_str _ _ ht hu0
  |_=>simp [pl] at py
 |non =>
  cases y with
  |tup us=>obtain⟨b,ys,rfl,sq',r'⟩:=ry.tup;cases rv;obtain⟨its',rv2,ht',_⟩:=I.tuple sq';cases rx.non;cases ru;rw[decide_eq_false (by simp)];exact SeqAt.EqAt.none_tuple ht' hu0
  |non=>exact fY A _ _ vx vy u v rfl rfl rx ry ru rv
  |int j=>exact fY A _ _ vx vy u v rfl rfl rx ry ru rv
  |str j=>exact fY A _ _ vx vy u v rfl rfl rx ry ru rv
  |_=>simp [pl] at py
 |int i =>
  cases y with
  |tup us=>obtain⟨b,ys,rfl,sq',r'⟩:=ry.tup;cases rv;obtain⟨its',rv2,ht',_⟩:=I.tuple sq';cases rx.int;obtain⟨t,rfl⟩:=ru;rw[decide_eq_false (by simp)];exact SeqAt.EqAt.int_tuple _ _ ht' hu0
  |non=>exact fY A _ _ vx vy u v rfl rfl rx ry ru rv
  |int j=>exact fY A _ _ vx vy u v rfl rfl rx ry ru rv
  |str j=>exact fY A _ _ vx vy u v rfl rfl rx ry ru rv
  |_=>simp [pl] at py
 |str i =>
  cases y with
  |tup us=>obtain⟨b,ys,rfl,sq',r'⟩:=ry.tup;cases rv;obtain⟨its',rv2,ht',_⟩:=I.tuple sq';cases rx.str;obtain⟨t,rfl⟩:=ru;rw[decide_eq_false (by simp)];exact SeqAt.EqAt.str_tuple _ _ ht' hu0
  |non=>exact fY A _ _ vx vy u v rfl rfl rx ry ru rv
  |int j=>exact fY A _ _ vx vy u v rfl rfl rx ry ru rv
  |str j=>exact fY A _ _ vx vy u v rfl rfl rx ry ru rv
  |_=>simp [pl] at py
 |_=>simp [pl] at px
end
def rI3 (C:Int->Int->Prop) (g:Int->Int->T):R3:=fun x y H Q=>match x,y with
 |.int i,.int j=>C i j/\Q (g i j) H
 |_,_=>False
def tH (g:Int->Int->T):R3:=fun x y H Q=>match x,y with
 |.int i,.int j=>Q (g i j) H
 |_,_=>False
section
variable {X:Cx}
theorem Do {f:Value->Value->Sem Value}{C:Int->Int->Prop}{g:Int->Int->T}{g':Int->Int->V}(h:OpR X f (rI C g')) (hg:∀i j H,Rep X.K H (g i j) (g' i j)):dj X f (rI3 C g):=by
 refine OpR.imp h ?_;rintro x y H Q ⟨tx,ty,H3,Q3,rx,ry,sh,h,k⟩;cases tx with
 |int i =>
  cases ty with
  |int j=>exact⟨i,j,rx.int,ry.int,h.1,k _ _ _ _ .refl sh (hg i j H) h.2⟩
  |_=>exact h.elim
 |_=>exact h.elim
theorem qI {f:Value->Value->Sem Value}{g:Int->Int->T}{g':Int->Int->V}(h:OpR X f (rI0 g')) (hg:∀i j H,Rep X.K H (g i j) (g' i j)):dj X f (tH g):=by
 refine OpR.imp h ?_;rintro x y H Q ⟨tx,ty,H3,Q3,rx,ry,sh,h,k⟩;cases tx with
 |int i =>
  cases ty with
  |int j=>exact⟨i,j,rx.int,ry.int,k _ _ _ _ .refl sh (hg i j H) h⟩
  |_=>exact h.elim
 |_=>exact h.elim
def Gv (_ j:Int):Prop:=0<j/\j.natAbs.log2<9000
theorem yL:OpR X (binaryOp .FloorDiv) (rI Gv fun i j=>.int (i / j)):=opI fun i j _ _ _ _ _ hc q=>by
 have e:i / j=i.fdiv j:=(Int.fdiv_eq_ediv_of_nonneg i (Int.le_of_lt hc.1)).symm;rw[e] at q;exact floordiv_int (Int.ne_of_gt hc.1) q (.inl (PyProof.noPylong_of_log2 hc.2))
theorem yM:dj X (binaryOp .Sub) (tH fun i j=>.int (i - j)):=qI Ip fun _ _ _=>.ofInt
theorem fH:dj X (binaryOp .FloorDiv) (rI3 Gv fun i j=>.int (i / j)):=Do yL fun _ _ _=>.ofInt
theorem bR:dj X (binaryOp .Mod) (rI3 (fun _ j=>0<j) fun i j=>.int (i%j)):=Do Iu fun _ _ _=>.ofInt
theorem kJ:dj X (binaryOp .Pow) (rI3 LR fun i j=>.int (i^j.toNat)):=Do Iv fun _ _ _=>.ofInt
theorem M3:dj X (compareOp .Lt) (tH fun i j=>.bl (decide (i<j))):=qI Mg fun _ _ _=>.ofBl
theorem jy:dj X (compareOp .LtE) (tH fun i j=>.bl (decide (i<=j))):=qI Mh fun _ _ _=>.ofBl
theorem Gw:dj X (compareOp .Gt) (tH fun i j=>.bl (decide (j<i))):=qI Mi fun _ _ _=>.ofBl
theorem Gx:dj X (compareOp .GtE) (tH fun i j=>.bl (decide (j<=i))):=qI Mj fun _ _ _=>.ofBl
theorem jf:dj X (binaryOp .Mult) (rI3 CMul fun i j=>.int (i*j)):=Do Ir fun _ _ _=>.ofInt
def jz:R3:=fun x y H Q=>match x,y with
 |.int i,.int j=>Q (.int (i+j)) H
 |.str i,.str j=>i.length+j.length<=sizeLine/\Q (.str (i++j)) H
 |.ref a,.ref b=>match H a,H b with
  |some (.lst xs),some (.lst ys)=>xs.length+ys.length<=sizeLine/\∀p,H p=none->Q (.ref p) (up3 H p (.lst (xs++ys)))
  |_,_=>False
 |.tup xs,.tup ys=>xs.length+ys.length<=sizeLine/\Q (.tup (xs++ys)) H
 |_,_=>False
theorem yN:OpR X (binaryOp .Add) (fun x y H Q=>∃a b ys,x=.ref a/\y=.ref b/\SqT X.K H a []/\SqT X.K H b ys/\Q (.ref b) H):=by
 intro pins s U H x y v u Q I rx ry h;obtain⟨a,b,ys,rfl,rfl,ha,hb,q⟩:=h;cases rx;cases ry;obtain⟨its,r1,p1,_⟩:=I.tuple ha;obtain⟨its2,r2,p2,_⟩:=I.tuple hb;cases r1;obtain⟨⟨cls,dd,data,sl⟩,ho,hc,n,hd⟩:=id p1;obtain⟨⟨cls2,dd2,data2,sl2⟩,ho2,hc2,n2,hd2⟩:=id p2;simp only at hc hd hc2 hd2;subst hc hd hc2 hd2;exact concat_meets ⟨_,ho,rfl⟩ ⟨_,ho2,rfl⟩ noFill_tuple_add seq_tuple_add PySem.F.slot_tuple_add PySem.F.entry_tuple_add (PySem.F.args_tuple_add_2 _ _)
   (tuple_addW0 a b _ its2.toArray n n2 dd dd2 sl sl2 (by simp)) ⟨ho,ho2,⟨.ref b,H,I,rfl,q⟩⟩
theorem aM:dj X (binaryOp .Add) jz:=by
 refine OpR.imp (op_add.or (op_add_str.or (op_cat.or (op_catT.or yN)))) ?_;rintro x y H Q ⟨tx,ty,H3,Q3,rx,ry,sh,h,k⟩;cases tx with
 |int i =>
  cases ty with
  |int j=>exact .inl ⟨i,j,rx.int,ry.int,k _ _ _ _ .refl sh .ofInt h⟩
  |_=>exact h.elim
 |str i =>
  cases ty with
  |str j=>exact .inr (.inl ⟨i,j,rx.str,ry.str,h.1,k _ _ _ _ .refl sh .ofStr h.2⟩)
  |_=>exact h.elim
 |ref a =>
  cases ty with
  |ref b =>
   have h':(match H3 a,H3 b with
    |some (.lst xs),some (.lst ys)=>xs.length+ys.length<=sizeLine/\∀p,H3 p=none->Q3 (.ref p) (up3 H3 p (.lst (xs++ys)))
    |_,_=>False):=h
   split at h'
   ·
    rename_i xs ys e1 e2
    obtain⟨vs,g1,r1⟩:=sh a _ e1
    obtain⟨ws,g2,r2⟩:=sh b _ e2
    refine .inr (.inr (.inl ⟨a,b,vs,ws,rx.ref,ry.ref,g1,g2,by rw[<- r1.length,<- r2.length];exact h'.1,fun p hp=>?_⟩))
    exact k _ _ _ _ (aO hp) (sh.newLst hp (r1.append r2)) .ofRef (h'.2 p (sh.fresh hp))
   ·
    exact h'.elim
  |_=>exact h.elim
 |tup xs =>
  cases ty with
  |tup ys =>
   obtain⟨a,vs,rfl,s1,r1⟩:=rx.tup;obtain⟨b,ws,rfl,s2,r2⟩:=ry.tup;by_cases hv:vs=[]
   ·subst hv;have e0:xs=[]:=List.eq_nil_of_length_eq_zero r1.length;subst e0;exact .inr (.inr (.inr (.inr ⟨a,b,ws,rfl,rfl,s1,s2,k _ _ _ _ .refl sh (.ofTup s2 r2) h.2⟩)))
   refine .inr (.inr (.inr (.inl ⟨a,b,vs,ws,rfl,rfl,s1,s2,hv,by rw[<- r1.length,<- r2.length];exact h.1,fun hw=>?_,fun hw p hp=>?_⟩)))
   ·have e:ys=[]:=by have:=r2.length;rw[hw] at this;exact List.eq_nil_of_length_eq_zero this
    have q:=h.2;rw[e,List.append_nil] at q;exact k _ _ _ _ .refl sh (.ofTup s1 r1) q
   exact k _ _ _ _ (aO hp) (sh.new hp) (SimH.newTup (H3:=H3) hp (r1.append r2)) h.2
  |_=>exact h.elim
 |_=>exact h.elim
variable {pins:List (Addr × Obj)}{U:L2.St}{H:Hp}{s:Shared}
def tK (neg:Bool):R3:=fun x y H Q=>match x,y with
 |.int i,.int j=>Q (.bl (if neg then !decide (i=j) else decide (i=j))) H
 |.str i,.str j=>Q (.bl (if neg then !decide (i=j) else decide (i=j))) H
 |.bl i,.bl j=>Q (.bl (if neg then !decide (i=j) else decide (i=j))) H
 |.non,.non=>Q (.bl (if neg then false else true)) H
 |.tup xs,.tup ys=>xs.all (pl 20)=true/\ys.all (pl 20)=true/\Q (.bl (if neg then !decide (xs=ys) else decide (xs=ys))) H
 |.ref a,.ref b=>match H a,H b with
  |some (.lst xs),some (.lst ys)=>a≠b/\xs.all (pl 20)=true/\ys.all (pl 20)=true/\Q (.bl (if neg then !decide (xs=ys) else decide (xs=ys))) H
  |_,_=>False
 |_,_=>False
theorem iz (I:Inv X pins U H s) {ts us:List T}{xs ys:List V}{its its':List Value}{A:Around}(hu:A.units+30<cLine) (px:ts.all (pl 20)=true) (py:us.all (pl 20)=true) (r:Reps X.K H ts xs) (r':Reps X.K H us ys) (rv1:Vals xs its) (rv2:Vals ys its') :
  ∀j (h1:j<its.toArray.size) (h2:j<its'.toArray.size),SeqAt.EqAt A.in1 s its.toArray[j] its'.toArray[j] (decide (ts[j]?=us[j]?)):=fun j h1 h2=>by
 have l1:=r.length;have l2:=r'.length;have l3:=rv1.length;have l4:=rv2.length;rw[List.size_toArray] at h1 h2;have g1:j<ts.length:=by omega
 have g2:j<us.length:=by omega
 obtain⟨p1,e1,q1⟩:=r.get (List.getElem?_eq_getElem g1);obtain⟨p2,e2,q2⟩:=r'.get (List.getElem?_eq_getElem g2);obtain⟨z1,f1,w1⟩:=rv1.get e1;obtain⟨z2,f2,w2⟩:=rv2.get e2;rw[Dm _ f1,Dm _ f2,List.getElem?_eq_getElem g1,List.getElem?_eq_getElem g2];rw[List.all_eq_true] at px py;have:=uW I 20 A.in1 ts[j] us[j] p1 p2 z1 z2 (px _ (List.getElem_mem g1)) (py _ (List.getElem_mem g2)) q1 q2 w1 w2 (by rw[units_in1];omega);rw[show decide (some ts[j]=some us[j])=decide (ts[j]=us[j]) by by_cases h:ts[j]=us[j] <;> simp [h]];exact this
theorem iB {ts us:List T}:((List.range (min ts.length us.length)).all (fun j=>decide (ts[j]?=us[j]?))&&ts.length==us.length)=decide (ts=us):=by
 rw[Bool.eq_iff_iff,kI,decide_eq_true_iff]
theorem cM (hu:X.A.units+30<cLine):dj X (compareOp .Eq) (tK false):=by
 intro pins s U H x y v u Q I rv ru h;obtain⟨tx,ty,H3,Q3,rx,ry,sh,h,k⟩:=h;have sc:∀{x y:V},fY x y=true->RelV x v->RelV y u->(k:Q (.bl (decide (x=y))) H)->wpAny (model X.prog X.w) X.A (compareOp .Eq v u) (EP X pins U Q) X.xe s:=fun {x y} a r1 r2 q=>Ma pins s U H x y v u Q I r1 r2 ⟨a,q⟩;cases tx with
 |int i =>
  cases ty with
  |int j=>rw[rx.int] at rv;rw[ry.int] at ru;exact sc rfl rv ru (k _ _ _ _ .refl sh (by rw[show decide (V.int i=V.int j)=decide (i=j) by by_cases e:i=j <;> simp [e]];exact .ofBl) h)
  |_=>exact h.elim
 |str i =>
  cases ty with
  |str j=>rw[rx.str] at rv;rw[ry.str] at ru;exact sc rfl rv ru (k _ _ _ _ .refl sh (by rw[show decide (V.str i=V.str j)=decide (i=j) by by_cases e:i=j <;> simp [e]];exact .ofBl) h)
  |_=>exact h.elim
 |bl i =>
  cases ty with
  |bl j=>rw[rx.bl] at rv;rw[ry.bl] at ru;exact sc rfl rv ru (k _ _ _ _ .refl sh (by rw[show decide (V.bl i=V.bl j)=decide (i=j) by by_cases e:i=j <;> simp [e]];exact .ofBl) h)
  |_=>exact h.elim
 |non =>
  cases ty with
  |non=>rw[rx.non] at rv;rw[ry.non] at ru;exact sc rfl rv ru (k _ _ _ _ .refl sh (by rw[show decide (V.non=V.non)=true by simp];exact .ofBl) h)
  |_=>exact h.elim
 |tup ts =>
  cases ty with
  |tup us=>obtain⟨a,xs,rfl,sq,r⟩:=rx.tup;obtain⟨b,ys,rfl,sq',r'⟩:=ry.tup;cases rv;cases ru;obtain⟨its,rv1,ht,_⟩:=I.tuple sq;obtain⟨its',rv2,ht',_⟩:=I.tuple sq';refine SeqAt.eq_tupleAt (e:=fun j=>decide (ts[j]?=us[j]?)) ht ht' (by omega) (iz I hu h.1 h.2.1 r r' rv1 rv2) ⟨.bl _,H,I,rfl,?_⟩;rw[List.size_toArray,List.size_toArray,<- rv1.length,<- rv2.length,<- r.length,<- r'.length,iB];exact k _ _ _ _ .refl sh .ofBl h.2.2
  |_=>exact h.elim
 |ref a =>
  cases ty with
  |ref b =>
   have h':(match H3 a,H3 b with
    |some (.lst xs),some (.lst ys)=>a≠b/\xs.all (pl 20)=true/\ys.all (pl 20)=true/\Q3 (.bl (decide (xs=ys))) H3
    |_,_=>False):=h
   split at h'
   ·
    rename_i ts us e1 e2
    obtain⟨xs,g1,r⟩:=sh a _ e1
    obtain⟨ys,g2,r'⟩:=sh b _ e2
    cases rx.ref;cases ry.ref;cases rv;cases ru
    obtain⟨its,rv1,ht,_⟩:=I.list (X:=X) (.of g1)
    obtain⟨its',rv2,ht',_⟩:=I.list (X:=X) (.of g2)
    have hl:its.length=ts.length:=by rw[<- rv1.length,<- r.length]
    have hl':its'.length=us.length:=by rw[<- rv2.length,<- r'.length]
    by_cases hsz:ts.length=us.length
    ·
     refine SeqAt.eq_listAt (e:=fun j=>decide (ts[j]?=us[j]?)) ht.isList ht'.isList (by simp;omega) (by omega) (iz I hu h'.2.1 h'.2.2.1 r r' rv1 rv2) ⟨.bl _,H,I,rfl,?_⟩
     have e:=iB (ts:=ts) (us:=us)
     rw[<- hsz,Nat.min_self,beq_self_eq_true,Bool.and_true] at e
     rw[List.size_toArray,hl,e]
     exact k _ _ _ _ .refl sh .ofBl h'.2.2.2
    ·
     refine SeqAt.eq_list_lengthsAt ht.isList ht'.isList (by simp;omega) (by omega) ⟨.bl false,H,I,rfl,?_⟩
     have e:decide (ts=us)=false:=decide_eq_false fun z=>hsz (by rw[z])
     have q:=h'.2.2.2
     rw[e] at q
     exact k _ _ _ _ .refl sh .ofBl q
   ·
    exact h'.elim
  |_=>exact h.elim
 |_=>exact h.elim
theorem Gy (hu:X.A.units+30<cLine):dj X (compareOp .NotEq) (tK true):=by
 intro pins s U H x y v u Q I rv ru h;obtain⟨tx,ty,H3,Q3,rx,ry,sh,h,k⟩:=h;have sc:∀{x y:V},fY x y=true->RelV x v->RelV y u->(k:Q (.bl (!decide (x=y))) H)->wpAny (model X.prog X.w) X.A (compareOp .NotEq v u) (EP X pins U Q) X.xe s:=fun {x y} a r1 r2 q=>Mf pins s U H x y v u Q I r1 r2 ⟨a,q⟩;cases tx with
 |int i =>
  cases ty with
  |int j=>rw[rx.int] at rv;rw[ry.int] at ru;exact sc rfl rv ru (k _ _ _ _ .refl sh (by rw[show decide (V.int i=V.int j)=decide (i=j) by by_cases e:i=j <;> simp [e]];exact .ofBl) h)
  |_=>exact h.elim
 |str i =>
  cases ty with
  |str j=>rw[rx.str] at rv;rw[ry.str] at ru;exact sc rfl rv ru (k _ _ _ _ .refl sh (by rw[show decide (V.str i=V.str j)=decide (i=j) by by_cases e:i=j <;> simp [e]];exact .ofBl) h)
  |_=>exact h.elim
 |bl i =>
  cases ty with
  |bl j=>rw[rx.bl] at rv;rw[ry.bl] at ru;exact sc rfl rv ru (k _ _ _ _ .refl sh (by rw[show decide (V.bl i=V.bl j)=decide (i=j) by by_cases e:i=j <;> simp [e]];exact .ofBl) h)
  |_=>exact h.elim
 |non =>
  cases ty with
  |non=>rw[rx.non] at rv;rw[ry.non] at ru;exact sc rfl rv ru (k _ _ _ _ .refl sh (by rw[show decide (V.non=V.non)=true by simp];exact .ofBl) h)
  |_=>exact h.elim
 |tup ts =>
  cases ty with
  |tup us=>obtain⟨a,xs,rfl,sq,r⟩:=rx.tup;obtain⟨b,ys,rfl,sq',r'⟩:=ry.tup;cases rv;cases ru;obtain⟨its,rv1,ht,_⟩:=I.tuple sq;obtain⟨its',rv2,ht',_⟩:=I.tuple sq';refine SeqAt.RcNeAt.tuples (e:=fun j=>decide (ts[j]?=us[j]?)) ht ht' (by omega) (iz I hu h.1 h.2.1 r r' rv1 rv2) _ _ _ _ ⟨.bl _,H,I,rfl,?_⟩;rw[List.size_toArray,List.size_toArray,<- rv1.length,<- rv2.length,<- r.length,<- r'.length,iB];exact k _ _ _ _ .refl sh .ofBl h.2.2
  |_=>exact h.elim
 |ref a =>
  cases ty with
  |ref b =>
   have h':(match H3 a,H3 b with
    |some (.lst xs),some (.lst ys)=>a≠b/\xs.all (pl 20)=true/\ys.all (pl 20)=true/\Q3 (.bl (!decide (xs=ys))) H3
    |_,_=>False):=h
   split at h'
   ·
    rename_i ts us e1 e2
    obtain⟨xs,g1,r⟩:=sh a _ e1
    obtain⟨ys,g2,r'⟩:=sh b _ e2
    cases rx.ref;cases ry.ref;cases rv;cases ru
    obtain⟨its,rv1,ht,_⟩:=I.list (X:=X) (.of g1)
    obtain⟨its',rv2,ht',_⟩:=I.list (X:=X) (.of g2)
    have hl:its.length=ts.length:=by rw[<- rv1.length,<- r.length]
    have hl':its'.length=us.length:=by rw[<- rv2.length,<- r'.length]
    by_cases hsz:ts.length=us.length
    ·
     refine SeqAt.RcNeAt.lists (e:=fun j=>decide (ts[j]?=us[j]?)) ht.isList ht'.isList (by simp;omega) (by omega) (iz I hu h'.2.1 h'.2.2.1 r r' rv1 rv2) _ _ _ _ ⟨.bl _,H,I,rfl,?_⟩
     have e:=iB (ts:=ts) (us:=us)
     rw[<- hsz,Nat.min_self,beq_self_eq_true,Bool.and_true] at e
     rw[List.size_toArray,hl,e]
     exact k _ _ _ _ .refl sh .ofBl h'.2.2.2
    ·
     refine SeqAt.RcNeAt.lists_lengths ht.isList ht'.isList (by simp;omega) (by omega) _ _ _ _ ⟨.bl true,H,I,rfl,?_⟩
     have e:decide (ts=us)=false:=decide_eq_false fun z=>hsz (by rw[z])
     have q:=h'.2.2.2
     rw[e] at q
     exact k _ _ _ _ .refl sh .ofBl q
   ·
    exact h'.elim
  |_=>exact h.elim
 |_=>exact h.elim
def cV (neg:Bool) (x:T) (ts:List T):Bool:=if neg then !decide (x∈ts) else decide (x∈ts)
def occ (neg:Bool) (i j:Str):Bool:=if neg then !(!(Builtin.Str.occurrences j i 0 j.length 1).isEmpty) else !(Builtin.Str.occurrences j i 0 j.length 1).isEmpty
def wN (neg:Bool):R3:=fun x y H Q=>match y with
 |.tup ts=>pl 20 x=true/\ts.all (pl 20)=true/\Q (.bl (cV neg x ts)) H
 |.ref a=>match H a with
  |some (.lst ts)=>pl 20 x=true/\ts.all (pl 20)=true/\Q (.bl (cV neg x ts)) H
  |some (.rol ts)=>pl 20 x=true/\ts.all (pl 20)=true/\Q (.bl (cV neg x ts)) H
  |_=>False
 |.str j=>match x with
  |.str i=>Q (.bl (occ neg i j)) H
  |_=>False
 |_=>False
theorem oM (I:Inv X pins U H s) {x:T}{ts:List T}{xs:List V}{its:List Value}(px:pl 20 x=true) (pts:ts.all (pl 20)=true) (r:Reps X.K H ts xs) (rv:Vals xs its) (A:Around) (hu:A.units+30<cLine) {vx:V}{u:Value}(rx:Rep X.K H x vx) (ru:RelV vx u) :
  ∃e:Value->Bool,(∀y,y∈its->SeqAt.EqAt A s y u (e y))/\its.any e=decide (x∈ts):=by
 rw[List.all_eq_true] at pts;have own:∀y,y∈its->∃t v,t∈ts/\Rep X.K H t v/\RelV v y:=fun y hy=>by
  obtain⟨i,hi,e⟩:=List.mem_iff_getElem.mp hy;have hl:=rv.length;have e':its[i]?=some y:=by rw[List.getElem?_eq_getElem hi,e]
  have hx:xs[i]?=some xs[i]:=List.getElem?_eq_getElem (by omega);obtain⟨z,ez,rz⟩:=rv.get hx;rw[e'] at ez;cases ez;obtain⟨t,et,rt⟩:=r.get' hx;exact⟨t,_,List.mem_of_getElem? et,rt,rz⟩
 have dec:∀t v y,t∈ts->Rep X.K H t v->RelV v y->(@decide (∃v,RelV v y/\Rep X.K H x v) (Classical.propDecidable _)=true↔t=x):=fun t v y ht rt ry=>by
  rw[@decide_eq_true_iff _ (Classical.propDecidable _)];constructor
  ·rintro⟨v',r1,r2⟩;cases r1.inj ry;exact uV I 20 t x _ (pts t ht) px rt r2
  rintro rfl;exact⟨v,ry,rt⟩
 refine⟨fun y=>@decide (∃v,RelV v y/\Rep X.K H x v) (Classical.propDecidable _),fun y hy=>?_,?_⟩
 ·obtain⟨t,v,ht,rt,ry⟩:=own y hy;have q:=uW I 20 A t x v vx y u (pts t ht) px rt rx ry ru (by omega);have e:@decide (∃v,RelV v y/\Rep X.K H x v) (Classical.propDecidable _)=decide (t=x):=by rw[Bool.eq_iff_iff,dec t v y ht rt ry,decide_eq_true_iff]
  show SeqAt.EqAt A s y u (@decide (∃v,RelV v y/\Rep X.K H x v) (Classical.propDecidable _));rw[e];exact q
 rw[Bool.eq_iff_iff,List.any_eq_true,decide_eq_true_iff];constructor
 ·rintro⟨y,hy,e⟩;obtain⟨t,v,ht,rt,ry⟩:=own y hy;rw[<- (dec t v y ht rt ry).mp e];exact ht
 intro hx;obtain⟨i,hi,e⟩:=List.mem_iff_getElem.mp hx;obtain⟨v,ev,rvv⟩:=r.get (show ts[i]?=some x by rw[List.getElem?_eq_getElem hi,e]);obtain⟨y,ey,ry⟩:=rv.get ev;exact⟨y,List.mem_of_getElem? ey,(dec x v y hx rvv ry).mpr rfl⟩
theorem mU (hu:X.A.units+31<cLine):dj X (compareOp .In) (wN false):=by
 intro pins s U H x y v u Q I rv ru h;obtain⟨tx,ty,H3,Q3,rx,ry,sh,h,k⟩:=h;have hu':X.A.in1.units+30<cLine:=by rw[units_in1];omega
 have lst:∀{a:Addr} {ts:List T} {xs:List V},SqL X.K H a xs->Reps X.K H ts xs->u=.ref a->pl 20 tx=true->ts.all (pl 20)=true->Q3 (.bl (cV false tx ts)) H3->wpAny (model X.prog X.w) X.A (compareOp .In v u) (EP X pins U Q) X.xe s:=by intro a ts xs sq r e p1 p2 q;subst e;obtain⟨its,rvs,ht,_⟩:=I.list sq;obtain⟨e,he,ea⟩:=oM I p1 p2 r rvs X.A.in1 hu' rx rv;refine SeqAt.in_listAt e ht.isList (fun y hy=>he y (by simpa using hy)) ⟨.bl _,H,I,rfl,?_⟩;rw[show its.toArray.any e=its.any e by simp,ea];exact k _ _ _ _ .refl sh .ofBl q
 cases ty with
 |tup ts=>obtain⟨a,xs,rfl,sq,r⟩:=ry.tup;cases ru;obtain⟨its,rvs,ht,_⟩:=I.tuple sq;obtain⟨e,he,ea⟩:=oM I h.1 h.2.1 r rvs X.A.in1 hu' rx rv;refine SeqAt.in_tupleAt e ht (fun y hy=>he y (by simpa using hy)) ⟨.bl _,H,I,rfl,?_⟩;rw[show its.toArray.any e=its.any e by simp,ea];exact k _ _ _ _ .refl sh .ofBl h.2.2
 |ref a =>
  have h':(match H3 a with
   |some (.lst ts)=>pl 20 tx=true/\ts.all (pl 20)=true/\Q3 (.bl (cV false tx ts)) H3
   |some (.rol ts)=>pl 20 tx=true/\ts.all (pl 20)=true/\Q3 (.bl (cV false tx ts)) H3
   |_=>False):=h
  rw[ry.ref] at ru
  split at h'
  ·
   rename_i ts e
   obtain⟨xs,sq,r⟩:=sh.sqL (.inl e)
   exact lst sq r ru h'.1 h'.2.1 h'.2.2
  ·
   rename_i ts e
   obtain⟨xs,sq,r⟩:=sh.sqL (.inr e)
   exact lst sq r ru h'.1 h'.2.1 h'.2.2
  ·
   exact h'.elim
 |str j =>
  cases tx with
  |str i=>exact wB pins s U H x y v u Q I rv ru ⟨i,j,rx.str,ry.str,k _ _ _ _ .refl sh .ofBl h⟩
  |_=>exact h.elim
 |_=>exact h.elim
theorem qJ (hu:X.A.units+31<cLine):dj X (compareOp .NotIn) (wN true):=by
 intro pins s U H x y v u Q I rv ru h;obtain⟨tx,ty,H3,Q3,rx,ry,sh,h,k⟩:=h;have hu':X.A.in1.units+30<cLine:=by rw[units_in1];omega
 have lst:∀{a:Addr} {ts:List T} {xs:List V},SqL X.K H a xs->Reps X.K H ts xs->u=.ref a->pl 20 tx=true->ts.all (pl 20)=true->Q3 (.bl (cV true tx ts)) H3->wpAny (model X.prog X.w) X.A (compareOp .NotIn v u) (EP X pins U Q) X.xe s:=by intro a ts xs sq r e p1 p2 q;subst e;obtain⟨its,rvs,ht,_⟩:=I.list sq;obtain⟨e,he,ea⟩:=oM I p1 p2 r rvs X.A.in1 hu' rx rv;refine SeqAt.notIn_listAt e ht.isList (fun y hy=>he y (by simpa using hy)) ⟨.bl _,H,I,rfl,?_⟩;rw[show its.toArray.any e=its.any e by simp,ea];exact k _ _ _ _ .refl sh .ofBl q
 cases ty with
 |tup ts=>obtain⟨a,xs,rfl,sq,r⟩:=ry.tup;cases ru;obtain⟨its,rvs,ht,_⟩:=I.tuple sq;obtain⟨e,he,ea⟩:=oM I h.1 h.2.1 r rvs X.A.in1 hu' rx rv;refine SeqAt.notIn_tupleAt e ht (fun y hy=>he y (by simpa using hy)) ⟨.bl _,H,I,rfl,?_⟩;rw[show its.toArray.any e=its.any e by simp,ea];exact k _ _ _ _ .refl sh .ofBl h.2.2
 |ref a =>
  have h':(match H3 a with
   |some (.lst ts)=>pl 20 tx=true/\ts.all (pl 20)=true/\Q3 (.bl (cV true tx ts)) H3
   |some (.rol ts)=>pl 20 tx=true/\ts.all (pl 20)=true/\Q3 (.bl (cV true tx ts)) H3
   |_=>False):=h
  rw[ry.ref] at ru
  split at h'
  ·
   rename_i ts e
   obtain⟨xs,sq,r⟩:=sh.sqL (.inl e)
   exact lst sq r ru h'.1 h'.2.1 h'.2.2
  ·
   rename_i ts e
   obtain⟨xs,sq,r⟩:=sh.sqL (.inr e)
   exact lst sq r ru h'.1 h'.2.1 h'.2.2
  ·
   exact h'.elim
 |str j =>
  cases tx with
  |str i=>exact nR pins s U H x y v u Q I rv ru ⟨i,j,rx.str,ry.str,k _ _ _ _ .refl sh .ofBl h⟩
  |_=>exact h.elim
 |_=>exact h.elim
def oq {α:Type}(o:Option α) (Q:α->Prop):Prop:=match o with
 |some v=>Q v
 |none=>False
def wO:R3:=fun x y H Q=>match x,y with
 |.ref a,.int i=>match H a with
  |some (.lst ts)=>oq (atI ts i) fun t=>Q t H
  |some (.rol ts)=>oq (atI ts i) fun t=>Q t H
  |_=>False
 |.tup ts,.int i=>oq (atI ts i) fun t=>Q t H
 |.str z,.int i=>z.length<=sizeLine/\oq (atI z.cps.toList i) fun c=>Q (.str ⟨#[c]⟩) H
 |_,_=>False
theorem uX {K:Frag}{H:Hp}{ts:List T}{xs:List V}{i:Int}{t:T}(r:Reps K H ts xs) (h:atI ts i=some t):∃v,atI xs i=some v/\Rep K H t v:=by
 unfold atI at h ⊢;rw[<- r.length];cases e:ixN ts.length i with
 |none=>rw[e] at h;cases h
 |some j =>
 rw[e] at h;exact r.get h
theorem ix3:MN X wO:=by
 refine IxR.imp Jb ?_;rintro x y H Q ⟨tx,ty,H3,Q3,rx,ry,sh,h,k⟩;have lst:∀{a:Addr} {ts:List T} {xs:List V} {i:Int},SqL X.K H a xs->Reps X.K H ts xs->x=.ref a->y=.int i->oq (atI ts i) (fun t=>Q3 t H3)->rIx X.K x y H Q:=by
  intro a ts xs i sq r e1 e2 q;cases e:atI ts i with
  |none=>rw[e] at q;exact q.elim
  |some t =>
  rw[e] at q;obtain⟨v,ev,rv⟩:=uX r e;exact .inl ⟨a,xs,i,v,e1,e2,sq,ev,k _ _ _ _ .refl sh rv q⟩
 cases tx with
 |ref a =>
  cases ty with
  |int i =>
   have h':(match H3 a with
    |some (.lst ts)=>oq (atI ts i) fun t=>Q3 t H3
    |some (.rol ts)=>oq (atI ts i) fun t=>Q3 t H3
    |_=>False):=h
   split at h'
   ·
    rename_i ts e
    obtain⟨xs,sq,r⟩:=sh.sqL (.inl e)
    exact lst sq r rx.ref ry.int h'
   ·
    rename_i ts e
    obtain⟨xs,sq,r⟩:=sh.sqL (.inr e)
    exact lst sq r rx.ref ry.int h'
   ·
    exact h'.elim
  |_=>exact h.elim
 |tup ts =>
  cases ty with
  |int i =>
   have h':oq (atI ts i) fun t=>Q3 t H3:=h
   cases e:atI ts i with
   |none=>rw[e] at h';exact h'.elim
   |some t =>
    rw[e] at h'
    obtain⟨a,xs,e1,sq,r⟩:=rx.tup
    obtain⟨v,ev,rv⟩:=uX r e
    exact .inr (.inl ⟨a,xs,i,v,e1,ry.int,sq,ev,k _ _ _ _ .refl sh rv h'⟩)
  |_=>exact h.elim
 |str z =>
  cases ty with
  |int i =>
   have h':z.length<=sizeLine/\oq (atI z.cps.toList i) fun c=>Q3 (.str ⟨#[c]⟩) H3:=h
   cases e:atI z.cps.toList i with
   |none=>rw[e] at h';exact h'.2.elim
   |some c =>
    rw[e] at h'
    exact .inr (.inr ⟨z,i,c,rx.str,ry.int,h'.1,e,k _ _ _ _ .refl sh .ofStr h'.2⟩)
  |_=>exact h.elim
 |_=>exact h.elim
def yO:qH:=fun o i v H Q=>match o,i with
 |.ref a,.int k=>match H a with
  |some (.lst ts)=>oq (ixN ts.length k) fun j=>Q (up3 H a (.lst (ts.set j v)))
  |_=>False
 |_,_=>False
theorem SimH.wrL {K:Frag}{H:Hp}{H3:Hp3}{a:Addr}{xs:List V}{ts:List T}{xs':List V}(s:SimH K H3 H) (hH:H a=some (.lst xs)) (r:Reps K H ts xs'):SimH K (up3 H3 a (.lst ts)) (upd H a (.lst xs')):=fun b o e=>by
 have le:TupLe K H (upd H a (.lst xs')):=di (by rw[hH];exact trivial);by_cases hb:b=a
 ·subst hb;rw[aA] at e;cases e;exact⟨xs',bw,r.mono le⟩
 rw[aC hb] at e;exact (s b o e).stay le fun u q=>by rw[aH hb];exact q
theorem mV:Gp X yO:=by
 refine PSet.imp set_list ?_;rintro o i v H Q ⟨to,ti,tv,H3,Q3,ro,ri,rv,sh,h,k⟩;cases to with
 |ref a =>
  cases ti with
  |int n =>
   have h':(match H3 a with
    |some (.lst ts)=>oq (ixN ts.length n) fun j=>Q3 (up3 H3 a (.lst (ts.set j tv)))
    |_=>False):=h
   split at h'
   ·
    rename_i ts e
    obtain⟨xs,hH,r⟩:=sh a _ e
    cases ej:ixN ts.length n with
    |none=>rw[ej] at h';exact h'.elim
    |some j =>
     rw[ej] at h'
     exact⟨a,xs,n,j,ro.ref,ri.int,hH,by rw[<- r.length];exact ej,k _ _ (di (by rw[hH];exact trivial)) (sh.wrL hH (r.set j rv)) h'⟩
   ·
    exact h'.elim
  |_=>exact h.elim
 |_=>exact h.elim
abbrev TO3:=St3->Hp3->(Option Int->Hp3->Prop)->Prop
def Qu (K:Frag) (t3:TO3):TO:=fun U H Q=>∃U3 H3 Q3,SimS K H U3 U/\SimH K H3 H/\t3 U3 H3 Q3/\∀o H' H3',TupLe K H H'->SimH K H3' H'->Q3 o H3'->Q o H'
def PO3 (X:Cx) (e:Option Expr) (t:TO3):Prop:=PO X e (Qu X.K t)
theorem PO.imp {e:Option Expr}{t t':TO}(h:PO X e t) (w:∀U H Q,t' U H Q->t U H Q):PO X e t':=fun pins s U H Q I q=>h pins s U H Q I (w U H Q q)
def kO:TO3:=fun _ H Q=>Q none H
def tL (t:TE3):TO3:=fun U H Q=>t U H fun x H1=>match x with
 |.int i=>Q (some i) H1
 |_=>False
theorem bf:PO3 X none kO:=by
 refine PO.imp CG ?_;rintro U H Q ⟨U3,H3,Q3,ss,sh,h,k⟩;exact k _ _ _ .refl sh h
theorem aX {e:Expr}{te:TE3}(h:PE3 X e te):PO3 X (some e) (tL te):=by
 refine PO.imp (CJ h) ?_;rintro U H Q ⟨U3,H3,Q3,ss,sh,h,k⟩;refine⟨U3,H3,_,ss,sh,h,fun v H' t H3' le sh' r q=>?_⟩;cases t with
 |int i=>exact⟨i,r.int,k _ _ _ le sh' q⟩
 |_=>exact q.elim
theorem Ji:SlR X (fun x lo hi H Q=>∃z,x=.str z/\z.length<=sizeLine/\Q (.str (Txt.slice z lo hi)) H):=by
 intro pins s U H x v vl vu lo hi sl Q I rx hs pl pu h;obtain⟨z,rfl,hz,q⟩:=h;obtain⟨t,rfl⟩:=rx;refine⟨"str",_,F.slot_str_getitem.lookup,typeIs_str _ _ _,?_⟩;obtain⟨o,e,c,d⟩:=hs;have fin:∀(t':Tok) (k:Nat),EP X pins U Q (.str (Txt.slice z lo hi) t') { s with toks:=k}:=fun t' k=>⟨.str _,H,I.tok k,⟨t',rfl⟩,q⟩;cases pl with
 |none =>
  cases pu with
  |none=>exact wpAny_getItem_str_slice (l:=none) (u:=none) (st:=none) ⟨o,e,c,d⟩ rfl (post_val_or_str ⟨Nat.le_trans (Txt.slice_le z _ _) hz,fin⟩)
  |int j uj=>exact wpAny_getItem_str_slice (l:=none) (u:=some (j,uj)) (st:=none) ⟨o,e,c,d⟩ rfl (post_val_or_str ⟨Nat.le_trans (Txt.slice_le z _ _) hz,fin⟩)
 |int i ui =>
 cases pu with
 |none=>exact wpAny_getItem_str_slice (l:=some (i,ui)) (u:=none) (st:=none) ⟨o,e,c,d⟩ rfl (post_val_or_str ⟨Nat.le_trans (Txt.slice_le z _ _) hz,fin⟩)
 |int j uj=>exact wpAny_getItem_str_slice (l:=some (i,ui)) (u:=some (j,uj)) (st:=none) ⟨o,e,c,d⟩ rfl (post_val_or_str ⟨Nat.le_trans (Txt.slice_le z _ _) hz,fin⟩)
def cj (ts:List T) (lo hi:Option Int):List T:=(ts.drop (HT.sIx ts.length 0 lo)).take (HT.sIx ts.length ts.length hi - HT.sIx ts.length 0 lo)
def Dp:T->Option Int->Option Int->Hp3->VK3->Prop:=fun x lo hi H Q=>match x with
 |.ref a=>match H a with
  |some (.lst ts)=>∀p,H p=none->Q (.ref p) (up3 H p (.lst (cj ts lo hi)))
  |some (.rol ts)=>∀p,H p=none->Q (.ref p) (up3 H p (.lst (cj ts lo hi)))
  |_=>False
 |.tup ts=>¬(HT.sIx ts.length 0 lo=0/\HT.sIx ts.length ts.length hi=ts.length)/\Q (.tup (cj ts lo hi)) H
 |.str z=>z.length<=sizeLine/\Q (.str (Txt.slice z lo hi)) H
 |_=>False
def Jj (te:TE3) (tl th:TO3):TE3:=fun U H Q=>te U H fun x H1=>tl U H1 fun l H2=>th U H2 fun u H3=>Dp x l u H3 Q
theorem oN {K:Frag}{H:Hp}{ts:List T}{xs:List V}(r:Reps K H ts xs) (lo hi:Option Int):Reps K H (cj ts lo hi) (qu xs lo hi):=by
 unfold cj qu;rw[<- r.length];exact (r.drop _).take _
theorem aY {e:Expr}{lo hi:Option Expr}{te:TE3}{tl th:TO3}{p2 pos:Pos}(he:PE3 X e te) (hl:PO3 X lo tl) (hu:PO3 X hi th):PE3 X (.Subscript e (.Slice lo hi none p2) pos) (Jj te tl th):=by
 refine PE.imp (xZ (sl_list.or (sl_tup.or Ji)) he hl hu) ?_;rintro U H Q ⟨U3,H3,Q3,ss,sh,h,k⟩;refine⟨U3,H3,_,ss,sh,h,fun x H1 tx H31 le1 sh1 rx q1=>⟨U3,H31,_,ss.mono le1,sh1,q1,fun l H2 H32 le2 sh2 q2=>⟨U3,H32,_,ss.mono (le1.trans le2),sh2,q2,fun u H4 H34 le4 sh4 q4=>?_⟩⟩⟩;have k':=k.at (le1.trans (le2.trans le4));have rx':=rx.mono (le2.trans le4);cases tx with
 |ref a =>
  have h':(match H34 a with
   |some (.lst ts)=>∀p,H34 p=none->Q3 (.ref p) (up3 H34 p (.lst (cj ts l u)))
   |some (.rol ts)=>∀p,H34 p=none->Q3 (.ref p) (up3 H34 p (.lst (cj ts l u)))
   |_=>False):=q4
  split at h'
  ·
   rename_i ts e
   obtain⟨xs,sq,r⟩:=sh4.sqL (.inl e)
   exact .inl ⟨a,xs,rx'.ref,sq,fun p hp=>k' _ _ _ _ (aO hp) (sh4.newLst hp (oN r l u)) .ofRef (h' p (sh4.fresh hp))⟩
  ·
   rename_i ts e
   obtain⟨xs,sq,r⟩:=sh4.sqL (.inr e)
   exact .inl ⟨a,xs,rx'.ref,sq,fun p hp=>k' _ _ _ _ (aO hp) (sh4.newLst hp (oN r l u)) .ofRef (h' p (sh4.fresh hp))⟩
  ·
   exact h'.elim
 |tup ts=>obtain⟨a,xs,rfl,sq,r⟩:=rx'.tup;refine .inr (.inl ⟨a,xs,rfl,sq,by rw[<- r.length];exact q4.1,fun p hp=>k' _ _ _ _ (aO hp) (sh4.new hp) (SimH.newTup (H3:=H34) hp (oN r l u)) q4.2⟩)
 |str z=>exact .inr (.inr ⟨z,rx'.str,q4.1,k' _ _ _ _ .refl sh4 .ofStr q4.2⟩)
 |_=>exact q4.elim
def cB (k:Str):List (Str × T)->Option T
 |[]=>none
 | (k',v)::r=>if k'=k then some v else cB k r
def put3 (k:Str) (v:T) (kvs:List (Str × T)):List (Str × T) :=
 if (kvs.any fun kv=>decide (kv.1=k))=true then kvs.map (fun kv=>if kv.1=k then (kv.1,v) else kv) else kvs++[(k,v)]
def r3D:R3:=fun x y H Q=>match x,y with
 |.ref a,.str k=>match H a with
  |some (.dct kvs)=>oq (cB k kvs) fun t=>Q t H
  |_=>False
 |_,_=>False
theorem qK {K:Frag}{H:Hp}{k:Str}:∀{kvs:List (Str × T)}{vs:List (Key × V)}{t:T},RepD K H kvs vs->cB k kvs=some t->∃v,iZ vs (Sum.inr k:Key)=some v/\Rep K H t v
 |[],_,_,_,e=>by cases e
 | (k',t')::r,_,t,.cons (b:=(kk,v')) ⟨e1,rv⟩ rr,e=>by
  simp only at e1 rv
  subst e1
  unfold cB at e
  by_cases hk:k'=k
  ·
   rw[if_pos hk] at e
   cases e
   exact⟨v',by rw[il (by rw[hk])],rv⟩
  ·
   rw[if_neg hk] at e
   obtain⟨v,ev,q⟩:=qK rr e
   exact⟨v,by rw[ir (by intro z;exact hk (Sum.inr.inj z))];exact ev,q⟩
theorem cz {o i:Expr}{to ti:TE3}{pos:Pos}(hu:X.A.units+1<cLine) (ho:PE3 X o to) (hi:PE3 X i ti) (hs:Je i:=by exact fun _ _=>rfl):PE3 X (.Subscript o i pos) (iw r3D to ti):=by
 refine PE.imp (CV hu ho hi hs) ?_;rintro U H Q ⟨U3,H3,Q3,ss,sh,h,k⟩;refine⟨U3,H3,_,ss,sh,h,fun x H1 tx H31 le1 sh1 rx q1=>⟨U3,H31,_,ss.mono le1,sh1,q1,fun y H2 ty H32 le2 sh2 ry q2=>?_⟩⟩;cases tx with
 |ref a =>
  cases ty with
  |str key =>
   have h':(match H32 a with
    |some (.dct kvs)=>oq (cB key kvs) fun t=>Q3 t H32
    |_=>False):=q2
   split at h'
   ·
    rename_i kvs e
    obtain⟨vs,hH,r⟩:=sh2 a _ e
    cases el:cB key kvs with
    |none=>rw[el] at h';exact h'.elim
    |some t =>
     rw[el] at h'
     obtain⟨v,ev,rv⟩:=qK r el
     refine⟨a,v,rx.ref,?_,k.at (le1.trans le2) _ _ _ _ .refl sh2 rv h'⟩
     rw[ry.str,<- ev]
     exact DGet.k (k:=Sum.inr key) hH
   ·
    exact h'.elim
  |_=>exact q2.elim
 |_=>exact q2.elim
def yP (td ty tv:TE3):TS3:=fun D U H=>tv U H fun v H1=>td U H1 fun x H2=>ty U H2 fun y H3=>match x,y with
 |.ref a,.str k=>match H3 a with
  |some (.dct kvs)=>kvs.length<sizeLine/\D.nx U (up3 H3 a (.dct (put3 k v kvs)))
  |_=>False
 |_,_=>False
theorem uY {K:Frag}{H:Hp}{k:Str}{t:T}{v:V}(rv:Rep K H t v) {kvs:List (Str × T)}{vs:List (Key × V)}(r:RepD K H kvs vs):RepD K H (put3 k t kvs) (putK vs (Sum.inr k:Key) v):=by
 have e:∀{kvs:List (Str × T)} {vs:List (Key × V)},RepD K H kvs vs->(kvs.any fun kv=>decide (kv.1=k))=(vs.any fun kv=>decide (kv.1=(Sum.inr k:Key)))/\RepD K H (kvs.map (fun kv=>if kv.1=k then (kv.1,t) else kv)) (vs.map (fun kv=>if kv.1=(Sum.inr k:Key) then (kv.1,v) else kv)):=by
  intro kvs;induction kvs with
  |nil=>intro vs r;cases r;exact⟨rfl,.nil⟩
  |cons p l ih =>
  intro vs r;cases r with
  |cons q rr =>
  rename_i b l2;obtain⟨e1,e2⟩:=ih rr;obtain⟨q1,q2⟩:=q;obtain⟨bk,bv⟩:=b;simp only at q1 q2;subst q1;by_cases hk:p.1=k
  ·refine⟨by simp [hk],?_⟩;simp only[List.map_cons,hk,if_true];exact .cons ⟨rfl,rv⟩ e2
  have hk':¬(Sum.inr p.1:Key)=Sum.inr k:=fun z=>hk (Sum.inr.inj z);refine⟨by simp only[List.any_cons,hk,hk',decide_false,Bool.false_or];exact e1,?_⟩;simp only[List.map_cons,hk,hk',if_false];exact .cons ⟨rfl,q2⟩ e2
 obtain⟨e1,e2⟩:=e r;unfold put3 putK;rw[e1];split
 ·exact e2
 have app:∀{a:List (Str × T)} {b:List (Key × V)},RepD K H a b->RepD K H (a++[(k,t)]) (b++[((Sum.inr k:Key),v)]):=fun h=>Paired.snoc h ⟨rfl,rv⟩;exact app r
theorem SimH.wrD {K:Frag}{H:Hp}{H3:Hp3}{a:Addr}{kv:List (Key × V)}{kvs:List (Str × T)}{kv':List (Key × V)}(s:SimH K H3 H) (hH:H a=some (.dK kv)) (r:RepD K H kvs kv'):SimH K (up3 H3 a (.dct kvs)) (upd H a (.dK kv')):=fun b o e=>by
 have le:TupLe K H (upd H a (.dK kv')):=di (by rw[hH];exact trivial);by_cases hb:b=a
 ·subst hb;rw[aA] at e;cases e;exact⟨kv',bw,r.mono le⟩
 rw[aC hb] at e;exact (s b o e).stay le fun u q=>by rw[aH hb];exact q
theorem jT {o i value:Expr}{td ty tv:TE3}{pos pos':Pos}(hu:X.A.units+1<cLine) (ho:PE3 X o td) (hi:PE3 X i ty) (hv:PE3 X value tv) (hs:swapsWith value (some (.Subscript o i pos')) pos.line X.env=pure false:=by rfl) :
  PS3 X (.Assign [.Subscript o i pos'] value pos) (yP td ty tv):=by
 refine PS.imp (CW hu ho hi hv hs) ?_;rintro D U H ⟨U3,H3,D3,ss,sh,h,k1,_⟩;refine⟨U3,H3,_,ss,sh,h,fun v H1 tv H31 le1 sh1 rv q1=>⟨U3,H31,_,ss.mono le1,sh1,q1,fun x H2 tx H32 le2 sh2 rx q2=>⟨U3,H32,_,ss.mono (le1.trans le2),sh2,q2,fun y H4 ty H34 le4 sh4 ry q4=>?_⟩⟩⟩;cases tx with
 |ref a =>
  cases ty with
  |str key =>
   have h':(match H34 a with
    |some (.dct kvs)=>kvs.length<sizeLine/\D3.nx U3 (up3 H34 a (.dct (put3 key tv kvs)))
    |_=>False):=q4
   split at h'
   ·
    rename_i kvs e
    obtain⟨vs,hH,r⟩:=sh4 a _ e
    have rvv:=rv.mono (le2.trans le4)
    have le5:TupLe X.K H4 (upd H4 a (.dK (putK vs (Sum.inr key:Key) v))):=di (by rw[hH];exact trivial)
    refine⟨a,_,(rx.mono le4).ref,?_,k1 _ _ _ _ (le1.trans (le2.trans (le4.trans le5))) (ss.mono (le1.trans (le2.trans (le4.trans le5)))) (sh4.wrD hH (uY rvv r)) h'.2⟩
    rw[ry.str]
    exact DPut.k (k:=Sum.inr key) hH (by rw[<- Paired.length r];exact h'.1)
   ·
    exact h'.elim
  |_=>exact q4.elim
 |_=>exact q4.elim
def wQ:List (Str × TE3)->St3->Hp3->(List (Str × T)->Hp3->Prop)->Prop
 |[],_,H,Q=>Q [] H
 | (k,tv)::r,U,H,Q=>tv U H fun y H2=>wQ r U H2 fun ps H3=>Q ((k,y)::ps) H3
def yQ (kvs more:List (Str × T)):List (Str × T):=more.foldl (fun acc kv=>put3 kv.1 kv.2 acc) kvs
def yR (trs:List (Str × TE3)):TE3:=fun U H Q=>∀p,H p=none->wQ trs U (up3 H p (.dct [])) fun ps H2=>H2 p=some (.dct [])/\ps.length<=15/\Q (.ref p) (up3 H2 p (.dct (yQ [] ps)))
def Dq (X:Cx) (pos:Pos) (keys:List (Option Expr)) (values:List Expr) (trs:List (Str × TE3)):Prop:=PPs X pos keys values (trs.map fun p=>(lft X.K (tC3 (.str p.1)),lft X.K p.2))
theorem Dr {pos:Pos}:Dq X pos [] [] []:=CZ
theorem eZ {pos kpos:Pos}{x:Str}{j:Nat}{v:Expr}{ks:List (Option Expr)}{vs:List Expr}{tv:TE3}{trs:List (Str × TE3)}(hv:PE3 X v tv) (hr:Dq X pos ks vs trs) :
  Dq X pos (some (.Constant (.str x) j kpos)::ks) (v::vs) ((x,tv)::trs):=yg aF hv hr
theorem kW {K:Frag}{U3:St3}{U:L2.St}:∀{trs:List (Str × TE3)}{H:Hp}{H3:Hp3}{Q3:List (Str × T)->Hp3->Prop}{Q:List (V × V)->Hp->Prop},SimS K H U3 U->SimH K H3 H->wQ trs U3 H3 Q3 ->
  (∀ps qs H' H3',TupLe K H H'->SimH K H3' H'->Paired (fun (p:Str × T) (q:V × V)=>q.1=.str p.1/\Rep K H' p.2 q.2) ps qs->Q3 ps H3'->Q qs H')->oF (trs.map fun p=>(lft K (tC3 (.str p.1)),lft K p.2)) U H Q
 |[],H,H3,Q3,Q,ss,sh,h,k=>k [] [] H H3 .refl sh .nil h
 | (key,tv)::r,H,H3,Q3,Q,ss,sh,h,k=>by
  refine⟨U3,H3,fun t H=>t=.str key/\H=H3,ss,sh,⟨rfl,rfl⟩,fun x H1 tx H31 le1 sh1 rx ⟨e1,e2⟩=>?_⟩
  subst e1 e2
  refine⟨U3,H31,_,ss.mono le1,sh1,h,fun y H2 ty H32 le2 sh2 ry q2=>?_⟩
  exact kW (ss.mono (le1.trans le2)) sh2 q2 fun ps qs H' H3' le sh' pr q=>k _ _ H' H3' (le1.trans (le2.trans le)) sh' (.cons ⟨rx.str,ry.mono le⟩ pr) q
theorem Ds {K:Frag}{H:Hp}:∀{ps:List (Str × T)}{qs:List (Key × V)}{kvs:List (Str × T)}{vs:List (Key × V)},RepD K H ps qs->RepD K H kvs vs->RepD K H (yQ kvs ps) (f9 vs qs):=by
 intro ps;induction ps with
 |nil=>intro qs kvs vs r r';cases r;exact r'
 |cons p l ih =>
 intro qs kvs vs r r';cases r with
 |cons q rr =>
 rename_i b l2;obtain⟨bk,bv⟩:=b;obtain⟨q1,q2⟩:=q;simp only at q1 q2;subst q1;show RepD K H (yQ (put3 p.1 p.2 kvs) l) (f9 (putK vs (Sum.inr p.1) bv) l2);exact ih rr (uY q2 r')
theorem Dt {pos:Pos}{keys:List (Option Expr)}{values:List Expr}{trs:List (Str × TE3)}(h:Dq X pos keys values trs) (hall:keys.all (·.isSome)=true:=by rfl) (hl:keys.length=values.length:=by rfl) (h0:keys≠[]:=by simp)
  (h15:keys.length<=15:=by decide):PE3 X (.Dict keys values pos) (yR trs):=by
 refine PE.imp (Dc h hall hl h0 h15) ?_;rintro U H Q ⟨U3,H3,Q3,ss,sh,h,k⟩ p hp;have le0:TupLe X.K H (upd H p (.dK [])):=aO hp;have sh0:SimH X.K (up3 H3 p (.dct [])) (upd H p (.dK [])):=fun a o e=>by
  by_cases ha:a=p
  ·subst ha;rw[aA] at e;cases e;exact⟨[],bw,.nil⟩
  rw[aC ha] at e;exact sh.new hp a o e
 refine kW (ss.mono le0) sh0 (h p (sh.fresh hp)) fun ps qs H' H3' le sh' pr q=>?_;obtain⟨vs,hH,r0⟩:=sh' p _ q.1;cases r0;have hk:∀{ps:List (Str × T)} {qs:List (V × V)},Paired (fun (p:Str × T) (q:V × V)=>q.1=.str p.1/\Rep X.K H' p.2 q.2) ps qs->∃kvs:List (Key × V),qs=kvs.map (fun kv=>(kV kv.1,kv.2))/\RepD X.K H' ps kvs:=by
  intro ps;induction ps with
  |nil=>intro qs r;cases r;exact⟨[],rfl,.nil⟩
  |cons p l ih =>
  intro qs r;cases r with
  |cons q rr =>
  rename_i b l2;obtain⟨b1,b2⟩:=b;obtain⟨kvs,e,rd⟩:=ih rr;obtain⟨q1,q2⟩:=q;simp only at q1 q2;subst q1;exact⟨(Sum.inr p.1,b2)::kvs,by rw[e];rfl,.cons ⟨rfl,q2⟩ rd⟩
 obtain⟨kvs,e,rd⟩:=hk pr;refine⟨hH,kvs,e,by rw[<- Paired.length rd];exact q.2.1,?_⟩;exact k _ _ _ _ (le0.trans (le.trans (di (by rw[hH];exact trivial)))) (sh'.wrD hH (Ds rd .nil)) .ofRef q.2.2
variable {x:Str}{p pos:Pos}{e:Expr}{es:List Expr}{t:TA3}{id Ty:String}{r:List T->Hp3->VK3->Prop}
def Jk (r:List T->Hp3->VK3->Prop) (t:TA3):TE3:=fun U H Q=>t U H fun vs H1=>r vs H1 Q
theorem aK (hc:cD X (.builtin id) r) (hg:Gl X x) (hm:X.mg x=none) (hv:bootBuiltins x=some (.builtin id)) (ha:PA3 X (e::es) t) (hn:x≠"__name__":=by decide) (hdb:(x==("__debug__":Str))=false:=by decide)
  (he:starEach (e::es) X.env=(false,eval e X.env)::starEach es X.env:=by rfl) (hpl:(backTo pos (starEach es X.env)).any (·.1)=false:=by rfl):PE3 X (.Call (.Name x p) (e::es) [] pos) (Jk r t):=by
 refine PE.imp (xX hc hg hm hv ha hn hdb he hpl) ?_;rintro U H Q ⟨U3,H3,Q3,ss,sh,h,k⟩;exact⟨U3,H3,_,ss,sh,h,fun vs H' ts H3' le sh' r q=>⟨ts,H3',Q3,r,sh',q,k.at le⟩⟩
theorem aV (hc:cD X (.type Ty) r) (hg:Gl X x) (hm:X.mg x=none) (hv:bootBuiltins x=some (.type Ty)) (ha:PA3 X (e::es) t) (hn:x≠"__name__":=by decide) (hdb:(x==("__debug__":Str))=false:=by decide)
  (he:starEach (e::es) X.env=(false,eval e X.env)::starEach es X.env:=by rfl) (hpl:(backTo pos (starEach es X.env)).any (·.1)=false:=by rfl):PE3 X (.Call (.Name x p) (e::es) [] pos) (Jk r t):=by
 refine PE.imp (wF hc hg hm hv ha hn hdb he hpl) ?_;rintro U H Q ⟨U3,H3,Q3,ss,sh,h,k⟩;exact⟨U3,H3,_,ss,sh,h,fun vs H' ts H3' le sh' r q=>⟨ts,H3',Q3,r,sh',q,k.at le⟩⟩
theorem jA {n:String}(hg:Gl X x) (hm:X.mg x=none) (hv:bootBuiltins x=some (.type n)) (hn:x≠"__name__":=by decide) (hdb:(x==("__debug__":Str))=false:=by decide):PE3 X (.Name x pos) (tC3 (.ty n)):=by
 refine PE.imp (Cd (v:=.ty n) hg hm hv rfl hn hdb) ?_;rintro U H Q ⟨U3,H3,Q3,ss,sh,h,k⟩;exact k _ _ _ H3 .refl sh .ofTy h
theorem Reps.one' {K:Frag}{H:Hp}{t:T}{vs:List V}(r:Reps K H [t] vs):∃v,vs=[v]/\Rep K H t v:=by
 obtain⟨v,_,rfl,a,b⟩:=r.inv;rw[b.inv0];exact⟨v,rfl,a⟩
theorem Reps.two' {K:Frag}{H:Hp}{t u:T}{vs:List V}(r:Reps K H [t,u] vs):∃v w,vs=[v,w]/\Rep K H t v/\Rep K H u w:=by
 obtain⟨v,_,rfl,a,b⟩:=r.inv;obtain⟨w,rfl,c⟩:=b.one';exact⟨v,w,rfl,a,c⟩
def uZ:List T->Hp3->VK3->Prop:=fun ts H Q=>match ts with
 |[.ref a]=>match H a with
  |some (.lst xs)=>Q (.int xs.length) H
  |some (.rol xs)=>Q (.int xs.length) H
  |_=>False
 |[.tup xs]=>Q (.int xs.length) H
 |[.str z]=>z.length<=sizeLine/\Q (.int z.length) H
 |_=>False
theorem bV:cD X (.builtin "len") uZ:=by
 refine CallR.imp (call_len_seq.or ou) ?_;rintro xs H Q ⟨ts,H3,Q3,r,sh,h,k⟩
 match ts,h,r with
 |[.ref a],h,r =>
  obtain⟨v,rfl,rv⟩:=r.one';have h':(match H3 a with
   |some (.lst xs)=>Q3 (.int xs.length) H3
   |some (.rol xs)=>Q3 (.int xs.length) H3
   |_=>False):=h
  split at h'
  ·rename_i us e;obtain⟨ys,sq,rs⟩:=sh.sqL (.inl e);exact .inl ⟨a,ys,by rw[rv.ref],.inl sq,by rw[<- rs.length];exact k _ _ _ _ .refl sh .ofInt h'⟩
  ·rename_i us e;obtain⟨ys,sq,rs⟩:=sh.sqL (.inr e);exact .inl ⟨a,ys,by rw[rv.ref],.inl sq,by rw[<- rs.length];exact k _ _ _ _ .refl sh .ofInt h'⟩
  exact h'.elim
 |[.tup us],h,r=>obtain⟨v,rfl,rv⟩:=r.one';obtain⟨a,ys,rfl,sq,rs⟩:=rv.tup;exact .inl ⟨a,ys,rfl,.inr sq,by rw[<- rs.length];exact k _ _ _ _ .refl sh .ofInt h⟩
 |[.str z],h,r =>
 obtain⟨v,rfl,rv⟩:=r.one';exact .inr ⟨z,by rw[rv.str],h.1,k _ _ _ _ .refl sh .ofInt h.2⟩
def tM:List T->Hp3->VK3->Prop:=fun ts H Q=>match ts with
 |[.ref a]=>match H a with
  |some (.lst xs)=>∀p,H p=none->Q (.ref p) (up3 H p (.lst xs))
  |some (.rol xs)=>∀p,H p=none->Q (.ref p) (up3 H p (.lst xs))
  |_=>False
 |[.tup xs]=>∀p,H p=none->Q (.ref p) (up3 H p (.lst xs))
 |_=>False
theorem u0:cD X (.type "list") tM:=by
 refine CallR.imp oA ?_;rintro xs H Q ⟨ts,H3,Q3,r,sh,h,k⟩
 match ts,h,r with
 |[.ref a],h,r =>
  obtain⟨v,rfl,rv⟩:=r.one';have h':(match H3 a with
   |some (.lst xs)=>∀p,H3 p=none->Q3 (.ref p) (up3 H3 p (.lst xs))
   |some (.rol xs)=>∀p,H3 p=none->Q3 (.ref p) (up3 H3 p (.lst xs))
   |_=>False):=h
  split at h'
  ·rename_i us e;obtain⟨ys,sq,rs⟩:=sh.sqL (.inl e);exact⟨a,ys,by rw[rv.ref],.inl sq,fun l hl=>k _ _ _ _ (aO hl) (sh.newLst hl rs) .ofRef (h' l (sh.fresh hl))⟩
  ·rename_i us e;obtain⟨ys,sq,rs⟩:=sh.sqL (.inr e);exact⟨a,ys,by rw[rv.ref],.inl sq,fun l hl=>k _ _ _ _ (aO hl) (sh.newLst hl rs) .ofRef (h' l (sh.fresh hl))⟩
  exact h'.elim
 |[.tup us],h,r =>
 obtain⟨v,rfl,rv⟩:=r.one';obtain⟨a,ys,rfl,sq,rs⟩:=rv.tup;exact⟨a,ys,rfl,.inr sq,fun l hl=>k _ _ _ _ (aO hl) (sh.newLst hl rs) .ofRef (h l (sh.fresh hl))⟩
def oO:List T->Hp3->VK3->Prop:=fun ts H Q=>match ts with
 |[.ref a]=>match H a with
  |some (.lst xs)=>Q (.tup xs) H
  |some (.rol xs)=>Q (.tup xs) H
  |_=>False
 |[.tup xs]=>Q (.tup xs) H
 |_=>False
theorem bZ:cD X (.type "tuple") oO:=by
 refine CallR.imp lR ?_;rintro xs H Q ⟨ts,H3,Q3,r,sh,h,k⟩
 match ts,h,r with
 |[.ref a],h,r =>
  obtain⟨v,rfl,rv⟩:=r.one';have h':(match H3 a with
   |some (.lst xs)=>Q3 (.tup xs) H3
   |some (.rol xs)=>Q3 (.tup xs) H3
   |_=>False):=h
  split at h'
  ·rename_i us e;obtain⟨ys,sq,rs⟩:=sh.sqL (.inl e);exact⟨a,ys,by rw[rv.ref],.inl ⟨sq,fun l hl=>k _ _ _ _ (aO hl) (sh.new hl) (SimH.newTup (H3:=H3) hl rs) h'⟩⟩
  ·rename_i us e;obtain⟨ys,sq,rs⟩:=sh.sqL (.inr e);exact⟨a,ys,by rw[rv.ref],.inl ⟨sq,fun l hl=>k _ _ _ _ (aO hl) (sh.new hl) (SimH.newTup (H3:=H3) hl rs) h'⟩⟩
  exact h'.elim
 |[.tup us],h,r =>
 obtain⟨v,rfl,rv⟩:=r.one';obtain⟨a,ys,rfl,sq,rs⟩:=rv.tup;exact⟨a,ys,rfl,.inr ⟨sq,k _ _ _ _ .refl sh (.ofTup sq rs) h⟩⟩
def yS:List T->Hp3->VK3->Prop:=fun ts H Q=>match ts with
 |[.int i]=>Q (.int i) H
 |[.bl b]=>Q (.int (if b then 1 else 0)) H
 |_=>False
theorem oR:cD X (.type "int") yS:=by
 refine CallR.imp wC ?_;rintro xs H Q ⟨ts,H3,Q3,r,sh,h,k⟩
 match ts,h,r with
 |[.int i],h,r=>obtain⟨v,rfl,rv⟩:=r.one';exact .inl ⟨i,by rw[rv.int],k _ _ _ _ .refl sh .ofInt h⟩
 |[.bl b],h,r =>
 obtain⟨v,rfl,rv⟩:=r.one';exact .inr ⟨b,by rw[rv.bl],k _ _ _ _ .refl sh .ofInt h⟩
def Gz:List T->Hp3->VK3->Prop:=fun ts H Q=>match ts with
 |[.int i]=>i.natAbs.log2<1920/\Q (.str (toString i)) H
 |_=>False
theorem u9:cD X (.type "str") Gz:=by
 refine CallR.imp nU ?_;rintro xs H Q ⟨ts,H3,Q3,r,sh,h,k⟩
 match ts,h,r with
 |[.int i],h,r =>
 obtain⟨v,rfl,rv⟩:=r.one';exact⟨i,by rw[rv.int],h.1,k _ _ _ _ .refl sh .ofStr h.2⟩
def ints3:List T->Option (List Int)
 |[]=>some []
 |.int i::r=>(ints3 r).map (i::·)
 |_=>none
theorem mW:∀(ns:List Int),ints3 (ns.map T.int)=some ns
 |[]=>rfl
 |n::r=>by simp [ints3,mW r]
theorem kY {K:Frag}{H:Hp}:∀{ts:List T}{xs:List V}{us:List Value}{ns:List Int},ints3 ts=some ns->Reps K H ts xs->Vals xs us->IntsAre us ns
 |[],xs,us,ns,e,r,v=>by
  cases e
  rw[r.inv0] at v
  cases v
  exact .nil
 |.int i::l,xs,us,ns,e,r,v=>by
  obtain⟨x,xr,rfl,rx,rr⟩:=r.inv
  cases v with
  |cons a b =>
   rw[rx.int] at a
   obtain⟨t,rfl⟩:=a
   cases hl:ints3 l with
   |none=>simp [ints3,hl] at e
   |some ms =>
    simp [ints3,hl] at e
    subst e
    exact .cons _ _ (kY hl rr b)
 |.non::_,_,_,_,e,_,_=>by simp [ints3] at e
 |.bl _::_,_,_,_,e,_,_=>by simp [ints3] at e
 |.str _::_,_,_,_,e,_,_=>by simp [ints3] at e
 |.tup _::_,_,_,_,e,_,_=>by simp [ints3] at e
 |.ref _::_,_,_,_,e,_,_=>by simp [ints3] at e
 |.ty _::_,_,_,_,e,_,_=>by simp [ints3] at e
def GD:List T->Hp3->VK3->Prop:=fun ts H Q=>match ts with
 |[.ref a]=>match H a with
  |some (.lst xs)=>oq (ints3 xs) fun ns=>Q (.int ns.sum) H
  |some (.rol xs)=>oq (ints3 xs) fun ns=>Q (.int ns.sum) H
  |_=>False
 |_=>False
theorem Jl (hc:X.calm=true):cD X (.builtin "sum") GD:=by
 intro pins s U H xs us Q I rv h;obtain⟨ts,H3,Q3,r,sh,h,k⟩:=h
 match ts,h,r with
 |[.ref a],h,r =>
 obtain⟨v,rfl,rv'⟩:=r.one';obtain⟨u,rfl,ru⟩:=vals1 rv;rw[rv'.ref] at ru;cases ru;have main:∀{ls:List T} {ys:List V},SqL X.K H a ys->Reps X.K H ls ys->oq (ints3 ls) (fun ns=>Q3 (.int ns.sum) H3)->wpAny (model X.prog X.w) X.A (call (.builtin "sum") [.ref a]) (EP X pins U Q) X.xe s:=by
  intro ls ys sq rs q;cases e:ints3 ls with
  |none=>rw[e] at q;exact q.elim
  |some ns =>
  rw[e] at q;obtain⟨its,rvs,hl,_⟩:=I.list sq;have hi:=kY e rs rvs;have hall:AllInts its.toArray:=hi.allInts;obtain⟨zs,ez⟩:=hall.items;have hls:s.heap.IsList a (intItems zs):=by rw[<- ez];exact hl.isList
  refine sum_intListG (I.ok.hd hc) hls fun h' tk t' hk=>?_;have es:preSum (numAt zs) zs.size=ns.sum:=by have e1:=nums_intItems zs;rw[<- ez,show its.toArray.toList=its from rfl,hi.numsOf] at e1;rw[preSum_eq,List.take_of_length_le (by simp),<- e1]
  rw[es];exact⟨.int ns.sum,H,I.kept hk,⟨t',rfl⟩,k _ _ _ _ .refl sh .ofInt q⟩
 have h':(match H3 a with
  |some (.lst xs)=>oq (ints3 xs) fun ns=>Q3 (.int ns.sum) H3
  |some (.rol xs)=>oq (ints3 xs) fun ns=>Q3 (.int ns.sum) H3
  |_=>False):=h
 split at h'
 ·rename_i ls e;obtain⟨ys,sq,rs⟩:=sh.sqL (.inl e);exact main sq rs h'
 ·rename_i ls e;obtain⟨ys,sq,rs⟩:=sh.sqL (.inr e);exact main sq rs h'
 exact h'.elim
def isT (n:String):T->Hp3->Option Bool:=fun x H=>match x with
 |.non=>some (n=="NoneType")
 |.bl _=>some (n=="bool"||n=="int")
 |.int _=>some (n=="int")
 |.str _=>some (n=="str")
 |.tup _=>some (n=="tuple")
 |.ref a=>match H a with
  |some (.lst _)=>some (n=="list")
  |some (.dct _)=>some (n=="dict")
  |_=>none
 |.ty _=>none
def kZ:List T->Hp3->VK3->Prop:=fun ts H Q=>match ts with
 |[x,.ty n]=>(n="str"\/n="int"\/n="bool"\/n="tuple"\/n="list")/\oq (isT n x H) fun b=>Q (.bl b) H
 |_=>False
theorem gk (K:Frag) (a b:String) (ha:a="NoneType"\/a="bool"\/a="int"\/a="str"\/a="tuple"\/a="list"\/a="dict") (hb:b="str"\/b="int"\/b="bool"\/b="tuple"\/b="list") :
  kitOne K (.type a) (.type b)=some (a==b||(a=="bool"&&b=="int")):=by
 rcases ha with rfl | rfl | rfl | rfl | rfl | rfl | rfl <;> rcases hb with rfl | rfl | rfl | rfl | rfl <;> rfl
theorem gm:cD X (.builtin "isinstance") kZ:=by
 intro pins s U H xs us Q I rv h;obtain⟨ts,H3,Q3,r,sh,h,k⟩:=h
 match ts,h,r with
 |[x,.ty n],h,r =>
 obtain⟨v,w,rfl,r1,r2⟩:=r.two';obtain⟨u1,u2,rfl,q1,q2⟩:=vals2 rv;rw[r2.ty] at q2;cases q2;obtain⟨hn,h⟩:=h;have fin:∀{b:Bool},Q3 (.bl b) H3->∀tk,EP X pins U Q (.bool b) { s with toks:=tk}:=fun q tk=>⟨.bl _,H,I.tok tk,rfl,k _ _ _ _ .refl sh .ofBl q⟩;cases x with
 |non=>exact cY I q1 (by rw[r1.non];exact .non) (gk X.K "NoneType" n (by simp) hn) (fin (by rcases hn with rfl | rfl | rfl | rfl | rfl <;> exact h))
 |bl b=>exact cY I q1 (by rw[r1.bl];exact .bl b) (gk X.K "bool" n (by simp) hn) (fin (by rcases hn with rfl | rfl | rfl | rfl | rfl <;> exact h))
 |int i=>exact cY I q1 (by rw[r1.int];exact .int i) (gk X.K "int" n (by simp) hn) (fin (by rcases hn with rfl | rfl | rfl | rfl | rfl <;> exact h))
 |str z=>exact cY I q1 (by rw[r1.str];exact .str z) (gk X.K "str" n (by simp) hn) (fin (by rcases hn with rfl | rfl | rfl | rfl | rfl <;> exact h))
 |tup us=>obtain⟨a,ys,rfl,sq,rs⟩:=r1.tup;cases q1;obtain⟨its,_,⟨o,h1,h2,_⟩,_⟩:=I.tuple sq;exact kia_one kitx_tuple I.kIn ⟨o,h1,h2⟩ (gk X.K "tuple" n (by simp) hn) (fun z=>nomatch z) (fin (by rcases hn with rfl | rfl | rfl | rfl | rfl <;> exact h))
 |ref a =>
  have h':oq (match H3 a with
   |some (.lst _)=>some (n=="list")
   |some (.dct _)=>some (n=="dict")
   |_=>none) fun b=>Q3 (.bl b) H3:=h
  rw[r1.ref] at q1
  cases e:H3 a with
  |none=>rw[e] at h';exact h'.elim
  |some o =>
   rw[e] at h'
   cases o with
   |lst ls =>
    obtain⟨zs,hH,_⟩:=sh a _ e
    exact cY I q1 (.lst hH) (gk X.K "list" n (by simp) hn) (fin (by rcases hn with rfl | rfl | rfl | rfl | rfl <;> exact h'))
   |dct ls =>
    obtain⟨zs,hH,_⟩:=sh a _ e
    exact cY I q1 (.dK hH) (gk X.K "dict" n (by simp) hn) (fin (by rcases hn with rfl | rfl | rfl | rfl | rfl <;> exact h'))
   |rol ls=>exact h'.elim
   |dcp ls=>exact h'.elim
   |exc _ _=>exact h'.elim
   |xdt _=>exact h'.elim
 |ty m=>exact h.elim
variable {o:Expr}{to:TE3}{name:Str}{apos cpos:Pos}{m:T->List T->Hp3->VK3->Prop}
def ty3 (Ty:String):T->Hp3->Prop:=fun x H=>match x with
 |.str _=>Ty="str"
 |.tup _=>Ty="tuple"
 |.ref a=>Ty="list"/\match H a with
  |some (.lst _)=>True
  |some (.rol _)=>True
  |_=>False
 |_=>False
theorem M4 {K:Frag}{H:Hp}{H3:Hp3}{t:T}{v:V}(sh:SimH K H3 H) (r:Rep K H t v) (h:ty3 Ty t H3):tyV K Ty v H:=by
 cases t with
 |str z=>rw[r.str];exact h
 |tup ts=>obtain⟨a,xs,rfl,sq,_⟩:=r.tup;exact .inr (.inl ⟨h,xs,sq⟩)
 |ref a =>
  rw[r.ref];refine .inl ⟨h.1,?_⟩;have h2:=h.2;cases e:H3 a with
  |none=>rw[e] at h2;exact h2.elim
  |some o =>
  rw[e] at h2;cases o with
  |lst ts=>obtain⟨xs,sq,_⟩:=sh.sqL (.inl e);exact⟨xs,sq⟩
  |rol ts=>obtain⟨xs,sq,_⟩:=sh.sqL (.inr e);exact⟨xs,sq⟩
  |dct _=>exact h2.elim
  |dcp _=>exact h2.elim
  |exc _ _=>exact h2.elim
  |xdt _=>exact h2.elim
 |_=>exact h.elim
def Jm (Ty:String) (m:T->List T->Hp3->VK3->Prop) (to:TE3) (t:TA3):TE3:=fun U H Q=>to U H fun x H1=>ty3 Ty x H1/\t U H1 fun xs H2=>m x xs H2 Q
theorem cU (pa:PlainAttrs Ty) (slot:Slot Ty name id) (hty:typeOf (.builtin id)=pure (.type "method_descriptor")) (hm:wM X id m) (ho:PE3 X o to) (ha:PA3 X (e::es) t)
  (hbase:attributeBase o name X.env (eval o X.env)=eval o X.env:=by rfl)
  (hfew:((backTo cpos (starEach (e::es) X.env)).all (fun x=>!x.1)&&(backToKw cpos (keywordEach [] X.env)).all (fun x=>x.1.isSome)
   && decide ((e::es).length+([]:List Keyword).length+(if ([]:List Keyword).isEmpty then 0 else 1)<30))=true:=by rfl)
  (hline:(apos.endLine==cpos.line)=true:=by rfl) (hs:starEach (e::es) X.env=(false,eval e X.env)::starEach es X.env:=by rfl) (hplain:(backTo cpos (starEach es X.env)).any (·.1)=false:=by rfl) :
  PE3 X (.Call (.Attribute o name apos) (e::es) [] cpos) (Jm Ty m to t):=by
 refine PE.imp (Mv pa slot hty hm ho ha hbase hfew hline hs hplain) ?_;rintro U H Q ⟨U3,H3,Q3,ss,sh,h,k⟩;exact⟨U3,H3,_,ss,sh,h,fun x H1 tx H31 le1 sh1 rx q1=>⟨M4 sh1 rx q1.1,U3,H31,_,ss.mono le1,sh1,q1.2,fun vs H2 ts H32 le2 sh2 rs q2=>⟨tx,ts,H32,Q3,rx.mono le2,rs,sh2,q2,k.at (le1.trans le2)⟩⟩⟩
def GF:T->List T->Hp3->VK3->Prop:=fun x ts H Q=>match x,ts with
 |.ref a,[t]=>match H a with
  |some (.lst xs)=>xs.length<sizeLine/\Q .non (up3 H a (.lst (xs++[t])))
  |_=>False
 |_,_=>False
theorem dF:wM X "list.append" GF:=by
 refine MtR.imp wG ?_;rintro x xs H Q ⟨tx,ts,H3,Q3,rx,rs,sh,h,k⟩
 match tx,ts,h,rx,rs with
 |.ref a,[t],h,rx,rs =>
 obtain⟨v,rfl,rv⟩:=rs.one';have h':(match H3 a with
  |some (.lst xs)=>xs.length<sizeLine/\Q3 .non (up3 H3 a (.lst (xs++[t])))
  |_=>False):=h
 split at h'
 ·rename_i ls e;obtain⟨ys,hH,r⟩:=sh a _ e;exact⟨a,ys,v,rx.ref,rfl,hH,by rw[<- r.length];exact h'.1,k _ _ _ _ (di (by rw[hH];exact trivial)) (sh.wrL hH (r.append (.cons rv .nil))) .ofNon h'.2⟩
 exact h'.elim
def M5:T->List T->Hp3->VK3->Prop:=fun x ts H Q=>match x,ts with
 |.ref a,[.ref b]=>match H a,H b with
  |some (.lst xs),some (.lst ys)=>xs.length+ys.length<=sizeLine/\Q .non (up3 H a (.lst (xs++ys)))
  |_,_=>False
 |_,_=>False
def vd:T->List T->Hp3->VK3->Prop:=fun x ts H Q=>match x,ts with
 |.ref a,[.int i]=>match H a with
  |some (.lst xs)=>oq (ixN xs.length i) fun j=>oq (xs[j]?) fun t=>Q t (up3 H a (.lst (xs.eraseIdx j)))
  |_=>False
 |_,_=>False
theorem yU:wM X "list.pop" vd:=by
 intro pins s U H x xs v us Q I rx0 rs0 hh;obtain⟨tx,ts,H3,Q3,rx,rs,sh,h,k⟩:=hh;refine yc pins s U H x xs v us Q I rx0 rs0 ?_
 match tx,ts,h,rx,rs with
 |.ref a,[.int i],h,rx,rs =>
 obtain⟨w,rfl,rv⟩:=rs.one';have h':(match H3 a with
  |some (.lst xs)=>oq (ixN xs.length i) fun j=>oq (xs[j]?) fun t=>Q3 t (up3 H3 a (.lst (xs.eraseIdx j)))
  |_=>False):=h
 split at h'
 ·rename_i ls e;obtain⟨ys,hH,r⟩:=sh a _ e;have hz:=(I.lstM hH).1;cases ej:ixN ls.length i with
  |none=>rw[ej] at h';exact h'.elim
  |some j =>
  rw[ej] at h';cases et:ls[j]? with
  |none=>simp only[oq,et] at h'
  |some t =>
   have h2:Q3 t (up3 H3 a (.lst (ls.eraseIdx j))):=by simpa only[oq,et] using h'
   obtain⟨g1,g2,g3,g4⟩:=nY ej
   obtain⟨y,ey,ry⟩:=r.get et
   have hl:=r.length
   have hb:=fZ
   have le:TupLe X.K H (upd H a (.lst (ys.eraseIdx j))):=di (by rw[hH];exact trivial)
   exact⟨a,ys,i,j,y,rx.ref,by rw[rv.int],hH,by omega,by omega,by rw[<- hl];exact g1,ey,k _ _ _ _ le (sh.wrL hH (r.eraseIdx j)) (ry.mono le) h2⟩
 exact h'.elim
def bL:List T->Option (List Str)
 |[]=>some []
 |.str x::r=>(bL r).map (x::·)
 |_=>none
theorem cG:∀(ns:List Str),bL (ns.map T.str)=some ns
 |[]=>rfl
 |n::r=>by simp [bL,cG r]
theorem gH {K:Frag}{H:Hp}:∀{ts:List T}{xs:List V}{us:List Value}{ns:List Str},bL ts=some ns->Reps K H ts xs->Vals xs us->StrsAre us ns
 |[],xs,us,ns,e,r,v=>by
  cases e
  rw[r.inv0] at v
  cases v
  exact .nil
 |.str i::l,xs,us,ns,e,r,v=>by
  obtain⟨x,xr,rfl,rx,rr⟩:=r.inv
  cases v with
  |cons a b =>
   rw[rx.str] at a
   obtain⟨t,rfl⟩:=a
   cases hl:bL l with
   |none=>simp [bL,hl] at e
   |some ms =>
    simp [bL,hl] at e
    subst e
    exact .cons _ _ (gH hl rr b)
 |.non::_,_,_,_,e,_,_=>by simp [bL] at e
 |.bl _::_,_,_,_,e,_,_=>by simp [bL] at e
 |.int _::_,_,_,_,e,_,_=>by simp [bL] at e
 |.tup _::_,_,_,_,e,_,_=>by simp [bL] at e
 |.ref _::_,_,_,_,e,_,_=>by simp [bL] at e
 |.ty _::_,_,_,_,e,_,_=>by simp [bL] at e
def jOk (z:Str) (ys:List Str):Prop:=(ys.map (·.length)).sum+ys.length*z.length<=16777216
def tO:T->List T->Hp3->VK3->Prop:=fun x ts H Q=>match x,ts with
 |.str z,[.ref a]=>match H a with
  |some (.lst xs)=>oq (bL xs) fun ys=>jOk z ys/\Q (.str (Txt.join z ys)) H
  |some (.rol xs)=>oq (bL xs) fun ys=>jOk z ys/\Q (.str (Txt.join z ys)) H
  |_=>False
 |.str z,[.tup xs]=>oq (bL xs) fun ys=>jOk z ys/\Q (.str (Txt.join z ys)) H
 |_,_=>False
theorem dW:wM X "str.join" tO:=by
 intro pins s U H x xs v us Q I rx0 rs0 hh;obtain⟨tx,ts,H3,Q3,rx,rs,sh,h,k⟩:=hh;have fin:∀{y:Str},Q3 (.str y) H3->∀t' kk,EP X pins U Q (.str y t') { s with toks:=kk}:=fun q t' kk=>⟨.str _,H,I.tok kk,⟨t',rfl⟩,k _ _ _ _ .refl sh .ofStr q⟩
 match tx,ts,h,rx,rs with
 |.str z,[.ref a],h,rx,rs =>
  obtain⟨w,rfl,rv⟩:=rs.one';obtain⟨u,rfl,ru⟩:=vals1 rs0;rw[rv.ref] at ru;cases ru;rw[rx.str] at rx0;obtain⟨t,rfl⟩:=rx0;have main:∀{ls:List T} {ys:List V},SqL X.K H a ys->Reps X.K H ls ys->oq (bL ls) (fun ys=>jOk z ys/\Q3 (.str (Txt.join z ys)) H3)->wpAny (model X.prog X.w) X.A (call (.builtin "str.join") [.str z t,.ref a]) (EP X pins U Q) X.xe s:=by
   intro ls ys sq r q;cases e:bL ls with
   |none=>rw[e] at q;exact q.elim
   |some zs =>
   rw[e] at q;obtain⟨its,rvs,hl,_⟩:=I.list sq;exact join_list hl.isList (gH e r rvs) q.1 (fin q.2)
  have h':(match H3 a with
   |some (.lst xs)=>oq (bL xs) fun ys=>jOk z ys/\Q3 (.str (Txt.join z ys)) H3
   |some (.rol xs)=>oq (bL xs) fun ys=>jOk z ys/\Q3 (.str (Txt.join z ys)) H3
   |_=>False):=h
  split at h'
  ·rename_i ls e;obtain⟨ys,sq,r⟩:=sh.sqL (.inl e);exact main sq r h'
  ·rename_i ls e;obtain⟨ys,sq,r⟩:=sh.sqL (.inr e);exact main sq r h'
  exact h'.elim
 |.str z,[.tup ls],h,rx,rs =>
 obtain⟨w,rfl,rv⟩:=rs.one';obtain⟨u,rfl,ru⟩:=vals1 rs0;obtain⟨a,ys,rfl,sq,r⟩:=rv.tup;cases ru;rw[rx.str] at rx0;obtain⟨t,rfl⟩:=rx0;have q:oq (bL ls) (fun ys=>jOk z ys/\Q3 (.str (Txt.join z ys)) H3):=h;cases e:bL ls with
 |none=>rw[e] at q;exact q.elim
 |some zs =>
 rw[e] at q;obtain⟨its,rvs,hl,_⟩:=I.tuple sq;exact join_tuple hl (gH e r rvs) q.1 (fin q.2)
def oU:T->List T->Hp3->VK3->Prop:=fun x ts H Q=>match x,ts with
 |.str z,[.str y]=>match Builtin.Str.occurrences z y 0 z.length 1 with
  |i::_=>Q (.int i) H
  |[]=>False
 |_,_=>False
theorem yV:wM X "str.index" oU:=by
 intro pins s U H x xs v us Q I rx0 rs0 hh;obtain⟨tx,ts,H3,Q3,rx,rs,sh,h,k⟩:=hh
 match tx,ts,h,rx,rs with
 |.str z,[.str y],h,rx,rs =>
 obtain⟨w,rfl,rv⟩:=rs.one';obtain⟨u,rfl,ru⟩:=vals1 rs0;rw[rv.str] at ru;obtain⟨t',rfl⟩:=ru;rw[rx.str] at rx0;obtain⟨t,rfl⟩:=rx0;have h':(match Builtin.Str.occurrences z y 0 z.length 1 with
  |i::_=>Q3 (.int i) H3
  |[]=>False):=h
 split at h'
 ·rename_i i rest e;exact SC.index e ⟨.int i,H,I.tok _,⟨_,rfl⟩,k _ _ _ _ .refl sh .ofInt h'⟩
 exact h'.elim
end
def compLook (n0:List (Str × NameKind)) (N:List Str) (kind:Bool) (names:List (Str × NameKind)) (N':List Str) (nt:Nat) (cap:List Nat):Bool :=
 kind&&names.all (fun y=>y.2 != .cell||names.lookup y.1==some .cell)&&names.all (fun x=>x.2 != .local||names.lookup x.1==some .local)&&names.all (fun y=>y.2 != .free||n0.lookup y.1==some .cell||n0.lookup y.1==some .free)
  && N'.length==nt+cap.length&&(List.range cap.length).all fun j=>match N'[nt+j]?,cap[j]? with
   |some x,some i=>N[i]?==some x&&names.lookup x==some .free
   |_,_=>false
theorem dq {X:Cx}{N':List Str}{nt:Nat}{cap:List Nat}{scope:Scope}{n0:List (Str × NameKind)}{N:List Str}(h0:X.env.scope.names=n0) (hN:X.N=N)
  (h:compLook n0 N (scope.kind==.function) scope.names N' nt cap=true):CompSc X N' nt cap scope:=by
 unfold compLook at h;simp only[Bool.and_eq_true,List.all_eq_true,beq_iff_eq,bne_iff_ne,Bool.or_eq_true,List.mem_range] at h;obtain⟨⟨⟨⟨⟨h1,h2⟩,h3⟩,h4⟩,h5⟩,h6⟩:=h;refine⟨h1,fun y hy e=>(h2 y hy).resolve_left fun z=>z e,fun x hx e=>(h3 x hx).resolve_left fun z=>z e,fun y hy e=>?_,h5,fun j x e=>?_⟩
 ·show X.env.scope.names.lookup y.1=_\/X.env.scope.names.lookup y.1=_;rw[h0];rcases h4 y hy with (z | z) | z
  ·exact absurd e z
  ·exact .inl z
  exact .inr z
 have hj:j<cap.length:=by have:=(List.getElem?_eq_some_iff.mp e).1;omega
 have q:=h6 j hj;rw[e] at q;cases ec:cap[j]? with
 |none=>rw[ec] at q;cases q
 |some i =>
 rw[ec] at q;simp only[Bool.and_eq_true,beq_iff_eq] at q;exact⟨i,rfl,by rw[hN];exact q.1,q.2⟩
structure G3 (K:Frag) (mg:Str->Option Value) (x:Str) (st:Stmt) (ps:List Str) (f:Addr) (fd:FuncData):Prop where
 fn:Fun K x x st f fd
 b:Binds K fd ps []
 m:mg x=some (.ref f)
structure Bl (mg:Str->Option Value):Prop where
 len_:mg "len"=none
 sum_:mg "sum"=none
 isinstance_:mg "isinstance"=none
 all_:mg "all"=none
 any_:mg "any"=none
 list_:mg "list"=none
 tuple_:mg "tuple"=none
 int_:mg "int"=none
 str_:mg "str"=none
 bool_:mg "bool"=none
 range_:mg "range"=none
 zip_:mg "zip"=none
 reversed_:mg "reversed"=none
 enumerate_:mg "enumerate"=none
 set_:mg "set"=none
 sorted_:mg "sorted"=none
 min_:mg "min"=none
 max_:mg "max"=none
 dict_:mg "dict"=none
 repr_:mg "repr"=none
theorem bW:bootBuiltins "len"=some (.builtin "len"):=by decide +kernel
theorem Jo:bootBuiltins "sum"=some (.builtin "sum"):=by decide +kernel
theorem aQ:bootBuiltins "isinstance"=some (.builtin "isinstance"):=by decide +kernel
theorem oV:bootBuiltins "all"=some (.builtin "all"):=by decide +kernel
theorem vf:bootBuiltins "list"=some (.type "list"):=by decide +kernel
theorem bQ:bootBuiltins "tuple"=some (.type "tuple"):=by decide +kernel
theorem lq:bootBuiltins "int"=some (.type "int"):=by decide +kernel
theorem lw:bootBuiltins "str"=some (.type "str"):=by decide +kernel
theorem Du:bootBuiltins "bool"=some (.type "bool"):=by decide +kernel
theorem Room.u30 {k:Nat}{A:Around}(r:Room k A):A.units+30<cLine:=by have:=r.un;omega
theorem Room.u31 {k:Nat}{A:Around}(r:Room k A):A.units+31<cLine:=by have:=r.un;omega
theorem Room.u1 {k:Nat}{A:Around}(r:Room k A):A.units+1<cLine:=by have:=r.un;omega
section
variable {H:Hp3}{Q:VK3}{U:St3}
def vq (o:Option (Option T)) (Q:T->Prop):Prop:=match o with
 |some (some t)=>Q t
 |_=>False
theorem M6 (t:T) (Q:T->Prop):vq (some (some t)) Q=Q t:=rfl
theorem GJ (i:Nat):fV i U H Q=vq (U[i]?) fun t=>Q t H:=rfl
def bq (x:T) (Q:Bool->Prop):Prop:=match x with
 |.bl k=>Q k
 |_=>False
theorem Qv (b:Bool) (Q:Bool->Prop):bq (.bl b) Q=Q b:=rfl
theorem Jp (t:TE3) (Q:Bool->Hp3->Prop):km t U H Q=t U H fun x H'=>bq x fun k=>Q k H':=rfl
theorem Dv (r r':R3) (ta tb tc:TE3):jP r r' ta tb tc U H Q=ta U H fun x H1=>tb U H1 fun y H2=>r x y H2 fun z H3=>bq z fun k=>if k=true then tc U H3 fun w H4=>r' y w H4 Q else Q (.bl false) H3:=rfl
theorem Jq (ta tb:TE3):yr ta tb U H Q=ta U H fun x H1=>bq x fun c=>if c=true then tb U H1 Q else Q (.bl false) H1:=rfl
theorem M7 (ta tb:TE3):MT ta tb U H Q=ta U H fun x H1=>bq x fun c=>if c=true then Q (.bl true) H1 else tb U H1 Q:=rfl
theorem Jr (ta:TE3):yt ta U H Q=ta U H fun x H1=>bq x fun c=>Q (.bl (!c)) H1:=rfl
theorem eF {α:Type}(v:α) (Q:α->Prop):oq (some v) Q=Q v:=rfl
theorem q_I (C:Int->Int->Prop) (g:Int->Int->T) (i j:Int):rI3 C g (.int i) (.int j) H Q=(C i j/\Q (g i j) H):=rfl
theorem Qw (g:Int->Int->T) (i j:Int):tH g (.int i) (.int j) H Q=Q (g i j) H:=rfl
theorem tQ (i j:Int):jz (.int i) (.int j) H Q=Q (.int (i+j)) H:=rfl
theorem oW (i j:Str):jz (.str i) (.str j) H Q=(i.length+j.length<=sizeLine/\Q (.str (i++j)) H):=rfl
theorem yW (xs ys:List T):jz (.tup xs) (.tup ys) H Q=(xs.length+ys.length<=sizeLine/\Q (.tup (xs++ys)) H):=rfl
def yX (o u:Option O3) (H:Hp3) (Q:VK3):Prop:=match o,u with
 |some (.lst xs),some (.lst ys)=>xs.length+ys.length<=sizeLine/\∀p,H p=none->Q (.ref p) (up3 H p (.lst (xs++ys)))
 |_,_=>False
theorem jg (a b:Addr):jz (.ref a) (.ref b) H Q=yX (H a) (H b) H Q:=rfl
theorem jh (xs ys:List T):yX (some (.lst xs)) (some (.lst ys)) H Q=(xs.length+ys.length<=sizeLine/\∀p,H p=none->Q (.ref p) (up3 H p (.lst (xs++ys)))):=rfl
theorem M8 (n:Bool) (i j:Int):tK n (.int i) (.int j) H Q=Q (.bl (if n then !decide (i=j) else decide (i=j))) H:=rfl
theorem M9 (n:Bool) (i j:Str):tK n (.str i) (.str j) H Q=Q (.bl (if n then !decide (i=j) else decide (i=j))) H:=rfl
theorem Nb (n:Bool) (i j:Bool):tK n (.bl i) (.bl j) H Q=Q (.bl (if n then !decide (i=j) else decide (i=j))) H:=rfl
theorem Nf (n:Bool) (xs ys:List T):tK n (.tup xs) (.tup ys) H Q=(xs.all (pl 20)=true/\ys.all (pl 20)=true/\Q (.bl (if n then !decide (xs=ys) else decide (xs=ys))) H):=rfl
def eqH (n:Bool) (a b:Addr) (o u:Option O3) (H:Hp3) (Q:VK3):Prop:=match o,u with
 |some (.lst xs),some (.lst ys)=>a≠b/\xs.all (pl 20)=true/\ys.all (pl 20)=true/\Q (.bl (if n then !@decide (xs=ys) (instDecidableEqList xs ys) else @decide (xs=ys) (instDecidableEqList xs ys))) H
 |_,_=>False
theorem Ng (n:Bool) (a b:Addr):tK n (.ref a) (.ref b) H Q=eqH n a b (H a) (H b) H Q:=rfl
theorem GK (n:Bool) (a b:Addr) (xs ys:List T):eqH n a b (some (.lst xs)) (some (.lst ys)) H Q=(a≠b/\xs.all (pl 20)=true/\ys.all (pl 20)=true/\Q (.bl (if n then !decide (xs=ys) else decide (xs=ys))) H):=rfl
theorem Nh (n:Bool) (x:T) (ts:List T):wN n x (.tup ts) H Q=(pl 20 x=true/\ts.all (pl 20)=true/\Q (.bl (cV n x ts)) H):=rfl
theorem Ni (n:Bool) (i j:Str):wN n (.str i) (.str j) H Q=Q (.bl (occ n i j)) H:=rfl
def inH (n:Bool) (x:T) (o:Option O3) (H:Hp3) (Q:VK3):Prop:=match o with
 |some (.lst ts)=>pl 20 x=true/\ts.all (pl 20)=true/\Q (.bl (cV n x ts)) H
 |some (.rol ts)=>pl 20 x=true/\ts.all (pl 20)=true/\Q (.bl (cV n x ts)) H
 |_=>False
theorem Nj (n:Bool) (x:T) (a:Addr):wN n x (.ref a) H Q=inH n x (H a) H Q:=rfl
theorem Nk (n:Bool) (x:T) (ts:List T):inH n x (some (.lst ts)) H Q=(pl 20 x=true/\ts.all (pl 20)=true/\Q (.bl (cV n x ts)) H):=rfl
def ixH (o:Option O3) (i:Int) (H:Hp3) (Q:VK3):Prop:=match o with
 |some (.lst ts)=>oq (atI ts i) fun t=>Q t H
 |some (.rol ts)=>oq (atI ts i) fun t=>Q t H
 |_=>False
theorem GP (a:Addr) (i:Int):wO (.ref a) (.int i) H Q=ixH (H a) i H Q:=rfl
theorem fW (ts:List T) (i:Int):ixH (some (.lst ts)) i H Q=oq (atI ts i) fun t=>Q t H:=rfl
theorem Nm (ts:List T) (i:Int):wO (.tup ts) (.int i) H Q=oq (atI ts i) fun t=>Q t H:=rfl
theorem Np (z:Str) (i:Int):wO (.str z) (.int i) H Q=(z.length<=sizeLine/\oq (atI z.cps.toList i) fun c=>Q (.str ⟨#[c]⟩) H):=rfl
def stH (o:Option O3) (a:Addr) (k:Int) (v:T) (H:Hp3) (Q:Hp3->Prop):Prop:=match o with
 |some (.lst ts)=>oq (ixN ts.length k) fun j=>Q (up3 H a (.lst (ts.set j v)))
 |_=>False
theorem Js (a:Addr) (k:Int) (v:T) (Q:Hp3->Prop):yO (.ref a) (.int k) v H Q=stH (H a) a k v H Q:=rfl
theorem Nq (ts:List T) (a:Addr) (k:Int) (v:T) (Q:Hp3->Prop):stH (some (.lst ts)) a k v H Q=oq (ixN ts.length k) fun j=>Q (up3 H a (.lst (ts.set j v))):=rfl
def pq (x:T) (Q:Option Int->Prop):Prop:=match x with
 |.int i=>Q (some i)
 |_=>False
theorem Jt (i:Int) (Q:Option Int->Prop):pq (.int i) Q=Q (some i):=rfl
theorem Ju (t:TE3) (Q:Option Int->Hp3->Prop):tL t U H Q=t U H fun x H1=>pq x fun o=>Q o H1:=rfl
def slH (o:Option O3) (lo hi:Option Int) (H:Hp3) (Q:VK3):Prop:=match o with
 |some (.lst ts)=>∀p,H p=none->Q (.ref p) (up3 H p (.lst (cj ts lo hi)))
 |some (.rol ts)=>∀p,H p=none->Q (.ref p) (up3 H p (.lst (cj ts lo hi)))
 |_=>False
theorem Nr (a:Addr) (lo hi:Option Int):Dp (.ref a) lo hi H Q=slH (H a) lo hi H Q:=rfl
theorem yZ (ts:List T) (lo hi:Option Int):slH (some (.lst ts)) lo hi H Q=∀p,H p=none->Q (.ref p) (up3 H p (.lst (cj ts lo hi))):=rfl
theorem Jv (ts:List T) (lo hi:Option Int):slH (some (.rol ts)) lo hi H Q=∀p,H p=none->Q (.ref p) (up3 H p (.lst (cj ts lo hi))):=rfl
theorem Nt (ts:List T) (lo hi:Option Int):Dp (.tup ts) lo hi H Q=(¬(HT.sIx ts.length 0 lo=0/\HT.sIx ts.length ts.length hi=ts.length)/\Q (.tup (cj ts lo hi)) H):=rfl
theorem za (z:Str) (lo hi:Option Int):Dp (.str z) lo hi H Q=(z.length<=sizeLine/\Q (.str (Txt.slice z lo hi)) H):=rfl
def dgH (o:Option O3) (k:Str) (H:Hp3) (Q:VK3):Prop:=match o with
 |some (.dct kvs)=>oq (cB k kvs) fun t=>Q t H
 |_=>False
theorem q_D (a:Addr) (k:Str):r3D (.ref a) (.str k) H Q=dgH (H a) k H Q:=rfl
theorem Nu (kvs:List (Str × T)) (k:Str):dgH (some (.dct kvs)) k H Q=oq (cB k kvs) fun t=>Q t H:=rfl
def dpH (x y v:T) (H:Hp3) (Q:Hp3->Prop):Prop:=match x,y with
 |.ref a,.str k=>match H a with
  |some (.dct kvs)=>kvs.length<sizeLine/\Q (up3 H a (.dct (put3 k v kvs)))
  |_=>False
 |_,_=>False
def dpO (o:Option O3) (a:Addr) (k:Str) (v:T) (H:Hp3) (Q:Hp3->Prop):Prop:=match o with
 |some (.dct kvs)=>kvs.length<sizeLine/\Q (up3 H a (.dct (put3 k v kvs)))
 |_=>False
theorem Jw (td ty tv:TE3) (D:Ends3):yP td ty tv D U H=tv U H fun v H1=>td U H1 fun x H2=>ty U H2 fun y H3=>dpH x y v H3 fun H4=>D.nx U H4:=rfl
theorem Nv (a:Addr) (k:Str) (v:T) (Q:Hp3->Prop):dpH (.ref a) (.str k) v H Q=dpO (H a) a k v H Q:=rfl
theorem Nx (kvs:List (Str × T)) (a:Addr) (k:Str) (v:T) (Q:Hp3->Prop):dpO (some (.dct kvs)) a k v H Q=(kvs.length<sizeLine/\Q (up3 H a (.dct (put3 k v kvs)))):=rfl
def lnH (o:Option O3) (H:Hp3) (Q:VK3):Prop:=match o with
 |some (.lst xs)=>Q (.int xs.length) H
 |some (.rol xs)=>Q (.int xs.length) H
 |_=>False
theorem Jx (a:Addr):uZ [.ref a] H Q=lnH (H a) H Q:=rfl
theorem Ny (xs:List T):lnH (some (.lst xs)) H Q=Q (.int xs.length) H:=rfl
theorem Jy (xs:List T):uZ [.tup xs] H Q=Q (.int xs.length) H:=rfl
theorem zc (z:Str):uZ [.str z] H Q=(z.length<=sizeLine/\Q (.int z.length) H):=rfl
def liH (o:Option O3) (H:Hp3) (Q:VK3):Prop:=match o with
 |some (.lst xs)=>∀p,H p=none->Q (.ref p) (up3 H p (.lst xs))
 |some (.rol xs)=>∀p,H p=none->Q (.ref p) (up3 H p (.lst xs))
 |_=>False
theorem Dw (a:Addr):tM [.ref a] H Q=liH (H a) H Q:=rfl
theorem Nz (xs:List T):liH (some (.lst xs)) H Q=∀p,H p=none->Q (.ref p) (up3 H p (.lst xs)):=rfl
theorem Dy (xs:List T):tM [.tup xs] H Q=∀p,H p=none->Q (.ref p) (up3 H p (.lst xs)):=rfl
def tpH (o:Option O3) (H:Hp3) (Q:VK3):Prop:=match o with
 |some (.lst xs)=>Q (.tup xs) H
 |some (.rol xs)=>Q (.tup xs) H
 |_=>False
theorem Jz (a:Addr):oO [.ref a] H Q=tpH (H a) H Q:=rfl
theorem NB (xs:List T):tpH (some (.lst xs)) H Q=Q (.tup xs) H:=rfl
theorem JB (xs:List T):oO [.tup xs] H Q=Q (.tup xs) H:=rfl
theorem JC (i:Int):yS [.int i] H Q=Q (.int i) H:=rfl
theorem JD (b:Bool):yS [.bl b] H Q=Q (.int (if b then 1 else 0)) H:=rfl
theorem JF (i:Int):Gz [.int i] H Q=(i.natAbs.log2<1920/\Q (.str (toString i)) H):=rfl
def smH (o:Option O3) (H:Hp3) (Q:VK3):Prop:=match o with
 |some (.lst xs)=>oq (ints3 xs) fun ns=>Q (.int ns.sum) H
 |some (.rol xs)=>oq (ints3 xs) fun ns=>Q (.int ns.sum) H
 |_=>False
theorem JG (a:Addr):GD [.ref a] H Q=smH (H a) H Q:=rfl
theorem NK (xs:List T):smH (some (.lst xs)) H Q=oq (ints3 xs) fun ns=>Q (.int ns.sum) H:=rfl
theorem qL (x:T) (n:String):kZ [x,.ty n] H Q=((n="str"\/n="int"\/n="bool"\/n="tuple"\/n="list")/\oq (isT n x H) fun b=>Q (.bl b) H):=rfl
theorem NP (Ty:String) (z:Str):ty3 Ty (.str z) H=(Ty="str"):=rfl
def tyH (o:Option O3):Prop:=match o with
 |some (.lst _)=>True
 |some (.rol _)=>True
 |_=>False
theorem NQ (Ty:String) (a:Addr):ty3 Ty (.ref a) H=(Ty="list"/\tyH (H a)):=rfl
theorem NT (xs:List T):tyH (some (.lst xs))=True:=rfl
def apH (o:Option O3) (a:Addr) (t:T) (H:Hp3) (Q:VK3):Prop:=match o with
 |some (.lst xs)=>xs.length<sizeLine/\Q .non (up3 H a (.lst (xs++[t])))
 |_=>False
theorem NZ (a:Addr) (t:T):GF (.ref a) [t] H Q=apH (H a) a t H Q:=rfl
theorem GQ (xs:List T) (a:Addr) (t:T):apH (some (.lst xs)) a t H Q=(xs.length<sizeLine/\Q .non (up3 H a (.lst (xs++[t])))):=rfl
def exH (o u:Option O3) (a:Addr) (H:Hp3) (Q:VK3):Prop:=match o,u with
 |some (.lst xs),some (.lst ys)=>xs.length+ys.length<=sizeLine/\Q .non (up3 H a (.lst (xs++ys)))
 |_,_=>False
theorem N5 (a b:Addr):M5 (.ref a) [.ref b] H Q=exH (H a) (H b) a H Q:=rfl
theorem N6 (xs ys:List T) (a:Addr):exH (some (.lst xs)) (some (.lst ys)) a H Q=(xs.length+ys.length<=sizeLine/\Q .non (up3 H a (.lst (xs++ys)))):=rfl
def poH (o:Option O3) (a:Addr) (i:Int) (H:Hp3) (Q:VK3):Prop:=match o with
 |some (.lst xs)=>oq (ixN xs.length i) fun j=>oq (xs[j]?) fun t=>Q t (up3 H a (.lst (xs.eraseIdx j)))
 |_=>False
theorem N7 (a:Addr) (i:Int):vd (.ref a) [.int i] H Q=poH (H a) a i H Q:=rfl
theorem Oa (xs:List T) (a:Addr) (i:Int):poH (some (.lst xs)) a i H Q=oq (ixN xs.length i) fun j=>oq (xs[j]?) fun t=>Q t (up3 H a (.lst (xs.eraseIdx j))):=rfl
def joH (o:Option O3) (z:Str) (H:Hp3) (Q:VK3):Prop:=match o with
 |some (.lst xs)=>oq (bL xs) fun ys=>jOk z ys/\Q (.str (Txt.join z ys)) H
 |some (.rol xs)=>oq (bL xs) fun ys=>jOk z ys/\Q (.str (Txt.join z ys)) H
 |_=>False
theorem Dz (z:Str) (a:Addr):tO (.str z) [.ref a] H Q=joH (H a) z H Q:=rfl
theorem Ob (xs:List T) (z:Str):joH (some (.lst xs)) z H Q=oq (bL xs) fun ys=>jOk z ys/\Q (.str (Txt.join z ys)) H:=rfl
theorem DG (z:Str) (xs:List T):tO (.str z) [.tup xs] H Q=oq (bL xs) fun ys=>jOk z ys/\Q (.str (Txt.join z ys)) H:=rfl
def idH (o:List Nat) (H:Hp3) (Q:VK3):Prop:=match o with
 |i::_=>Q (.int i) H
 |[]=>False
theorem DK (z y:Str):oU (.str z) [.str y] H Q=idH (Builtin.Str.occurrences z y 0 z.length 1) H Q:=rfl
theorem Oc (i:Nat) (r:List Nat):idH (i::r) H Q=Q (.int i) H:=rfl
def rgq (vs:List T) (H:Hp3) (R:List T->(Hp3->Prop)->Hp3->Prop):Prop:=match vs with
 |[.int j]=>-(2^62)<=j/\j<2^62/\R (dD 0 j.toNat) bJ H
 |[.int i,.int j]=>(-(2^62)<=i/\i<2^62 /\ -(2^62)<=j/\j<2^62)/\R (dD i (j - i).toNat) bJ H
 |_=>False
theorem Od (ta:TA3) (R:List T->(Hp3->Prop)->Hp3->Prop):Gs ta U H R=ta U H fun vs H1=>rgq vs H1 R:=rfl
theorem Oe (j:Int) (R:List T->(Hp3->Prop)->Hp3->Prop):rgq [.int j] H R=(-(2^62)<=j/\j<2^62/\R (dD 0 j.toNat) bJ H):=rfl
theorem Og (i j:Int) (R:List T->(Hp3->Prop)->Hp3->Prop):rgq [.int i,.int j] H R=((-(2^62)<=i/\i<2^62 /\ -(2^62)<=j/\j<2^62)/\R (dD i (j - i).toNat) bJ H):=rfl
def tuq (x:T) (H:Hp3) (R:List T->(Hp3->Prop)->Hp3->Prop):Prop:=match x with
 |.tup ts=>R ts bJ H
 |_=>False
theorem JH (tl:TE3) (R:List T->(Hp3->Prop)->Hp3->Prop):Gr tl U H R=tl U H fun x H1=>tuq x H1 R:=rfl
theorem Oh (ts:List T) (R:List T->(Hp3->Prop)->Hp3->Prop):tuq (.tup ts) H R=R ts bJ H:=rfl
def liq (x:T) (H:Hp3) (R:List T->(Hp3->Prop)->Hp3->Prop):Prop:=match x with
 |.ref a=>match H a with
  |some (.lst ts)=>R ts (bU a ts) H
  |some (.rol ts)=>R ts (bU a ts) H
  |_=>False
 |_=>False
def liO (o:Option O3) (a:Addr) (H:Hp3) (R:List T->(Hp3->Prop)->Hp3->Prop):Prop:=match o with
 |some (.lst ts)=>R ts (bU a ts) H
 |some (.rol ts)=>R ts (bU a ts) H
 |_=>False
theorem DN (tl:TE3) (R:List T->(Hp3->Prop)->Hp3->Prop):yF tl U H R=tl U H fun x H1=>liq x H1 R:=rfl
theorem Oi (a:Addr) (R:List T->(Hp3->Prop)->Hp3->Prop):liq (.ref a) H R=liO (H a) a H R:=rfl
theorem Oj (ts:List T) (a:Addr) (R:List T->(Hp3->Prop)->Hp3->Prop):liO (some (.lst ts)) a H R=R ts (bU a ts) H:=rfl
theorem zf (Q:St3->Hp3->Prop):yC [] U H Q=Q U H:=rfl
theorem oX (t:TG3) (u:iu) (x:T) (r:List T) (Q:St3->Hp3->Prop):oK t u (x::r) U H Q=t x U H fun U' H'=>u r U' H' Q:=rfl
theorem JK (n:Nat) (g:iu) (ts:List T) (Q:St3->Hp3->Prop):yD n g (.tup ts) U H Q=(ts.length=n/\g ts U H Q):=rfl
end
theorem DP {n j:Nat}(h:j<n):ixN n (j:Int)=some j:=by
 unfold ixN;rw[if_pos (Int.natCast_nonneg j),if_pos (by omega),Int.toNat_natCast]
theorem Qx (n:Nat):ixN (n+1) 0=some 0:=DP (j:=0) (Nat.succ_pos n)
theorem at0 {α:Type}(a:α) (r:List α):atI (a::r) 0=some a:=cI (j:=0) rfl
theorem at1 {α:Type}(a b:α) (r:List α):atI (a::b::r) 1=some b:=cI (j:=1) rfl
theorem at2 {α:Type}(a b c:α) (r:List α):atI (a::b::c::r) 2=some c:=cI (j:=2) rfl
theorem at3 {α:Type}(a b c d:α) (r:List α):atI (a::b::c::d::r) 3=some d:=cI (j:=3) rfl
theorem GR {α:Type}(xs:List α) (i:Int) (h0:0<=i) (h1:i<xs.length):∃z,z∈xs/\atI xs i=some z:=by
 obtain⟨j,rfl⟩:=Int.eq_ofNat_of_zero_le h0;have hj:j<xs.length:=by omega
 exact⟨xs[j],List.getElem_mem hj,cI (List.getElem?_eq_getElem hj)⟩
theorem lA {α β:Type}(f:α->β) (xs:List α) (i:Int):atI (xs.map f) i=(atI xs i).map f:=by
 unfold atI;rw[List.length_map];cases ixN xs.length i with
 |none=>rfl
 |some j=>simp
theorem JL (ns:List Int) (i:Int) (h0:0<=i) (h1:i<ns.length):∃z,atI (ns.map T.int) i=some (.int z):=by
 obtain⟨z,_,h⟩:=GR ns i h0 h1;exact⟨z,by rw[lA,h];rfl⟩
theorem fJ {g:TG3}{tb:TS3}{D:Ends3}{still:Hp3->Prop}{ts:List T}{U:St3}{H:Hp3}(I:List T->St3->Hp3->Prop) (h0:I ts U H) (hn:∀U H,I [] U H->still H/\D.nx U H)
  (hs:∀t r U H (N:St3->Hp3->Prop),I (t::r) U H->(∀U' H',I r U' H'->N U' H')->still H/\g t U H fun U2 H2=>tb { D with nx:=N,ct:=N,bk:=D.nx} U2 H2):iter3 g tb D still ts U H:=by
 induction ts generalizing U H with
 |nil=>exact hn U H h0
 |cons t r ih=>exact hs t r U H (iter3 g tb D still r) h0 fun U' H' h=>ih h
theorem dG {g:TG3}{tt:TT3}{te:TE3}{still:Hp3->Prop}{fin:List T->Hp3->Prop}{ts ys:List T}{U:St3}{H:Hp3}(I:List T->List T->St3->Hp3->Prop) (h0:I ts ys U H) (hn:∀ys U H,I [] ys U H->still H/\ys.length<=sizeLine/\fin ys H)
  (hs:∀t r ys U H (N:List T->St3->Hp3->Prop),I (t::r) ys U H->(∀ys' U' H',I r ys' U' H'->N ys' U' H') ->
   still H/\g t U H fun U2 H2=>tt U2 H2 fun b H3=>if b=true then te U2 H3 fun y H4=>ys.length<sizeLine/\N (ys++[y]) U2 H4 else N ys U2 H3):cIter3 g tt te still fin ts ys U H:=by
 induction ts generalizing U H ys with
 |nil=>exact hn ys U H h0
 |cons t r ih=>exact hs t r ys U H (cIter3 g tt te still fin r) h0 fun ys' U' H' h=>ih h
theorem JM (U:St3) (H:Hp3) (Q:List (Str × T)->Hp3->Prop):wQ [] U H Q=Q [] H:=rfl
theorem JN (k:Str) (tv:TE3) (r:List (Str × TE3)) (U:St3) (H:Hp3) (Q:List (Str × T)->Hp3->Prop):wQ ((k,tv)::r) U H Q=tv U H fun y H2=>wQ r U H2 fun ps H3=>Q ((k,y)::ps) H3:=rfl
theorem sx0 (n:Nat):HT.sIx n 0 none=0:=rfl
theorem oY {ts:List T}{k:Nat}:cj ts none (some (k:Int))=ts.take k:=by
 unfold cj;rw[sx0,HT.sIx_nat,List.drop_zero,Nat.sub_zero];by_cases h:k<=ts.length
 ·rw[Nat.min_eq_left h]
 rw[Nat.min_eq_right (by omega),List.take_length,List.take_of_length_le (by omega)]
theorem dH {ts:List T}{k:Nat}:cj ts (some (k:Int)) none=ts.drop k:=by
 unfold cj;rw[HT.sIx_none,HT.sIx_nat];by_cases h:k<=ts.length
 ·rw[Nat.min_eq_left h,List.take_of_length_le (by simp)]
 rw[Nat.min_eq_right (by omega),List.drop_of_length_le (Nat.le_refl _),List.drop_of_length_le (by omega),List.take_nil]
theorem cA {H:Hp3}{a b:Addr}{o:O3}(h:up3 H a o b=none):b≠a/\H b=none:=by
 by_cases e:b=a
 ·subst e;rw[aA] at h;cases h
 rw[aC e] at h;exact⟨e,h⟩
theorem cH {α:Type}(enc f:α->T) (as:List α) (rest:St3) {te:TE3}{still:Hp3->Prop}{fin:List T->Hp3->Prop}{v:Option T}{H:Hp3}(hst:still H) (hl:as.length<=sizeLine)
  (ht:∀a∈as,∀Q:VK3,Q (f a) H->te (some (enc a)::rest) H Q) (hfin:fin (as.map f) H):cIter3 (eX 0) uT te still fin (as.map enc) [] (v::rest) H:=by
 refine dG (fun r ys U H'=>∃(rs ds:List α) (v:Option T),U=v::rest/\r=rs.map enc/\ys=ds.map f/\ds++rs=as/\H'=H) ⟨as,[],v,rfl,rfl,rfl,rfl,rfl⟩ ?_ ?_
 ·rintro ys U H' ⟨rs,ds,v,rfl,hrs,rfl,hsp,rfl⟩;have hrs':rs=[]:=List.map_eq_nil_iff.mp hrs.symm;subst hrs';rw[List.append_nil] at hsp;subst hsp;exact⟨hst,by rw[List.length_map];exact hl,hfin⟩
 rintro x r ys U H' N ⟨rs,ds,v,rfl,hrs,rfl,hsp,rfl⟩ hN;cases rs with
 |nil=>cases hrs
 |cons t rs =>
 injection hrs with e1 e2;subst e1 e2;refine⟨hst,?_⟩;show te (some (enc t)::rest) H' _;refine ht t (by rw[<- hsp];simp) _ ⟨?_,hN _ _ _ ⟨rs,ds++[t],_,rfl,rfl,by simp,by rw[<- hsp];simp,rfl⟩⟩;have:=congrArg List.length hsp;simp only[List.length_append,List.length_cons] at this;rw[List.length_map];omega
section
variable {X:Cx}
def bK:List T->Option (List Bool)
 |[]=>some []
 |.bl x::r=>(bK r).map (x::·)
 |_=>none
theorem dX:∀(ns:List Bool),bK (ns.map T.bl)=some ns
 |[]=>rfl
 |n::r=>by simp [bK,dX r]
theorem jB {K:Frag}{H:Hp}:∀{ts:List T}{xs:List V}{us:List Value}{bs:List Bool},bK ts=some bs->Reps K H ts xs->Vals xs us->us=bs.map Value.bool
 |[],xs,us,bs,e,r,v=>by
  cases e
  rw[r.inv0] at v
  cases v
  rfl
 |.bl i::l,xs,us,bs,e,r,v=>by
  obtain⟨x,xr,rfl,rx,rr⟩:=r.inv
  cases v with
  |cons a b =>
   rw[rx.bl] at a
   cases hl:bK l with
   |none=>simp [bK,hl] at e
   |some ms =>
    simp [bK,hl] at e
    subst e
    cases a
    rw[jB hl rr b]
    rfl
 |.non::_,_,_,_,e,_,_=>by simp [bK] at e
 |.int _::_,_,_,_,e,_,_=>by simp [bK] at e
 |.str _::_,_,_,_,e,_,_=>by simp [bK] at e
 |.tup _::_,_,_,_,e,_,_=>by simp [bK] at e
 |.ref _::_,_,_,_,e,_,_=>by simp [bK] at e
 |.ty _::_,_,_,_,e,_,_=>by simp [bK] at e
def alH (o:Option O3) (H:Hp3) (Q:VK3):Prop:=match o with
 |some (.lst xs)=>oq (bK xs) fun bs=>Q (.bl (bs.all id)) H
 |some (.rol xs)=>oq (bK xs) fun bs=>Q (.bl (bs.all id)) H
 |_=>False
def GX:List T->Hp3->VK3->Prop:=fun ts H Q=>match ts with
 |[.ref a]=>alH (H a) H Q
 |_=>False
theorem Ol (a:Addr) {H:Hp3}{Q:VK3}:GX [.ref a] H Q=alH (H a) H Q:=rfl
theorem Om (xs:List T) {H:Hp3}{Q:VK3}:alH (some (.lst xs)) H Q=oq (bK xs) fun bs=>Q (.bl (bs.all id)) H:=rfl
theorem all_range (bs:List Bool):(List.range bs.length).all (fun i=>bs.getD i true)=bs.all id:=by
 rw[Bool.eq_iff_iff,List.all_eq_true,List.all_eq_true];constructor
 ·intro h b hb;obtain⟨i,hi,rfl⟩:=List.mem_iff_getElem.mp hb;have:=h i (List.mem_range.mpr hi);simpa [List.getD,hi] using this
 intro h i hi;have hi':=List.mem_range.mp hi;have:=h bs[i] (List.getElem_mem hi');simpa [List.getD,hi'] using this
theorem oZ (hc:X.calm=true):cD X (.builtin "all") GX:=by
 intro pins s U H xs us Q I rv h;obtain⟨ts,H3,Q3,r,sh,h,k⟩:=h
 match ts,h,r with
 |[.ref a],h,r =>
 obtain⟨v,rfl,rv'⟩:=r.one';obtain⟨u,rfl,ru⟩:=vals1 rv;rw[rv'.ref] at ru;cases ru;have main:∀{ls:List T} {ys:List V},SqL X.K H a ys->Reps X.K H ls ys->oq (bK ls) (fun bs=>Q3 (.bl (bs.all id)) H3)->wpAny (model X.prog X.w) X.A (call (.builtin "all") [.ref a]) (EP X pins U Q) X.xe s:=by
  intro ls ys sq rs q;cases e:bK ls with
  |none=>rw[e] at q;exact q.elim
  |some bs =>
  rw[e] at q;obtain⟨its,rvs,hl,_⟩:=I.list sq;have hi:=jB e rs rvs;subst hi;have hlI:a≠s.heap.objs.size:=fun z=>by obtain⟨o,n,eo,_⟩:=hl;have:=Heap.lt_size eo;rw[z] at this;exact Nat.lt_irrefl _ this
  refine call_all_walk (wpAny_pyIter_list hl.isList ?_);refine⟨s.heap.objs.size,_,_,_,_,_,fun i=>bs.getD i true,rfl,Walks.list (A:=X.A.in1) (I.ok.hd hc) s.heap.objs.size a hlI (bs.map Value.bool).toArray,⟨⟨_,Heap.get?_push_size _ rfl,rfl,rfl⟩,hl.isList.push _⟩,fun i v s' Q' E' hv hq=>?_,fun h' tk hk=>?_⟩
  ·have hv':(bs.map Value.bool)[i]?=some v:=by simpa using hv
   rw[List.getElem?_map] at hv';cases eb:bs[i]? with
   |none=>rw[eb] at hv';cases hv'
   |some b =>
   rw[eb] at hv';cases hv';have:bs.getD i true=b:=by simp [List.getD,eb]
   dsimp only at hq;rw[this] at hq;exact wpAny_truthy_bool hq
  have hn:(bs.map Value.bool).toArray.size=bs.length:=by simp
  rw[hn,all_range];refine⟨.bl (bs.all id),H,I.kept fun b o e=>hk b o (fun z=>?_) (Heap.get?_push_of_some _ e),rfl,k _ _ _ _ .refl sh .ofBl q⟩;have:=Heap.lt_size e;rw[List.mem_singleton.mp z] at this;exact Nat.lt_irrefl _ this
 have h':alH (H3 a) H3 Q3:=h;cases eo:H3 a with
 |none=>rw[eo] at h';exact h'.elim
 |some o =>
 rw[eo] at h';cases o with
 |lst ls=>obtain⟨ys,sq,rs⟩:=sh.sqL (.inl eo);exact main sq rs h'
 |rol ls=>obtain⟨ys,sq,rs⟩:=sh.sqL (.inr eo);exact main sq rs h'
 |dct _=>exact h'.elim
 |dcp _=>exact h'.elim
 |exc _ _=>exact h'.elim
 |xdt _=>exact h'.elim
variable {prog:Program}{w:World}{A:Around}{E:Value->Shared->Prop}{s:Shared}
variable {e:Expr}{te:TE}{p1 p2 pos pos':Pos}
theorem DQ {it t:Addr}{i:Nat}{items:Array Value}{x:Value}{Q:Value->Shared->Prop}(hit:s.heap.IsTupleIter it t i) (ht:s.heap.IsTuple t items) (hx:items[i]?=some x)
  (hQ:∀h',h'.IsTupleIter it t (i+1)->Heap.SameBut it s.heap h'->Q x { s with heap:=h'}):wpAny (model prog w) A (Builtin.SmallTypes.nextOf (.ref it)) Q E s:=by
 obtain⟨o,ho,hc,hd⟩:=id hit;obtain⟨ol,hol,_,nl,hdl⟩:=ht;unfold Builtin.SmallTypes.nextOf;refine wpAny_bind (wpAny_callSpecial?_slot (name:=Str.ofString "__next__") hit.typeIs F.slot_tuple_iterator_next
  (wpAny_call_entry F.slot_tuple_iterator_next hit.typeIs F.entry_tuple_iterator_next ?_ (F.args_tuple_iterator_next_1 _)))
 show wpAny _ _ (field (.ref it) 0 >>= _) _ _ s;refine wpAny_bind (wpAny_field ho hd (x:=.ref t) rfl ?_);show wpAny _ _ (if (Value.ref t==Value.none)=true then _ else _) _ _ s;rw[if_neg (show ¬((Value.ref t==Value.none)=true) from Bool.false_ne_true)];show wpAny _ _ (field (.ref it) 1 >>= _) _ _ s;refine wpAny_bind (wpAny_field ho hd (x:=.int i 0) rfl ?_);show wpAny _ _ (seqItems? (.ref t) >>= _) _ _ s;refine wpAny_bind (wpAny_seqItems hol hdl ?_);simp only[Int.toNat_natCast,hx];refine wpAny_bind (wpAny_setField ho hd (by simp) (wpAny_pure ⟨x,rfl,wpAny_pure (hQ _ ?_ (Heap.SameBut.update ..))⟩));refine⟨_,Heap.get?_update_self _ ho (Obj.isFreed_of_fields (Obj.data_mapFields hd _)),(Obj.cls_mapFields ..).trans hc,?_⟩;rw[Obj.data_mapFields hd];simp [rawInt]
theorem zg {it t:Addr}{i:Nat}{items:Array Value}{Q:Value->Shared->Prop}(hh:A.handled=none) (hit:s.heap.IsTupleIter it t i) (ht:s.heap.IsTuple t items) (hx:items[i]?=none)
  (hE:∀h' e,Heap.ExtBut it s.heap h'->(∃o,h'.get? e=some o/\o.cls=.type "StopIteration")->E (.ref e) { s with heap:=h'}):wpAny (model prog w) A (Builtin.SmallTypes.nextOf (.ref it)) Q E s:=by
 obtain⟨o,ho,hc,hd⟩:=id hit;obtain⟨ol,hol,_,nl,hdl⟩:=ht;unfold Builtin.SmallTypes.nextOf;refine wpAny_bind (wpAny_callSpecial?_slot (name:=Str.ofString "__next__") hit.typeIs F.slot_tuple_iterator_next
  (wpAny_call_entry F.slot_tuple_iterator_next hit.typeIs F.entry_tuple_iterator_next ?_ (F.args_tuple_iterator_next_1 _)))
 show wpAny _ _ (field (.ref it) 0 >>= _) _ _ s;refine wpAny_bind (wpAny_field ho hd (x:=.ref t) rfl ?_);show wpAny _ _ (if (Value.ref t==Value.none)=true then _ else _) _ _ s;rw[if_neg (show ¬((Value.ref t==Value.none)=true) from Bool.false_ne_true)];show wpAny _ _ (field (.ref it) 1 >>= _) _ _ s;refine wpAny_bind (wpAny_field ho hd (x:=.int i 0) rfl ?_);show wpAny _ _ (seqItems? (.ref t) >>= _) _ _ s;refine wpAny_bind (wpAny_seqItems hol hdl ?_);simp only[Int.toNat_natCast,hx];refine wpAny_bind (wpAny_rule (wpAny_bind (wpAny_setField ho hd (by simp) ?_)));show wpAny _ _ (newExc (.type "StopIteration") [] >>= _) _ _ _;refine wpAny_bind ?_;simp only[newExc,newTuple];refine wpAny_bind (wpAny_newObj_type ?_ (by size_fits));refine wpAny_bind (m:=firstArgMember _ _) (wpAny_of_eq (a:=Value.none) (by first | rfl | (simp only[firstArgMember];rfl)) ?_);refine wpAny_newObj_type ?_ (by size_fits);simp only[raiseNew];refine wpAny_bind (wpAny_handled ?_);first | rw[show A.in1.handled=none from hh] | rw[hh]
 refine wpAny_bind (wpAny_pure (wpAny_throw ?_));exact hE _ _ (((Heap.SameBut.update ..).extBut.push _).push _) ⟨_,Heap.get?_push_size _ rfl,rfl⟩
end
theorem o4 {prog:Program}{w:World}{A:Around}(hh:A.handled=none) (it t:Addr) (hne:t≠it) (items:Array Value) :
  Draws prog w A it [it,t] items.size (fun i v=>items[i]?=some v) (fun i h=>h.IsTupleIter it t i/\h.IsTuple t items) where
 live:=fun _ _ st=>let ⟨o,ho,_⟩:=st.1;⟨o,ho⟩
 frame:=fun _ _ _ st hk=>⟨st.1.at fun o e=>hk it (by simp) o e,st.2.at fun o e=>hk t (by simp) o e⟩
 item:=fun i s Q E hi st hQ=>by
  refine DQ st.1 st.2 (x:=items[i]) (by simp [hi]) fun h' hit' hs'=>?_
  exact hQ _ h' s.toks (by simp [hi]) ⟨hit',st.2.extBut hs'.extBut hne⟩ hs'
 done:=fun s Q E st hE=>zg hh st.1 st.2 (by simp) hE
structure ZAp (z ti to i1 i2:Addr) (f1 f2:List Addr):Prop where
 ne:ti≠z/\to≠z/\ti≠to/\i1≠i2
 m1:i1∈f1
 m2:i2∈f2
 n1:z∉f1/\ti∉f1/\to∉f1/\i2∉f1
 n2:z∉f2/\ti∉f2/\to∉f2/\i1∉f2
section
variable {z ti to i1 i2:Addr}{f1 f2:List Addr}
theorem ZAp.i1z (D:ZAp z ti to i1 i2 f1 f2):i1≠z:=fun e=>D.n1.1 (e▸D.m1)
theorem ZAp.i2z (D:ZAp z ti to i1 i2 f1 f2):i2≠z:=fun e=>D.n2.1 (e▸D.m2)
theorem ZAp.i1ti (D:ZAp z ti to i1 i2 f1 f2):i1≠ti:=fun e=>D.n1.2.1 (e▸D.m1)
theorem ZAp.i2ti (D:ZAp z ti to i1 i2 f1 f2):i2≠ti:=fun e=>D.n2.2.1 (e▸D.m2)
theorem ZAp.i1to (D:ZAp z ti to i1 i2 f1 f2):i1≠to:=fun e=>D.n1.2.2.1 (e▸D.m1)
theorem ZAp.i2to (D:ZAp z ti to i1 i2 f1 f2):i2≠to:=fun e=>D.n2.2.2.1 (e▸D.m2)
variable {prog:Program}{w:World}{A:Around}{E:Value->Shared->Prop}{s:Shared}{n1 n2 k:Nat}{P1 P2:Nat->Value->Prop}{S1 S2:Nat->Heap->Prop}
theorem z_item {a b:Value}{Q:Value->Shared->Prop}(D1:Draws prog w A i1 f1 n1 P1 S1) (D2:Draws prog w A i2 f2 n2 P2 S2) (D:ZAp z ti to i1 i2 f1 f2)
  (hz:IsZip s.heap z ti to .none) (hI:IsPair s.heap ti (.ref i1) (.ref i2)) (hO:IsPair s.heap to a b) (h1:S1 k s.heap) (h2:S2 k s.heap) (k1:k<n1) (k2:k<n2)
  (hQ:∀x y h' tk,P1 k x->P2 k y->IsZip h' z ti to (rawInt s.heap.objs.size)->IsPair h' to x y->S1 (k+1) h'->S2 (k+1) h'->IsPair h' s.heap.objs.size x y->h'.objs.size=s.heap.objs.size+1 ->
   (∀c o,c∉[z,to,i1,i2]->s.heap.get? c=some o->h'.get? c=some o)->Q (.ref s.heap.objs.size) { s with heap:=h',toks:=tk}) :
  wpAny (model prog w) A (Builtin.«zip.__next__» ⟨[.ref z],[]⟩) (fun fin s'=>∃v,fin=.done (.ret v)/\Q v s') E s:=by
 show wpAny _ _ (field (.ref z) 2 >>= _) _ _ _;refine wpAny_bind (wpAny_field hz rfl (x:=.bool false) rfl ?_);show wpAny _ _ (field (.ref z) 3 >>= _) _ _ _;refine wpAny_bind (wpAny_field hz rfl (x:=.ref ti) rfl ?_);refine wpAny_bind (wpAny_seqItems hI rfl ?_);show wpAny _ _ (Builtin.SmallTypes.ownedTupleIsFree (.ref z) >>= _) _ _ _;refine wpAny_bind ?_;unfold Builtin.SmallTypes.ownedTupleIsFree;refine wpAny_bind (wpAny_field hz rfl (x:=.none) rfl (wpAny_pure ?_));try simp only[if_true]
 refine wpAny_bind (wpAny_rule ?_);refine wpAny_bind (wpAny_field hz rfl (x:=.ref to) rfl ?_);refine wpAny_bind (wpAny_setField_rec hz (by simp) fun ha hza hsa=>?_);replace hza:IsZip ha z ti to .ellipsis:=hza;refine wpAny_bind ?_;simp only[List.zipIdx_cons,List.zipIdx_nil,List.forIn_cons,List.forIn_nil];refine wpAny_bind (wpAny_bind (wpAny_onRaise ?_));show wpAny _ _ (Builtin.SmallTypes.nextOf (.ref i1) >>= _) _ _ _;have fr1:∀{i:Nat} {h h':Heap} {c:Addr},S1 i h->Heap.SameBut c h h'->c∉f1->S1 i h':=fun st sb nc=>D1.frame _ _ _ st fun b hb o e=>(sb.2 b fun q=>nc (q▸hb)).trans e;have fr2:∀{i:Nat} {h h':Heap} {c:Addr},S2 i h->Heap.SameBut c h h'->c∉f2->S2 i h':=fun st sb nc=>D2.frame _ _ _ st fun b hb o e=>(sb.2 b fun q=>nc (q▸hb)).trans e;refine wpAny_bind (D1.item k _ _ _ k1 (fr1 h1 hsa D.n1.1) fun x hb tb px sb1 hsb=>wpAny_pure ?_);have hOb:IsPair hb to a b:=(hsb.2 to (Ne.symm D.i1to)).trans ((hsa.2 to D.ne.2.1).trans hO);refine wpAny_bind (wpAny_seqItems hOb rfl ?_);refine wpAny_bind (wpAny_updateSeq_pair hOb fun hc hOc hsc=>?_);replace hOc:IsPair hc to x b:=hOc;refine wpAny_bind (wpAny_letGo (wpAny_pure ?_));refine wpAny_bind (wpAny_bind (wpAny_onRaise ?_));show wpAny _ _ (Builtin.SmallTypes.nextOf (.ref i2) >>= _) _ _ _;have s2c:S2 k hc:=fr2 (fr2 (fr2 h2 hsa D.n2.1) hsb D.n2.2.2.2) hsc D.n2.2.2.1;refine wpAny_bind (D2.item k _ _ _ k2 s2c fun y hd td py sd2 hsd=>wpAny_pure ?_);have hOd:IsPair hd to x b:=(hsd.2 to (Ne.symm D.i2to)).trans hOc;refine wpAny_bind (wpAny_seqItems hOd rfl ?_);refine wpAny_bind (wpAny_updateSeq_pair hOd fun he hOe hse=>?_);replace hOe:IsPair he to x y:=hOe;refine wpAny_bind (wpAny_letGo (wpAny_pure (wpAny_pure ?_)));refine wpAny_bind (wpAny_seqItems hOe rfl ?_);refine wpAny_bind (wpAny_newTuple ?_);have hsz:he.objs.size=s.heap.objs.size:=by rw[hse.1,hsd.1,hsc.1,hsb.1,hsa.1]
 have hze:IsZip he z ti to .ellipsis:=(hse.2 z (Ne.symm D.ne.2.1)).trans ((hsd.2 z (Ne.symm D.i2z)).trans ((hsc.2 z (Ne.symm D.ne.2.1)).trans ((hsb.2 z (Ne.symm D.i1z)).trans hza)));have hke:∀c o,c∉[z,to,i1,i2]->s.heap.get? c=some o->he.get? c=some o:=fun c o hc e=>by simp only[List.mem_cons,List.not_mem_nil,or_false,not_or] at hc;exact (hse.2 c hc.2.1).trans ((hsd.2 c hc.2.2.2).trans ((hsc.2 c hc.2.1).trans ((hsb.2 c hc.2.2.1).trans ((hsa.2 c hc.1).trans e))))
 have s1e:S1 (k+1) he:=fr1 (fr1 (fr1 sb1 hsc D.n1.2.2.1) hsd D.n1.2.2.2) hse D.n1.2.2.1;have s2e:S2 (k+1) he:=fr2 sd2 hse D.n2.2.2.1;have hzl:z<he.objs.size:=Heap.lt_size hze;show wpAny _ _ (Builtin.SmallTypes.ownedTupleHandOut (.ref z) (.ref he.objs.size) >>= _) _ _ _;refine wpAny_bind ?_;unfold Builtin.SmallTypes.ownedTupleHandOut;have hzf:IsZip (he.push { cls:=.type "tuple",data:=.seq #[x,y]}) z ti to .ellipsis:=Heap.get?_push_of_some _ hze;refine wpAny_bind (wpAny_setField_rec hzf (by simp) fun hg hzg hsg=>?_);replace hzg:IsZip hg z ti to (rawInt he.objs.size):=hzg;refine wpAny_setField_rec hzg (by simp) fun hh hzh hsh=>?_;replace hzh:IsZip hh z ti to (rawInt he.objs.size):=hzh;have up:∀c o,c≠z->he.get? c=some o->hh.get? c=some o:=fun c o c1 e=>(hsh.2 c c1).trans ((hsg.2 c c1).trans (Heap.get?_push_of_some _ e));have hTh:IsPair hh he.objs.size x y:=(hsh.2 _ (Nat.ne_of_gt hzl)).trans ((hsg.2 _ (Nat.ne_of_gt hzl)).trans (Heap.get?_push_size _ rfl));have hzz:hh.objs.size=he.objs.size+1:=by rw[hsh.1,hsg.1,Heap.size_push]
 rw[hsz] at hzh hTh hzz;refine wpAny_pure ⟨_,rfl,?_⟩;show Q (.ref he.objs.size) _;rw[hsz];exact hQ x y hh _ px py hzh (up _ _ D.ne.2.1 hOe) (D1.frame _ _ _ s1e fun b hb o e=>up b o (fun q=>D.n1.1 (q▸hb)) e) (D2.frame _ _ _ s2e fun b hb o e=>up b o (fun q=>D.n2.1 (q▸hb)) e) hTh hzz fun c o hc e=>up c o (fun q=>hc (q▸List.mem_cons_self)) (hke c o hc e)
theorem z_end {a b:Value}{Q:Fin->Shared->Prop}(D1:Draws prog w A i1 f1 n1 P1 S1) (D2:Draws prog w A i2 f2 n2 P2 S2) (D:ZAp z ti to i1 i2 f1 f2)
  (hz:IsZip s.heap z ti to .none) (hI:IsPair s.heap ti (.ref i1) (.ref i2)) (hO:IsPair s.heap to a b) (h1:S1 k s.heap) (h2:S2 k s.heap) (hk:k=n1\/(k<n1/\k=n2))
  (hE:∀h' e tk,(∀c o,c∉[z,to,i1,i2]->s.heap.get? c=some o->h'.get? c=some o)->(∃o,h'.get? e=some o/\o.cls=.type "StopIteration")->E (.ref e) { s with heap:=h',toks:=tk}) :
  wpAny (model prog w) A (Builtin.«zip.__next__» ⟨[.ref z],[]⟩) Q E s:=by
 show wpAny _ _ (field (.ref z) 2 >>= _) _ _ _;refine wpAny_bind (wpAny_field hz rfl (x:=.bool false) rfl ?_);show wpAny _ _ (field (.ref z) 3 >>= _) _ _ _;refine wpAny_bind (wpAny_field hz rfl (x:=.ref ti) rfl ?_);refine wpAny_bind (wpAny_seqItems hI rfl ?_);show wpAny _ _ (Builtin.SmallTypes.ownedTupleIsFree (.ref z) >>= _) _ _ _;refine wpAny_bind ?_;unfold Builtin.SmallTypes.ownedTupleIsFree;refine wpAny_bind (wpAny_field hz rfl (x:=.none) rfl (wpAny_pure ?_));try simp only[if_true]
 refine wpAny_bind (wpAny_rule ?_);refine wpAny_bind (wpAny_field hz rfl (x:=.ref to) rfl ?_);refine wpAny_bind (wpAny_setField_rec hz (by simp) fun ha hza hsa=>?_);replace hza:IsZip ha z ti to .ellipsis:=hza;refine wpAny_bind ?_;simp only[List.zipIdx_cons,List.zipIdx_nil,List.forIn_cons,List.forIn_nil];refine wpAny_bind (wpAny_bind (wpAny_onRaise ?_));show wpAny _ _ (Builtin.SmallTypes.nextOf (.ref i1) >>= _) _ _ _;have fr1:∀{i:Nat} {h h':Heap} {c:Addr},S1 i h->Heap.SameBut c h h'->c∉f1->S1 i h':=fun st sb nc=>D1.frame _ _ _ st fun b hb o e=>(sb.2 b fun q=>nc (q▸hb)).trans e;have fr2:∀{i:Nat} {h h':Heap} {c:Addr},S2 i h->Heap.SameBut c h h'->c∉f2->S2 i h':=fun st sb nc=>D2.frame _ _ _ st fun b hb o e=>(sb.2 b fun q=>nc (q▸hb)).trans e;rcases hk with rfl | ⟨k1,rfl⟩
 ·refine wpAny_bind (D1.done _ _ _ (fr1 h1 hsa D.n1.1) fun hb e hsb ⟨oe,hoe,hce⟩=>?_);have hzb:IsZip hb z ti to .ellipsis:=hsb z _ (Ne.symm D.i1z) hza;have hez:e≠z:=fun x=>by subst x;rw[hzb] at hoe;cases hoe;simp at hce
  refine wpAny_setField_rec hzb (by simp) fun hc _ hsc=>hE hc e _ (fun c o nc x=>?_) ⟨oe,(hsc.2 e hez).trans hoe,hce⟩;simp only[List.mem_cons,List.not_mem_nil,or_false,not_or] at nc;exact (hsc.2 c nc.1).trans (hsb c _ nc.2.2.1 ((hsa.2 c nc.1).trans x))
 refine wpAny_bind (D1.item k _ _ _ k1 (fr1 h1 hsa D.n1.1) fun x hb tb px sb1 hsb=>wpAny_pure ?_);have hOb:IsPair hb to a b:=(hsb.2 to (Ne.symm D.i1to)).trans ((hsa.2 to D.ne.2.1).trans hO);refine wpAny_bind (wpAny_seqItems hOb rfl ?_);refine wpAny_bind (wpAny_updateSeq_pair hOb fun hc hOc hsc=>?_);refine wpAny_bind (wpAny_letGo (wpAny_pure ?_));refine wpAny_bind (wpAny_bind (wpAny_onRaise ?_));show wpAny _ _ (Builtin.SmallTypes.nextOf (.ref i2) >>= _) _ _ _;have s2c:S2 k hc:=fr2 (fr2 (fr2 h2 hsa D.n2.1) hsb D.n2.2.2.2) hsc D.n2.2.2.1;refine wpAny_bind (D2.done _ _ _ s2c fun hd e hsd ⟨oe,hoe,hce⟩=>?_);have hzd:IsZip hd z ti to .ellipsis:=hsd z _ (Ne.symm D.i2z) ((hsc.2 z (Ne.symm D.ne.2.1)).trans ((hsb.2 z (Ne.symm D.i1z)).trans hza));have hez:e≠z:=fun x=>by subst x;rw[hzd] at hoe;cases hoe;simp at hce
 refine wpAny_setField_rec hzd (by simp) fun he _ hse=>hE he e _ (fun c o nc x=>?_) ⟨oe,(hse.2 e hez).trans hoe,hce⟩;simp only[List.mem_cons,List.not_mem_nil,or_false,not_or] at nc;exact (hse.2 c nc.1).trans (hsd c _ nc.2.2.2 ((hsc.2 c nc.2.1).trans ((hsb.2 c nc.2.2.1).trans ((hsa.2 c nc.1).trans x))))
theorem DR {a b:Value}{Q:Option Value->Shared->Prop}(D1:Draws prog w A.in1 i1 f1 n1 P1 S1) (D2:Draws prog w A.in1 i2 f2 n2 P2 S2) (D:ZAp z ti to i1 i2 f1 f2)
  (hz:IsZip s.heap z ti to .none) (hI:IsPair s.heap ti (.ref i1) (.ref i2)) (hO:IsPair s.heap to a b) (h1:S1 k s.heap) (h2:S2 k s.heap) (k1:k<n1) (k2:k<n2)
  (hQ:∀x y h' tk,P1 k x->P2 k y->IsZip h' z ti to (rawInt s.heap.objs.size)->IsPair h' to x y->S1 (k+1) h'->S2 (k+1) h'->IsPair h' s.heap.objs.size x y->h'.objs.size=s.heap.objs.size+1 ->
   (∀c o,c∉[z,to,i1,i2]->s.heap.get? c=some o->h'.get? c=some o)->Q (some (.ref s.heap.objs.size)) { s with heap:=h',toks:=tk}):wpAny (model prog w) A (pyNext (.ref z)) Q E s:=by
 have hT:s.TypeIs (.ref z) "zip":=⟨_,hz,rfl⟩;unfold pyNext;exact wpAny_bind (wpAny_attempt (wpAny_callSpecial?_slot (name:=Str.ofString "__next__") hT F.slot_zip_next
  (wpAny_call_entry F.slot_zip_next hT F.entry_zip_next (z_item D1 D2 D hz hI hO h1 h2 k1 k2 fun x y h' tk a1 a2 a3 a4 a5 a6 a7 a8 a9=>wpAny_pure (hQ x y h' tk a1 a2 a3 a4 a5 a6 a7 a8 a9)) (F.args_zip_next_1 _))))
theorem zj {a b:Value}{Q:Option Value->Shared->Prop}(D1:Draws prog w A.in1 i1 f1 n1 P1 S1) (D2:Draws prog w A.in1 i2 f2 n2 P2 S2) (D:ZAp z ti to i1 i2 f1 f2)
  (hz:IsZip s.heap z ti to .none) (hI:IsPair s.heap ti (.ref i1) (.ref i2)) (hO:IsPair s.heap to a b) (h1:S1 k s.heap) (h2:S2 k s.heap) (hk:k=n1\/(k<n1/\k=n2))
  (hQ:∀h' tk,(∀c o,c∉[z,to,i1,i2]->s.heap.get? c=some o->h'.get? c=some o)->Q none { s with heap:=h',toks:=tk}):wpAny (model prog w) A (pyNext (.ref z)) Q E s:=by
 have hT:s.TypeIs (.ref z) "zip":=⟨_,hz,rfl⟩;unfold pyNext;refine wpAny_bind (wpAny_attempt (wpAny_callSpecial?_slot (name:=Str.ofString "__next__") hT F.slot_zip_next
  (wpAny_call_entry F.slot_zip_next hT F.entry_zip_next (z_end D1 D2 D hz hI hO h1 h2 hk fun h' e tk kp ⟨o,ho,hc⟩=>?_) (F.args_zip_next_1 _))))
 refine wpAny_bind (wpAny_isInstance (T:="StopIteration") (b:=true) ⟨o,ho,hc⟩ isSubtype_stop ?_);exact wpAny_pure (hQ _ _ kp)
end
abbrev vg (t:Addr):Obj:={ cls:=.type "tuple_iterator",data:=.fields #[.ref t,.int 0 0]}
theorem tR (t1 t2:Addr) (xs ys:Array Value) :
  Meets (Builtin.«zip.__new__» ⟨[.type "zip",.ref t1,.ref t2],[]⟩) (fun _ R s=>s.heap.IsTuple t1 xs/\s.heap.IsTuple t2 ys/\∀h1 h2 h3 h4,h1=s.heap.push (vg t1)->h2=h1.push (vg t2)->h3=h2.push { cls:=.type "tuple",data:=.seq #[.ref s.heap.objs.size,.ref h1.objs.size]}->h4=h3.push { cls:=.type "tuple",data:=.seq #[.none,.none]} ->
   R (.ok (.ret (.ref h4.objs.size))) { s with heap:=h4.push { cls:=.type "zip",data:=.fields #[.none,.bool false,.bool false,.ref h2.objs.size,.ref h3.objs.size]}}) :=
 .of_wp fun prog w A R s h=>by
  obtain⟨hp,g,d,tk,os⟩:=s;obtain⟨hl1,hl2,h⟩:=h;have hsub:=sub_zip;have hL1:Heap.IsTuple (Shared.heap ⟨hp,g,d,tk,os⟩) t1 xs:=hl1;have hL2:Heap.IsTuple (Shared.heap ⟨hp.push { cls:=.type "tuple_iterator",data:=.fields #[.ref t1,.int 0 0]},g,d,tk,os⟩) t2 ys:=let ⟨o,eo,r⟩:=hl2;⟨o,Heap.get?_push_of_some _ eo,r⟩
  wp_walk using wpAny_pyIter_tuple hL1,wpAny_pyIter_tuple hL2
  exact⟨_,rfl,h _ _ _ _ rfl rfl rfl rfl⟩
section
variable {prog:Program}{w:World}{A:Around}{E:Value->Shared->Prop}{s:Shared}
theorem wR {t1 t2:Addr}{xs ys:Array Value}{Q:Value->Shared->Prop}(hl1:s.heap.IsTuple t1 xs) (hl2:s.heap.IsTuple t2 ys)
  (h:∀h' i1 i2 ti to z,IsZip h' z ti to .none->IsPair h' ti (.ref i1) (.ref i2)->IsPair h' to .none .none->h'.IsTupleIter i1 t1 0->h'.IsTupleIter i2 t2 0 ->
   s.heap.objs.size<=i1->i1<i2->i2<ti->ti<to->to<z->(∀c o,s.heap.get? c=some o->h'.get? c=some o)->Q (.ref z) { s with heap:=h'}) :
  wpAny (model prog w) A (call (.type "zip") [.ref t1,.ref t2]) Q E s:=by
 refine callType_new F.called_zip (by decide) (F.typeCall_zip_2 _ _) (F.newCall_zip_2 _ _) (fun obj=>F.args_object_init_3 obj _ _) F.entry_zip_new
  (tR t1 t2 xs ys) ⟨hl1,hl2,fun h1 h2 h3 h4 e1 e2 e3 e4=>?_⟩
 have p:∀(h:Heap) (o:Obj),h.objs.size<(h.push o).objs.size:=fun h o=>by rw[Heap.size_push];exact Nat.lt_succ_self _
 have g5:=Heap.get?_push_size h4 (o:={ cls:=.type "zip",data:=.fields #[.none,.bool false,.bool false,.ref h2.objs.size,.ref h3.objs.size]}) rfl;have g4:h4.get? h3.objs.size=some { cls:=.type "tuple",data:=.seq #[.none,.none]}:=by rw[e4];exact Heap.get?_push_size _ rfl
 have g3:h3.get? h2.objs.size=some { cls:=.type "tuple",data:=.seq #[.ref s.heap.objs.size,.ref h1.objs.size]}:=by rw[e3];exact Heap.get?_push_size _ rfl
 have g2:h2.get? h1.objs.size=some (vg t2):=by rw[e2];exact Heap.get?_push_size _ rfl
 have g1:h1.get? s.heap.objs.size=some (vg t1):=by rw[e1];exact Heap.get?_push_size _ rfl
 have u1:∀c o,s.heap.get? c=some o->h1.get? c=some o:=fun c o q=>by rw[e1];exact Heap.get?_push_of_some _ q
 have u2:∀c o,h1.get? c=some o->h2.get? c=some o:=fun c o q=>by rw[e2];exact Heap.get?_push_of_some _ q
 have u3:∀c o,h2.get? c=some o->h3.get? c=some o:=fun c o q=>by rw[e3];exact Heap.get?_push_of_some _ q
 have u4:∀c o,h3.get? c=some o->h4.get? c=some o:=fun c o q=>by rw[e4];exact Heap.get?_push_of_some _ q
 refine⟨⟨_,g5,rfl⟩,h _ s.heap.objs.size h1.objs.size h2.objs.size h3.objs.size h4.objs.size g5 (Heap.get?_push_of_some _ (u4 _ _ g3)) (Heap.get?_push_of_some _ g4) ⟨_,Heap.get?_push_of_some _ (u4 _ _ (u3 _ _ (u2 _ _ g1))),rfl,rfl⟩ ⟨_,Heap.get?_push_of_some _ (u4 _ _ (u3 _ _ g2)),rfl,rfl⟩
  (Nat.le_refl _) ?_ ?_ ?_ ?_ fun c o q=>Heap.get?_push_of_some _ (u4 _ _ (u3 _ _ (u2 _ _ (u1 _ _ q))))⟩
 ·rw[e1];exact p _ _
 ·rw[e2];exact p _ _
 ·rw[e3];exact p _ _
 rw[e4];exact p _ _
end
theorem zm {prog:Program}{w:World}{A:Around}(hh:A.handled=none) (it t:Addr) (hne:t≠it) (items:Array Value) (k:Nat) (hk:items[k]?=none) :
  Draws prog w A it [it,t] k (fun _ _=>True) (fun i h=>i=k/\h.IsTupleIter it t i/\h.IsTuple t items) where
 live:=fun _ _ st=>let ⟨o,ho,_⟩:=st.2.1;⟨o,ho⟩
 frame:=fun _ _ _ st hk=>⟨st.1,st.2.1.at fun o e=>hk it (by simp) o e,st.2.2.at fun o e=>hk t (by simp) o e⟩
 item:=fun i s Q E hi st hQ=>absurd st.1 (Nat.ne_of_lt hi)
 done:=fun s Q E st hE=>zg hh st.2.1 st.2.2 hk hE
section
variable {X:Cx}{pins:List (Addr × Obj)}{U:L2.St}{H:Hp}{s:Shared}{h':Heap}
theorem jU {ch:List Addr}{t':Nat}(I:Inv X pins U H s) (k:∀b o,b∉ch->s.heap.get? b=some o->h'.get? b=some o) (hf:∀b∈ch,j5 X pins H b):Inv X pins U H { s with heap:=h',toks:=t'}:=by
 have nit:∀b u,H b=some u->b∉ch:=fun b u e z=>by rw[(hf b z).1] at e;cases e
 refine I.step (g':=s.gens) (d':=s.drawn) (ch:=ch) (fun b hb=>?_) (fun b o _ _ hc e _=>k b o hc e) (fun b o _ _ hc e _=>⟨o.slots,k b o hc e⟩) (fun _ _ _ _ n=>n)
  (fun b o hc e=>⟨o,k b o hc e⟩) (fun _ _ e=>e) (fun _ _ _ e=>e) (fun b ps e=>⟨#[],by rw[e];simp⟩) (fun m hm=>?_) (fun b u e=>?_) I.bare
 ·obtain⟨_,f1,_,f3,f4,f5⟩:=hf b hb;exact⟨f3,f1,f4,f5⟩
 ·obtain⟨o,es,ep,ho,r⟩:=hm;exact⟨o,es,ep,k _ o (fun z=>(hf _ z).2.1 rfl) ho,r⟩
 refine (I.hok b u e).stay (fun c v hc q=>k c v ?_ q) (fun _ q=>q) fun _ _ q=>q;rcases hc with z | z
 ·rw[z];exact nit b u e
 exact nit c _ z
end
def Itz (K:Frag) (a b:Addr):It :=
 ⟨fun i H=>∃xs ys x y,SqT K H a xs/\SqT K H b ys/\xs[i]?=some x/\ys[i]?=some y,
  fun i H v H'=>∃p x y,v=.ref p/\H p=none/\H'=upd H p (.tup [x,y])/\(∀xs,SqT K H a xs->xs[i]?=some x)/\∀ys,SqT K H b ys->ys[i]?=some y,
  fun i H=>∃xs ys,SqT K H a xs/\SqT K H b ys/\(xs.length<=i\/ys.length<=i)⟩
def tnZ (a b z ti to i1 i2:Addr) (i:Nat) (h:Heap):Prop:=IsZip h z ti to .none/\IsPair h ti (.ref i1) (.ref i2)/\(∃u v,IsPair h to u v)/\h.IsTupleIter i1 a i/\h.IsTupleIter i2 b i
theorem nm2 {x p q:Addr}(h1:x≠p) (h2:x≠q):x∉[p,q]:=fun h=>by
 rcases List.mem_cons.mp h with e | e
 ·exact h1 e
 exact h2 (List.mem_singleton.mp e)
theorem zap {a b z ti to i1 i2:Addr}(l1:a<i1/\b<i1) (l2:i1<i2) (l3:i2<ti) (l4:ti<to) (l5:to<z):ZAp z ti to i1 i2 [i1,a] [i2,b] :=
 have t1:i1<ti:=Nat.lt_trans l2 l3
 have t2:i1<to:=Nat.lt_trans t1 l4
 have t3:i1<z:=Nat.lt_trans t2 l5
 have t4:i2<to:=Nat.lt_trans l3 l4
 have t5:i2<z:=Nat.lt_trans t4 l5
 have t6:ti<z:=Nat.lt_trans l4 l5
 ⟨⟨Nat.ne_of_lt t6,Nat.ne_of_lt l5,Nat.ne_of_lt l4,Nat.ne_of_lt l2⟩,List.mem_cons_self,List.mem_cons_self,
  ⟨nm2 (Nat.ne_of_gt t3) (Nat.ne_of_gt (Nat.lt_trans l1.1 t3)),nm2 (Nat.ne_of_gt t1) (Nat.ne_of_gt (Nat.lt_trans l1.1 t1)),nm2 (Nat.ne_of_gt t2) (Nat.ne_of_gt (Nat.lt_trans l1.1 t2)),nm2 (Nat.ne_of_gt l2) (Nat.ne_of_gt (Nat.lt_trans l1.1 l2))⟩,
  ⟨nm2 (Nat.ne_of_gt t5) (Nat.ne_of_gt (Nat.lt_trans l1.2 t3)),nm2 (Nat.ne_of_gt l3) (Nat.ne_of_gt (Nat.lt_trans l1.2 t1)),nm2 (Nat.ne_of_gt t4) (Nat.ne_of_gt (Nat.lt_trans l1.2 t2)),nm2 (Nat.ne_of_lt l2) (Nat.ne_of_gt l1.2)⟩⟩
theorem zp {P:Program}{w:World}{K:Frag}{elts:List Expr}{x1:Nat}{pos:Pos}(a b z ti to i1 i2:Addr) (l1:a<i1/\b<i1) (l2:i1<i2) (l3:i2<ti) (l4:ti<to) (l5:to<z) :
  Turn P w K (.Tuple elts x1 pos) (Itz K a b) [z,ti,to,i1,i2] z (tnZ a b z ti to i1 i2) where
 mem:=List.mem_cons_self
 obj:=fun i h st c hc=>by
  obtain⟨hz,hI,⟨u,v,hO⟩,⟨o1,e1,_,d1⟩,⟨o2,e2,_,d2⟩⟩:=st
  simp only[List.mem_cons,List.not_mem_nil,or_false] at hc
  rcases hc with rfl | rfl | rfl | rfl | rfl
  ·
   exact⟨_,hz,fun v z=>by cases z⟩
  ·
   exact⟨_,hI,fun v z=>by cases z⟩
  ·
   exact⟨_,hO,fun v z=>by cases z⟩
  ·
   exact⟨_,e1,fun v z=>by rw[d1] at z;cases z⟩
  ·
   exact⟨_,e2,fun v z=>by rw[d2] at z;cases z⟩
 keep:=fun i h h' st k=>by
  obtain⟨hz,hI,⟨u,v,hO⟩,h1,h2⟩:=st
  exact⟨k z (by simp) _ hz,k ti (by simp) _ hI,⟨u,v,k to (by simp) _ hO⟩,h1.at fun o e=>k i1 (by simp) o e,h2.at fun o e=>k i2 (by simp) o e⟩
 item:=by
  intro X hP hw hK hc i pins s U H E I hf st hg
  subst hP hw hK
  obtain⟨xs,ys,x,y,qx,qy,ex,ey⟩:=hg
  obtain⟨its,rv,p1,hz1⟩:=I.tuple qx
  obtain⟨jts,rw',p2,hz2⟩:=I.tuple qy
  obtain⟨u,hu,ru⟩:=rv.get ex
  obtain⟨v,hv,rv'⟩:=rw'.get ey
  have hz:=st.1
  have hI:=st.2.1
  obtain⟨a0,b0,hO⟩:=st.2.2.1
  have h1:=st.2.2.2.1
  have h2:=st.2.2.2.2
  have hu':its.toArray[i]?=some u:=by simpa using hu
  have hv':jts.toArray[i]?=some v:=by simpa using hv
  have D:ZAp z ti to i1 i2 [i1,a] [i2,b]:=zap l1 l2 l3 l4 l5
  have d1:=o4 (prog:=X.prog) (w:=X.w) (A:=X.A.in1) (I.ok.hd hc) i1 a (Nat.ne_of_lt l1.1) its.toArray
  have d2:=o4 (prog:=X.prog) (w:=X.w) (A:=X.A.in1) (I.ok.hd hc) i2 b (Nat.ne_of_lt (Nat.lt_trans l1.2 l2)) jts.toArray
  refine DR d1 d2 D hz hI hO ⟨h1,p1⟩ ⟨h2,p2⟩ (Array.getElem?_eq_some_iff.mp hu').1 (Array.getElem?_eq_some_iff.mp hv').1 fun x' y' h' tk px py hz' hO' s1 s2 hT hsz kp=>?_
  have e1:x'=u:=Option.some.inj (px.symm.trans hu')
  have e2:y'=v:=Option.some.inj (py.symm.trans hv')
  subst e1 e2
  refine⟨_,rfl,wpAny_letOwnedTupleGo_zip hz' fun h2' hz2' sb=>?_⟩
  have kp2:∀c o,c∉[z,to,i1,i2]->s.heap.get? c=some o->h2'.get? c=some o:=fun c o nc e=>(sb.2 c fun q=>nc (q▸List.mem_cons_self)).trans (kp c o nc e)
  have hsub:∀c∈[z,to,i1,i2],c∈[z,ti,to,i1,i2]:=fun c hc=>by simp only[List.mem_cons,List.not_mem_nil,or_false] at hc ⊢;rcases hc with q | q | q | q <;> simp [q]
  have lt:∀{c o},s.heap.get? c=some o->s.heap.objs.size≠c:=fun e=>Nat.ne_of_gt (Heap.lt_size e)
  have lt1:∀{c:Addr},c∈[z,ti,to,i1,i2]->c≠s.heap.objs.size:=fun {c} hc=>by
   simp only[List.mem_cons,List.not_mem_nil,or_false] at hc
   rcases hc with q | q | q | q | q <;> subst q
   ·
    exact Ne.symm (lt hz)
   ·
    exact Ne.symm (lt hI)
   ·
    exact Ne.symm (lt hO)
   ·
    obtain⟨o,e,_⟩:=h1;exact Ne.symm (lt e)
   ·
    obtain⟨o,e,_⟩:=h2;exact Ne.symm (lt e)
  have hTz:s.heap.objs.size≠z:=lt hz
  have I1:Inv X pins U (upd H s.heap.objs.size (.tup [x,y])) { s with heap:=s.heap.push { cls:=.type "tuple",data:=.seq #[x',y']},toks:=tk} :=
   I.laid (t':=tk) (fun b o e=>Heap.get?_push_of_some _ e) (Nat.le_refl _) (show ObjOk X.prog X.w _ _ _ (.tup [x,y]) from ⟨by show 2<=sizeLine;decide,[x',y'],.cons ru (.cons rv' .nil),Tup0.new _ _⟩)
  have I2:Inv X pins U (upd H s.heap.objs.size (.tup [x,y])) { s with heap:=h2',toks:=tk}:=jU (s:={ s with heap:=s.heap.push { cls:=.type "tuple",data:=.seq #[x',y']},toks:=tk}) (ch:=[z,to,i1,i2]) (t':=tk) I1 (fun c o nc e=>by
   by_cases q:c=s.heap.objs.size
   ·
    subst q
    have e':(s.heap.push { cls:=.type "tuple",data:=.seq #[x',y']}).get? s.heap.objs.size=some o:=e
    rw[Heap.get?_push_size _ rfl] at e'
    cases e'
    exact (sb.2 _ hTz).trans hT
   ·
    have e':(s.heap.push { cls:=.type "tuple",data:=.seq #[x',y']}).get? c=some o:=e
    rw[Heap.get?_push_ne _ _ _ q] at e'
    exact kp2 c o nc e') fun c hc=>⟨by rw[aH (lt1 (hsub c hc))];exact (hf c (hsub c hc)).1,(hf c (hsub c hc)).2⟩
  refine⟨.ref s.heap.objs.size,_,I2,rfl,⟨s.heap.objs.size,x,y,rfl,I.hok.fresh (Nat.le_refl _),rfl,fun zs hq=>by rw[I.tuple_inj hq qx];exact ex,fun zs hq=>by rw[I.tuple_inj hq qy];exact ey⟩,?_,fun c hc=>by rw[aH (lt1 hc)];exact (hf c hc).1⟩
  have n1:ti≠z:=D.ne.1
  refine⟨hz2',?_,⟨x',y',(sb.2 to D.ne.2.1).trans hO'⟩,s1.1.at fun o e=>(sb.2 i1 D.i1z).trans e,s2.1.at fun o e=>(sb.2 i2 D.i2z).trans e⟩
  refine kp2 ti _ ?_ hI
  simp only[List.mem_cons,List.not_mem_nil,or_false,not_or]
  exact⟨D.ne.1,D.ne.2.2.1,Ne.symm D.i1ti,Ne.symm D.i2ti⟩
 done:=by
  intro X hP hw hK hc i pins s U H E I hf st hg
  subst hP hw hK
  obtain⟨xs,ys,qx,qy,hg⟩:=hg
  obtain⟨its,rv,p1,hz1⟩:=I.tuple qx
  obtain⟨jts,rw',p2,hz2⟩:=I.tuple qy
  have hz:=st.1
  have hI:=st.2.1
  obtain⟨a0,b0,hO⟩:=st.2.2.1
  have h1:=st.2.2.2.1
  have h2:=st.2.2.2.2
  have n1:=rv.length
  have n2:=rw'.length
  have D:ZAp z ti to i1 i2 [i1,a] [i2,b]:=zap l1 l2 l3 l4 l5
  have fin:∀(h':Heap) (tk:Nat),(∀c o,c∉[z,to,i1,i2]->s.heap.get? c=some o->h'.get? c=some o)->(none:Option Value)=none/\Inv X pins U H { s with heap:=h',toks:=tk}:=fun h' tk kp=>⟨rfl,jU I kp fun c hc=>hf c (by
   simp only[List.mem_cons,List.not_mem_nil,or_false] at hc ⊢;rcases hc with q | q | q | q <;> simp [q])⟩
  have d1:=o4 (prog:=X.prog) (w:=X.w) (A:=X.A.in1) (I.ok.hd hc) i1 a (Nat.ne_of_lt l1.1) its.toArray
  have d2:=o4 (prog:=X.prog) (w:=X.w) (A:=X.A.in1) (I.ok.hd hc) i2 b (Nat.ne_of_lt (Nat.lt_trans l1.2 l2)) jts.toArray
  by_cases hi:xs.length<=i
  ·
   have e1:=zm (prog:=X.prog) (w:=X.w) (A:=X.A.in1) (I.ok.hd hc) i1 a (Nat.ne_of_lt l1.1) its.toArray i (by simp;omega)
   exact zj (k:=i) e1 d2 D hz hI hO ⟨rfl,h1,p1⟩ ⟨h2,p2⟩ (.inl rfl) fin
  ·
   have hy:ys.length<=i:=hg.resolve_left hi
   have e2:=zm (prog:=X.prog) (w:=X.w) (A:=X.A.in1) (I.ok.hd hc) i2 b (Nat.ne_of_lt (Nat.lt_trans l1.2 l2)) jts.toArray i (by simp;omega)
   exact zj (k:=i) d1 e2 D hz hI hO ⟨h1,p1⟩ ⟨rfl,h2,p2⟩ (.inr ⟨by simp;omega,rfl⟩) fin
 self:=fun _ _ _ _ _ st h=>wpAny_pyIter_zip st.1 h
section
variable {X:Cx}{elts:List Expr}{x1:Nat}{tpos pos p:Pos}{ea eb:Expr}
def Qy (K:Frag) (t:TA):TI:=fun U H R=>t U H fun vs H1=>∃a b,vs=[.ref a,.ref b]/\(∃xs,SqT K H1 a xs)/\(∃ys,SqT K H1 b ys)/\R (Itz K a b) H1
theorem JP {t:TA}(hg:Gl X "zip") (hm:X.mg "zip"=none) (hv:bootBuiltins "zip"=some (.type "zip")) (ha:PA X [ea,eb] t)
  (hs:starEach [ea,eb] X.env=[(false,eval ea X.env),(false,eval eb X.env)]:=by rfl) (hs2:starEach [eb] X.env=[(false,eval eb X.env)]:=by rfl) :
  PI X (.Tuple elts x1 tpos) (.Call (.Name "zip" p) [ea,eb] [] pos) (Qy X.K t):=by
 intro pins s U H R I h;refine Call_ (eO I hg hm hv (PyProof.Rows.callWith_type1 (thn (ha pos pins s U H _ I h) fun us s1 ⟨vs,H1,I1,r1,q1⟩=>?_) (by rw[hs,hs2]) (by rw[hs2];rfl)));obtain⟨a,b,e,⟨xs,sa⟩,⟨ys,sb⟩,q⟩:=q1;subst e;cases r1 with
 |cons r rr =>
 cases rr with
 |cons r' rr =>
 cases rr;cases r;cases r';obtain⟨its,rv,p1,hz1⟩:=I1.tuple sa;obtain⟨jts,rw',p2,hz2⟩:=I1.tuple sb;have la:a<s1.heap.objs.size:=by obtain⟨o,e,_⟩:=p1;exact Heap.lt_size e
 have lb:b<s1.heap.objs.size:=by obtain⟨o,e,_⟩:=p2;exact Heap.lt_size e
 refine wR p1 p2 fun h' i1 i2 ti to z hz hI hO h1 h2 l0 l1 l2 l3 l4 kp=>wpAny_pyIter_zip hz ?_;have fr:∀c,i1<=c->j5 X pins H1 c:=fun c hc=>I1.fpOk (Nat.le_trans l0 hc) (I1.hok.fresh (Nat.le_trans l0 hc));refine⟨z,[z,ti,to,i1,i2],_,_,H1,rfl,I1.kept (t':=s1.toks) kp,zp a b z ti to i1 i2 ⟨Nat.lt_of_lt_of_le la l0,Nat.lt_of_lt_of_le lb l0⟩ l1 l2 l3 l4,⟨hz,hI,⟨_,_,hO⟩,h1,h2⟩,fun c hc=>fr c ?_,q⟩;simp only[List.mem_cons,List.not_mem_nil,or_false] at hc;simp only[Addr] at *;omega
def gR:List T->List T->List T
 |x::xs,y::ys=>.tup [x,y]::gR xs ys
 |_,_=>[]
theorem qM:∀(xs ys:List T) (i:Nat),(gR xs ys)[i]?=(match xs[i]?,ys[i]? with
  |some x,some y=>some (.tup [x,y])
  |_,_=>none)
 |[],ys,i=>by simp [gR]
 |x::xs,[],i=>by
  simp only[gR,List.getElem?_nil]
  cases (x::xs)[i]? <;> rfl
 |x::xs,y::ys,0=>by simp [gR]
 |x::xs,y::ys,i+1=>by simp only[gR,List.getElem?_cons_succ];exact qM xs ys i
theorem qN:∀(xs ys:List T),(gR xs ys).length=min xs.length ys.length
 |[],ys=>by simp [gR]
 |x::xs,[]=>by simp [gR]
 |x::xs,y::ys=>by simp [gR,qN xs ys]
def GZ (ta:TA3):TI3:=fun U H R=>ta U H fun vs H1=>match vs with
 |[.tup xs,.tup ys]=>R (gR xs ys) bJ H1
 |_=>False
theorem zq {K:Frag}{H:Hp}{a b:Addr}{ts us:List T}{xs ys:List V}(sa:SqT K H a xs) (ra:Reps K H ts xs) (sb:SqT K H b ys) (rb:Reps K H us ys):jx K (Itz K a b) (gR ts us) bJ H:=fun H' H3' le sh st=>by
 have hla:=ra.length;have hlb:=rb.length;refine⟨fun i hi=>⟨xs,ys,le _ _ sa,le _ _ sb,by rw[qN] at hi;omega⟩,fun i t e=>?_⟩;rw[qM] at e;cases e1:ts[i]? with
 |none=>rw[e1] at e;cases e
 |some x =>
 cases e2:us[i]? with
 |none=>rw[e1,e2] at e;cases e
 |some y =>
 rw[e1,e2] at e;cases e;obtain⟨v,ev,rv⟩:=ra.get e1;obtain⟨v',ev',rv'⟩:=rb.get e2;refine⟨⟨xs,ys,v,v',le _ _ sa,le _ _ sb,ev,ev'⟩,fun z H'' yl=>?_⟩;obtain⟨p,x',y',rfl,hp,rfl,q1,q2⟩:=yl;have:=(q1 xs (le _ _ sa)).symm.trans ev;cases this;have:=(q2 ys (le _ _ sb)).symm.trans ev';cases this;exact⟨aO hp,sh.new hp,SimH.newTup (H3:=H3') hp (.cons (rv.mono le) (.cons (rv'.mono le) .nil))⟩
theorem JQ:bootBuiltins "zip"=some (.type "zip"):=by decide +kernel
theorem JR {ta:TA3}(hg:Gl X "zip") (hm:X.mg "zip"=none) (ha:PA3 X [ea,eb] ta)
  (hs:starEach [ea,eb] X.env=[(false,eval ea X.env),(false,eval eb X.env)]:=by rfl) (hs2:starEach [eb] X.env=[(false,eval eb X.env)]:=by rfl) :
  PI3 X (.Tuple elts x1 tpos) (.Call (.Name "zip" p) [ea,eb] [] pos) (GZ ta):=by
 refine PI.imp (JP hg hm JQ ha hs hs2) ?_;rintro U H R ⟨U3,H3,R3,ss,sh,h,k⟩;refine⟨U3,H3,_,ss,sh,h,fun vs H' ts H3' le sh' r q=>?_⟩
 match ts,q,r with
 |[.tup xs,.tup ys],q,r =>
 obtain⟨v,w,rfl,r1,r2⟩:=r.two';obtain⟨a,us,rfl,sa,ra⟩:=r1.tup;obtain⟨b,us',rfl,sb,rb⟩:=r2.tup;exact⟨a,b,rfl,⟨_,sa⟩,⟨_,sb⟩,k _ _ bJ H' H3' le sh' (zq sa ra sb rb) q⟩
theorem JS (ta:TA3) {U:St3}{H:Hp3}{R:List T->(Hp3->Prop)->Hp3->Prop}:GZ ta U H R=ta U H fun vs H1=>match vs with
 |[.tup xs,.tup ys]=>R (gR xs ys) bJ H1
 |_=>False:=rfl
end
theorem qO {α:Type}(e1 e2 f:α->T) (as:List α) (rest:St3) {te:TE3}{still:Hp3->Prop}{fin:List T->Hp3->Prop}{v u:Option T}{H:Hp3}(hst:still H) (hl:as.length<=sizeLine)
  (ht:∀a∈as,∀Q:VK3,Q (f a) H->te (some (e1 a)::some (e2 a)::rest) H Q) (hfin:fin (as.map f) H) :
  cIter3 (yD 2 (oK (eX 0) (oK (eX 1) yC))) uT te still fin (as.map fun a=>.tup [e1 a,e2 a]) [] (v::u::rest) H:=by
 refine dG (fun r ys U H'=>∃(rs ds:List α) (v u:Option T),U=v::u::rest/\r=rs.map (fun a=>.tup [e1 a,e2 a])/\ys=ds.map f/\ds++rs=as/\H'=H) ⟨as,[],v,u,rfl,rfl,rfl,rfl,rfl⟩ ?_ ?_
 ·rintro ys U H' ⟨rs,ds,v,u,rfl,hrs,rfl,hsp,rfl⟩;have hrs':rs=[]:=List.map_eq_nil_iff.mp hrs.symm;subst hrs';rw[List.append_nil] at hsp;subst hsp;exact⟨hst,by rw[List.length_map];exact hl,hfin⟩
 rintro x r ys U H' N ⟨rs,ds,v,u,rfl,hrs,rfl,hsp,rfl⟩ hN;cases rs with
 |nil=>cases hrs
 |cons t rs =>
 injection hrs with a1 a2;subst a1 a2;refine⟨hst,rfl,?_⟩;show te (some (e1 t)::some (e2 t)::rest) H' _;refine ht t (by rw[<- hsp];simp) _ ⟨?_,hN _ _ _ ⟨rs,ds++[t],_,_,rfl,rfl,by simp,by rw[<- hsp];simp,rfl⟩⟩;have:=congrArg List.length hsp;simp only[List.length_append,List.length_cons] at this;rw[List.length_map];omega
theorem mX:∀(ts:List T),gR ts ts=ts.map fun t=>.tup [t,t]
 |[]=>rfl
 |t::r=>by rw[gR,mX r];rfl
def shp:Nat->T->Bool
 |_,.str _=>true
 |_,.int _=>true
 |d+1,.tup ts=>decide (ts.length<=sizeLine)&&ts.all (shp d)
 |_,_=>false
def tU (d:Nat):Sp3:=fun ts H Q=>∃t,d≠0/\ts=[t,t]/\shp (d - 1) t=true/\Q (.bl true) H
theorem zr {P:Program}{w:World}{K:Frag}{mg:Str->Option Value}{base:Heap}{k:Nat}{f:Addr}{fd:FuncData}{ps:List Str}{sp:Sp3}(h:∀ts H Q,¬sp ts H Q):FnOk3 P w K mg base k f fd ps sp :=
 ⟨fun vs H Q E ⟨ts,H3,Q3,_,_,q,_⟩=>absurd q (h _ _ _),fun A outer s H args us vs Q E _ _ _ _ ⟨ts,H3,Q3,_,_,q,_⟩=>absurd q (h _ _ _)⟩
theorem zu {n:Nat}:(List.replicate n true).all id=true:=by induction n <;> simp_all [List.replicate]
theorem tV (ts:List T):bK (ts.map fun _=>T.bl true)=some (List.replicate ts.length true):=by
 induction ts with
 |nil=>rfl
 |cons t r ih=>simp [bK,ih,List.replicate]
section
variable {H:Hp3}{Q:VK3}
theorem JT (x:T):kZ [x,.ty "str"] H Q=oq (isT "str" x H) fun b=>Q (.bl b) H:=by rw[qL];exact propext ⟨fun h=>h.2,fun h=>⟨by simp,h⟩⟩
theorem tW (x:Str):isT "str" (.str x) H=some true:=rfl
theorem tX (x:Int):isT "str" (.int x) H=some false:=rfl
theorem tY (x:List T):isT "str" (.tup x) H=some false:=rfl
theorem wU (x:Bool):isT "str" (.bl x) H=some false:=rfl
theorem tZ  : isT "str" (.non) H=some false:=rfl
theorem JV (x:T):kZ [x,.ty "int"] H Q=oq (isT "int" x H) fun b=>Q (.bl b) H:=by rw[qL];exact propext ⟨fun h=>h.2,fun h=>⟨by simp,h⟩⟩
theorem t7 (x:Str):isT "int" (.str x) H=some false:=rfl
theorem ud (x:Int):isT "int" (.int x) H=some true:=rfl
theorem ue (x:List T):isT "int" (.tup x) H=some false:=rfl
theorem wV (x:Bool):isT "int" (.bl x) H=some true:=rfl
theorem uf  : isT "int" (.non) H=some false:=rfl
theorem DW (x:T):kZ [x,.ty "bool"] H Q=oq (isT "bool" x H) fun b=>Q (.bl b) H:=by rw[qL];exact propext ⟨fun h=>h.2,fun h=>⟨by simp,h⟩⟩
theorem qP (x:Str):isT "bool" (.str x) H=some false:=rfl
theorem qQ (x:Int):isT "bool" (.int x) H=some false:=rfl
theorem qR (x:List T):isT "bool" (.tup x) H=some false:=rfl
theorem ug (x:Bool):isT "bool" (.bl x) H=some true:=rfl
theorem qT  : isT "bool" (.non) H=some false:=rfl
theorem zx (x:T):kZ [x,.ty "tuple"] H Q=oq (isT "tuple" x H) fun b=>Q (.bl b) H:=by rw[qL];exact propext ⟨fun h=>h.2,fun h=>⟨by simp,h⟩⟩
theorem o5 (x:Str):isT "tuple" (.str x) H=some false:=rfl
theorem o6 (x:Int):isT "tuple" (.int x) H=some false:=rfl
theorem o7 (x:List T):isT "tuple" (.tup x) H=some true:=rfl
theorem qU (x:Bool):isT "tuple" (.bl x) H=some false:=rfl
theorem o8  : isT "tuple" (.non) H=some false:=rfl
theorem DX (x:T):kZ [x,.ty "list"] H Q=oq (isT "list" x H) fun b=>Q (.bl b) H:=by rw[qL];exact propext ⟨fun h=>h.2,fun h=>⟨by simp,h⟩⟩
theorem qW (x:Str):isT "list" (.str x) H=some false:=rfl
theorem qX (x:Int):isT "list" (.int x) H=some false:=rfl
theorem qY (x:List T):isT "list" (.tup x) H=some false:=rfl
theorem uh (x:Bool):isT "list" (.bl x) H=some false:=rfl
theorem qZ  : isT "list" (.non) H=some false:=rfl
theorem DY {α:Type} [DecidableEq α] (a:α):decide (a=a)=true:=decide_eq_true rfl
end
open L2 PySem.Builtin PySem.Builtin.Str
section
variable {prog:Program}{w:World}{A:Around}{E:Value->Shared->Prop}{s:Shared}{x y:Str}{t u:Tok}{Q:Value->Shared->Prop}
def ofStrs (l:List (Str × Tok)):Obj:={ cls:=.type "list",data:=.seq (strValues l).toArray}
theorem Ea (hy:(y.length==0)=false) (hsz:x.length+2<=sizeLine)
  (h:∀l k,l.map (·.1)=Txt.split x y->Q (.ref s.heap.objs.size) { s with heap:=s.heap.push (ofStrs l),toks:=k}):wpAny (model prog w) A (call (.builtin "str.split") [.str x t,.str y u]) Q E s:=by
 have go:∀{S:PySem.Spec},Meets («str.split» ⟨[.str x t,.str y u],[]⟩) S->S A (wants Q E) s->wpAny (model prog w) A (call (.builtin "str.split") [.str x t,.str y u]) Q E s:=fun m q=>call_meets F.slot_str_split (typeIs_str _ _ _) F.entry_str_split (F.args_str_split_2 _ _) m q;have many:(partsBetween x (occurrences x y 0 x.length (x.length+1)) y.length).length<=sizeLine:=by rw[length_partsBetween];have:=StrLaws.occ_length_le x y 0 x.length (x.length+1);omega
 cases h1:(decide (x.length<y.length)||decide (strKind x<strKind y)) with
 |true=>exact go (meets_str_split_cannot_occur x y t u h1) (h [(x,t)] s.toks (if_pos h1).symm)
 |false =>
 cases hf:(occurrences x y 0 x.length (x.length+1)).isEmpty with
 |true=>exact go (meets_str_split_not_found x y t u h1 hy hf) (h [(x,t)] s.toks ((if_neg (ne_true_of_eq_false h1)).trans (if_pos hf)).symm)
 |false =>
 refine go (meets_str_split_sep x y t u h1 hy hf (by omega) many) ?_;have q:=h (numbered s.toks (partsBetween x (occurrences x y 0 x.length (x.length+1)) y.length)) (s.toks+(partsBetween x (occurrences x y 0 x.length (x.length+1)) y.length).length) ((numbered_texts _ _).trans ((if_neg (ne_true_of_eq_false h1)).trans (if_neg (ne_true_of_eq_false hf))).symm);unfold ofStrs at q;rw[<- strsFrom_eq] at q;exact q
end
theorem vh:∀(l:List (Str × Tok)),Vals ((l.map (·.1)).map V.str) (strValues l)
 |[]=>.nil
 | (x,t)::r=>.cons ⟨t,rfl⟩ (vh r)
theorem vm {K:Frag}{H:Hp}:∀(xs:List Str),Reps K H (xs.map T.str) (xs.map V.str)
 |[]=>.nil
 |x::r=>.cons .ofStr (vm r)
theorem split_len (x y:Str):(Txt.split x y).length<=x.length+2:=by
 unfold Txt.split;split
 ·simp
 split
 ·simp
 rw[length_partsBetween];have:=StrLaws.occ_length_le x y 0 x.length (x.length+1);omega
section
variable {X:Cx}
def vo:T->List T->Hp3->VK3->Prop:=fun x ts H Q=>match x,ts with
 |.str z,[.str y]=>(y.length==0)=false/\z.length+2<=sizeLine/\∀p,H p=none->Q (.ref p) (up3 H p (.lst ((Txt.split z y).map T.str)))
 |_,_=>False
theorem q8:wM X "str.split" vo:=by
 intro pins s U H x xs v us Q I rx0 rs0 hh;obtain⟨tx,ts,H3,Q3,rx,rs,sh,h,k⟩:=hh
 match tx,ts,h,rx,rs with
 |.str z,[.str y],h,rx,rs =>
 obtain⟨w,rfl,rv⟩:=rs.one';obtain⟨u,rfl,ru⟩:=vals1 rs0;rw[rv.str] at ru;obtain⟨t',rfl⟩:=ru;rw[rx.str] at rx0;obtain⟨t,rfl⟩:=rx0;obtain⟨h1,h2,h3⟩:=h;refine Ea h1 h2 fun l tk e=>?_;have hf:H s.heap.objs.size=none:=I.hok.fresh (Nat.le_refl _);have rl:Reps X.K H ((Txt.split z y).map T.str) ((Txt.split z y).map V.str):=vm _;have hlen:=split_len z y;refine⟨.ref s.heap.objs.size,upd H s.heap.objs.size (.lst ((Txt.split z y).map V.str)),I.laid (t':=tk) (fun b o q=>Heap.get?_push_of_some _ q) (Nat.le_refl _) ?_,rfl,k _ _ _ _ (aO hf) (sh.newLst hf rl) .ofRef (h3 _ (sh.fresh hf))⟩;exact⟨by rw[List.length_map];omega,strValues l,0,by rw[<- e];exact vh l,Heap.get?_push_size _ rfl⟩
theorem Eb (z y:Str) {H:Hp3}{Q:VK3}:vo (.str z) [.str y] H Q=((y.length==0)=false/\z.length+2<=sizeLine/\∀p,H p=none->Q (.ref p) (up3 H p (.lst ((Txt.split z y).map T.str)))):=rfl
end
theorem q9 {T newId:String}{self:Value}{rest:List Value}{kw:List (Str × Value)}(hl:typeLookup (.type T) "__init__"=pure (some (.builtin "object.__init__")))
  (hm:Bind.madeBy (.type T)=pure (some newId)) (hne:(some newId != some "object.__new__")=true) :
  Meets (Builtin.«object.__init__» ⟨self::rest,kw⟩) (fun _ R s=>s.TypeIs self T/\R (.ok (.ret .none)) s):=by
 refine Meets.of_wp fun prog w A R s hs=>?_;obtain⟨hT,hq⟩:=hs;cases rest with
 |nil =>
  cases kw with
  |nil=>exact wpAny_pure ⟨_,rfl,hq⟩
  |cons a rest =>
   repeat (any_goals (first | assumption | wp_step))
   exact⟨_,rfl,hq⟩
 |cons a rest =>
  repeat (any_goals (first | assumption | wp_step))
  exact⟨_,rfl,hq⟩
section
variable {prog:Program}{w:World}{A:Around}{E:Value->Shared->Prop}{s:Shared}
theorem wW {T newId initId:String}{Bn Bi:Builtin}{args:List Value}{kw:List (Str × Value)}{S:PySem.Spec}{Q Q₁:Value->Shared->Prop}(ft:TypeCalled T newId initId)
  (hct:checkTypeCall T ⟨args,kw⟩=pure ()) (hcn:checkBuiltinCall newId ⟨.type T::args,kw⟩=pure ())
  (entryN:entryFor table newId=some Bn) (entryI:entryFor table initId=some Bi) (g:Meets (Bn ⟨.type T::args,kw⟩) S)
  (h:S A.in1 (wants Q₁ E) s)
  (hnext:∀obj s1,Q₁ obj s1->s1.TypeIs obj T/\argsOk initId ⟨obj::args,kw⟩/\∃Si,Meets (Bi ⟨obj::args,kw⟩) Si/\Si A.in1 (wants (fun r s2=>r=.none/\Q obj s2) E) s1) :
  wpAny (model prog w) A (call (.type T) args kw) Q E s:=by
 obtain⟨c,tl,hmro⟩:=ft.mro;have hmade:=ft.made;have hsub:=ft.sub;refine wpAny_call (codeAny_of_tree ?_);show wpAny _ _ (callAny (.type T) _) _ _ _;refine wpAny_pure ⟨Code.quiet_builtin _ (by decide +kernel),codeAny_builtin F.entry_type_call ?_⟩;rw[Around.under_plain (weight_type_call_type T args kw) (units_type_call_type T args kw)];have h1:=ft.notType;have h2:=ft.canCreate;repeat (any_goals (first | assumption | wp_step))
 refine codeAny_mono (codeAny_call_builtin ft.plain entryN (wpAny_of_eq hcn (g prog w A.in1 _ s h))) fun r s1 hr=>?_;cases r with
 |error e=>exact hr
 |ok fl =>
 cases fl with
 |ret obj =>
  obtain⟨hT,hok,Si,gi,hsi⟩:=hnext _ _ hr;have hli:=ft.init.lookup;have hbi:=ft.init.bind obj;repeat (any_goals (first | assumption | wp_step))
  refine codeAny_mono (codeAny_call_builtin ft.init.plain entryI (ft.init.check _ _ _ _ _ _ _ _ hT hok (gi prog w A.in1 _ s1 hsi))) fun r2 s2 hr2=>?_;cases r2 with
  |error e=>exact hr2
  |ok fl2 =>
  cases fl2 with
  |ret r=>obtain⟨rfl,hq⟩:=hr2;repeat (any_goals (first | assumption | wp_step))
  |_=>exact hr2.elim
 |_=>exact hr.elim
end
abbrev G4 (l:Addr):Obj:={ cls:=.type "list_iterator",data:=.fields #[.ref l,.int 0 0]}
theorem rm (l:Addr) (items:Array Value) (n:Nat) (u:Tok) :
  Meets (Builtin.«enumerate.__new__» ⟨[.type "enumerate",.ref l],[("start",.int 1 u)]⟩) (fun _ R s=>s.heap.get? l=some { cls:=.type "list",dict:=none,data:=.seq items n,slots:=#[]} /\
   ∀h1 tk,h1=s.heap.push (G4 l)->s.toks<=tk->R (.ok (.ret (.ref h1.objs.size)))
    { s with heap:=h1.push { cls:=.type "enumerate",data:=.fields #[.none,.bool false,.ref s.heap.objs.size,rawInt 1,.none,.none]},toks:=tk}) :=
 .of_wp fun prog w A R s h=>by
  obtain⟨hp,g,d,tk,os⟩:=s;obtain⟨hl,h⟩:=h;have hsub:=sub_enumerate;have hL:Heap.IsList (Shared.heap ⟨hp,g,d,tk,os⟩) l items:=⟨_,hl,rfl,n,rfl⟩
  wp_walk using AutoSeq1.wpAny_loadPart' hl
  refine wpAny_stack_any fun st=>wpAny_pure ?_;split
  ·rename_i c _ _ _ _ _;cases (c==Value.type "enumerate")
   ·wp_walk using AutoSeq1.wpAny_loadPart' hl,wpAny_pyIter_list hL
    exact⟨_,rfl,h _ _ rfl (Nat.le_refl _)⟩
   wp_walk using AutoSeq1.wpAny_loadPart' hl,wpAny_pyIter_list hL
   exact⟨_,rfl,h _ _ rfl (Nat.le_refl _)⟩
  wp_walk using AutoSeq1.wpAny_loadPart' hl,wpAny_pyIter_list hL
  exact⟨_,rfl,h _ _ rfl (Nat.le_refl _)⟩
theorem Ec (a b:Value):checkTypeCall "enumerate" ⟨[a],[("start",b)]⟩=pure ():=by kernel_rfl
theorem JW (a b:Value):checkBuiltinCall "enumerate.__new__" ⟨[.type "enumerate",a],[("start",b)]⟩=pure ():=by kernel_rfl
theorem Ed (o a b:Value):argsOk "object.__init__" ⟨[o,a],[("start",b)]⟩:=by
 unfold argsOk;rw[signature?_of (id:="object.__init__") (n:=['_','_','t','i','n','i','_','_']) (o:=['t','c','e','j','b','o']) (by kernel_rfl) F.owner_object];kernel_rfl
section
variable {prog:Program}{w:World}{A:Around}{E:Value->Shared->Prop}{s:Shared}
theorem ul {l:Addr}{items:Array Value}{n:Nat}{u:Tok}{Q:Value->Shared->Prop}(hl:s.heap.get? l=some { cls:=.type "list",dict:=none,data:=.seq items n,slots:=#[]})
  (h:∀h' it e tk,IsEnum h' e it 1 .none->h'.IsListIter it l 0->s.heap.objs.size<=it->it<e->(∀c o,s.heap.get? c=some o->h'.get? c=some o)->Q (.ref e) { s with heap:=h',toks:=tk}) :
  wpAny (model prog w) A (call (.type "enumerate") [.ref l] [("start",.int 1 u)]) Q E s:=by
 refine wW F.called_enumerate (Ec _ _) (JW _ _) F.entry_enumerate_new F.entry_object_init (rm l items n u) (Q₁:=fun obj s1=>s1.TypeIs obj "enumerate"/\Q obj s1) ⟨hl,fun h1 tk e1 htk=>?_⟩ fun obj s1 hq=>⟨hq.1,Ed _ _ _,_,q9 F.called_enumerate.init.lookup F.called_enumerate.made (by decide),hq.1,rfl,hq.2⟩;have g2:=Heap.get?_push_size h1 (o:={ cls:=.type "enumerate",data:=.fields #[.none,.bool false,.ref s.heap.objs.size,rawInt 1,.none,.none]}) rfl;have g1:h1.get? s.heap.objs.size=some (G4 l):=by rw[e1];exact Heap.get?_push_size _ rfl
 refine⟨⟨_,g2,rfl⟩,h _ s.heap.objs.size h1.objs.size tk g2 ⟨_,Heap.get?_push_of_some _ g1,rfl,rfl⟩ (Nat.le_refl _) ?_ fun c o q=>Heap.get?_push_of_some _ ?_⟩
 ·rw[e1,Heap.size_push];exact Nat.lt_succ_self _
 rw[e1];exact Heap.get?_push_of_some _ q
end
theorem vp {prog:Program}{w:World}{A:Around}{it:Addr}{fp:List Addr}{n:Nat}{P:Nat->Value->Prop}{St:Nat->Heap->Prop}(D:Draws prog w A it fp n P St) :
  Draws prog w A it fp (n+1) (fun j v=>∀i,j=i+1->P i v) (fun j h=>∃i,j=i+1/\St i h) where
 live:=fun _ _ ⟨i,_,st⟩=>D.live i _ st
 frame:=fun _ _ _ ⟨i,e,st⟩ hk=>⟨i,e,D.frame i _ _ st hk⟩
 item:=fun j s Q E hj ⟨i,e,st⟩ hQ=>by
  subst e
  refine D.item i s Q E (by omega) st fun x h' tk px st' sb=>hQ x h' tk (fun i' e=>?_) ⟨i+1,rfl,st'⟩ sb
  have q:i'=i:=by omega
  rw[q]
  exact px
 done:=fun s Q E ⟨i,e,st⟩ hE=>by
  have:i=n:=by omega
  subst this
  exact D.done s Q E st hE
theorem Ef {prog:Program}{w:World}{A:Around}(hh:A.handled=none) (it t:Addr) (hne:t≠it) (items:Array Value) (k:Nat) (hk:items[k]?=none) :
  Draws prog w A it [it,t] k (fun _ _=>True) (fun i h=>i=k/\h.IsListIter it t i/\h.IsList t items) where
 live:=fun _ _ st=>let ⟨o,ho,_⟩:=st.2.1;⟨o,ho⟩
 frame:=fun _ _ _ st hk=>⟨st.1,st.2.1.at fun o e=>hk it (by simp) o e,st.2.2.at fun o e=>hk t (by simp) o e⟩
 item:=fun i s Q E hi st hQ=>absurd st.1 (Nat.ne_of_lt hi)
 done:=fun s Q E st hE=>wpAny_nextOf_list_end hh st.2.1 st.2.2 hk hE
def Ite (K:Frag) (a:Addr):It :=
 ⟨fun i H=>∃xs x,SqL K H a xs/\xs[i]?=some x,
  fun i H v H'=>∃p x,v=.ref p/\H p=none/\H'=upd H p (.tup [.int ((i:Int)+1),x])/\∀xs,SqL K H a xs->xs[i]?=some x,
  fun i H=>∃xs,SqL K H a xs/\xs.length<=i⟩
theorem wX {P:Program}{w:World}{K:Frag}{elts:List Expr}{x1:Nat}{pos:Pos}(a it e:Addr) (l1:a<it) (l2:it<e) :
  Turn P w K (.Tuple elts x1 pos) (Ite K a) [e,it] e (fun i h=>(∃old,IsEnum h e it ((i:Int)+1) old)/\h.IsListIter it a i) where
 mem:=List.mem_cons_self
 obj:=fun i h st c hc=>by
  obtain⟨⟨old,he⟩,⟨o1,e1,_,d1⟩⟩:=st
  simp only[List.mem_cons,List.not_mem_nil,or_false] at hc
  rcases hc with rfl | rfl
  ·
   exact⟨_,he,fun v z=>by cases z⟩
  ·
   exact⟨_,e1,fun v z=>by rw[d1] at z;cases z⟩
 keep:=fun i h h' st k=>by
  obtain⟨⟨old,he⟩,h1⟩:=st
  exact⟨⟨old,k e (by simp) _ he⟩,h1.at fun o q=>k it (by simp) o q⟩
 item:=by
  intro X hP hw hK hc i pins s U H E I hf st hg
  subst hP hw hK
  obtain⟨xs,x,hq,hx⟩:=hg
  obtain⟨its,rv,p,hz⟩:=I.list hq
  obtain⟨u,hu,ru⟩:=rv.get hx
  obtain⟨⟨old,he⟩,h1⟩:=st
  have hu':its.toArray[i]?=some u:=by simpa using hu
  have hai:a≠it:=Nat.ne_of_lt l1
  have hei:e≠it:=Nat.ne_of_gt l2
  have hea:e≠a:=Nat.ne_of_gt (Nat.lt_trans l1 l2)
  have hef:e∉[it,a]:=by simp [hei,hea]
  have D:=vp (Draws.list (prog:=X.prog) (w:=X.w) (A:=X.A.in1) (I.ok.hd hc) it a hai its.toArray)
  have he':IsEnum s.heap e it ((i+1:Nat):Int) old:=by
   rw[show ((i+1:Nat):Int)=(i:Int)+1 from by omega]
   exact he
  refine wpAny_pyNext_enum_itemD (i:=i+1) D he' ⟨i,rfl,h1,p.isList⟩ (by have:=(Array.getElem?_eq_some_iff.mp hu').1;omega) hei hef fun x' h' tk px ho hs' hT hsz kp=>?_
  have e1:x'=u:=Option.some.inj ((px i rfl).symm.trans hu')
  subst e1
  obtain⟨j,ej,hs1,hs2⟩:=hs'
  have:j=i+1:=by omega
  subst this
  refine⟨_,rfl,wpAny_letOwnedTupleGo_enum ho fun h2' hz2' sb=>?_⟩
  have kp2:∀c o,c∉[e,it]->s.heap.get? c=some o->h2'.get? c=some o:=fun c o nc q=>(sb.2 c fun z=>nc (z▸List.mem_cons_self)).trans (kp c o (fun z=>nc (z▸List.mem_cons_self)) (fun z=>nc (by simp [z])) q)
  have lt:∀{c o},s.heap.get? c=some o->s.heap.objs.size≠c:=fun q=>Nat.ne_of_gt (Heap.lt_size q)
  have lt1:∀{c:Addr},c∈[e,it]->c≠s.heap.objs.size:=fun {c} hc=>by
   simp only[List.mem_cons,List.not_mem_nil,or_false] at hc
   rcases hc with q | q <;> subst q
   ·
    exact Ne.symm (lt he)
   ·
    obtain⟨o,q,_⟩:=h1;exact Ne.symm (lt q)
  have hTe:s.heap.objs.size≠e:=lt he
  have I1:Inv X pins U (upd H s.heap.objs.size (.tup [.int ((i:Int)+1),x])) { s with heap:=s.heap.push { cls:=.type "tuple",data:=.seq #[.int ((i+1:Nat):Int) tk,x']},toks:=tk+1} :=
   I.laid (t':=tk+1) (fun b o q=>Heap.get?_push_of_some _ q) (Nat.le_refl _) (show ObjOk X.prog X.w _ _ _ (.tup [.int ((i:Int)+1),x]) from ⟨by show 2<=sizeLine;decide,[.int ((i+1:Nat):Int) tk,x'],.cons ⟨tk,by congr 1⟩ (.cons ru .nil),Tup0.new _ _⟩)
  have I2:Inv X pins U (upd H s.heap.objs.size (.tup [.int ((i:Int)+1),x])) { s with heap:=h2',toks:=tk+1}:=jU (s:={ s with heap:=s.heap.push { cls:=.type "tuple",data:=.seq #[.int ((i+1:Nat):Int) tk,x']},toks:=tk+1}) (ch:=[e,it]) (t':=tk+1) I1 (fun c o nc q=>by
   by_cases z:c=s.heap.objs.size
   ·
    subst z
    have q':(s.heap.push { cls:=.type "tuple",data:=.seq #[.int ((i+1:Nat):Int) tk,x']}).get? s.heap.objs.size=some o:=q
    rw[Heap.get?_push_size _ rfl] at q'
    cases q'
    exact (sb.2 _ hTe).trans hT
   ·
    have q':(s.heap.push { cls:=.type "tuple",data:=.seq #[.int ((i+1:Nat):Int) tk,x']}).get? c=some o:=q
    rw[Heap.get?_push_ne _ _ _ z] at q'
    exact kp2 c o nc q') fun c hc=>⟨by rw[aH (lt1 hc)];exact (hf c hc).1,(hf c hc).2⟩
  refine⟨.ref s.heap.objs.size,_,I2,rfl,⟨s.heap.objs.size,x,rfl,I.hok.fresh (Nat.le_refl _),rfl,fun zs hq'=>by rw[I.list_inj hq' hq];exact hx⟩,⟨⟨x',?_⟩,hs1.at fun o q=>(sb.2 it (Ne.symm hei)).trans q⟩,fun c hc=>by rw[aH (lt1 hc)];exact (hf c hc).1⟩
  rw[show (((i+1:Nat):Int)+1)=((i+1:Nat):Int)+1 from rfl]
  exact hz2'
 done:=by
  intro X hP hw hK hc i pins s U H E I hf st hg
  subst hP hw hK
  obtain⟨xs,hq,hx⟩:=hg
  obtain⟨its,rv,p,hz⟩:=I.list hq
  obtain⟨⟨old,he⟩,h1⟩:=st
  have hl:=rv.length
  have hai:a≠it:=Nat.ne_of_lt l1
  have D:=vp (Ef (prog:=X.prog) (w:=X.w) (A:=X.A.in1) (I.ok.hd hc) it a hai its.toArray i (by simp;omega))
  exact wpAny_pyNext_enum_endD D he ⟨i,rfl,rfl,h1,p.isList⟩ fun h' eb=>⟨rfl,jU (ch:=[e,it]) (t':=s.toks) I (fun b o nb q=>eb b o (fun z=>nb (by simp [z])) q) hf⟩
 self:=fun _ _ _ _ _ st h=>wpAny_pyIter_enum st.1.choose_spec h
theorem lB {M:Model}{A:Around}{E:Value->Shared->Prop}{s:Shared}{pos:Pos}{Ty:String}{args:List (Bool × Sem Value)}{keywords:List (Option Str × Sem Value)}{Q:Value->Shared->Prop}(hplain:args.any (·.1)=false) (hkw:keywords.any (·.1.isNone)=false)
  (h:wpAny M A (evalArgs (.type Ty) true args keywords) (fun a s1=>wpAny M A (call (.type Ty) a.pos a.kw) Q E s1) E s):wpAny M A (callWith pos (.type Ty) [] args keywords) Q E s:=by
 unfold callWith;refine wpAny_bind (wpAny_holding (wpAny_mono h (fun a s1 h1=>wpAny_bind (wpAny_standAt ?_)) fun _ _ x=>x));simp only[hplain,hkw,Bool.or_false];refine wpAny_bind (wpAny_pure ?_);exact wpAny_bind (wpAny_mono h1 (fun r s2 hr=>wpAny_bind (wpAny_holding (wpAny_point (wpAny_pure hr)))) fun _ _ x=>x)
section
variable {X:Cx}{elts:List Expr}{x1 j:Nat}{tpos pos p cp kp:Pos}{e:Expr}
def Oo (K:Frag) (te:TE):TI:=fun U H R=>te U H fun x H1=>∃a,x=.ref a/\(∃xs,H1 a=some (.lst xs))/\R (Ite K a) H1
theorem Eg {te:TE}(hg:Gl X "enumerate") (hm:X.mg "enumerate"=none) (hv:bootBuiltins "enumerate"=some (.type "enumerate")) (he:PE X e te)
  (hs:starEach [e] X.env=(false,eval e X.env)::starEach [] X.env:=by rfl) :
  PI X (.Tuple elts x1 tpos) (.Call (.Name "enumerate" p) [e] [⟨some "start",.Constant (.int 1) j cp,kp⟩] pos) (Oo X.K te):=by
 intro pins s U H R I h;refine wpAny_Call_Name_kw (eO I hg hm hv ?_ (by decide) (by decide));refine lB (by rw[hs];rfl) rfl ?_;refine evalArgs_kw2 rfl ?_ hs;rw[hs];show wpAny _ _ (spliced ((false,eval e X.env)::backTo pos (starEach [] X.env))) _ _ s;refine Calls.spliced_cons (thn (he pins s U H _ I h) fun u s1 ⟨x,H1,I1,r1,a,ea,⟨xs,hl⟩,q⟩=>?_);subst ea;cases r1;refine Calls.spliced_nil ?_;refine kwAll_cons ?_;refine thn (xM pins s1 U H1 (fun v H'=>v=.int 1/\H'=H1) I1 ⟨rfl,rfl⟩) fun u s2 ⟨y,H2,I2,r2,ey,eH⟩=>?_;subst ey eH;obtain⟨tk,rfl⟩:=r2;refine kwAll_nil ?_;obtain⟨hz,its,n,rv,ho⟩:=I2.hok a _ hl;show wpAny _ _ (call (.type "enumerate") [.ref a] [("start",.int 1 tk)]) _ _ s2;have la:a<s2.heap.objs.size:=Heap.lt_size ho;refine ul ho fun h' it en tk hE hL l0 l1 kp=>wpAny_pyIter_enum hE ?_;refine⟨en,[en,it],_,_,H2,rfl,I2.kept kp,wX a it en (Nat.lt_of_lt_of_le la l0) l1,⟨⟨.none,hE⟩,hL⟩,fun c hc=>?_,q⟩;have hc':s2.heap.objs.size<=c:=by
  simp only[List.mem_cons,List.not_mem_nil,or_false] at hc;rcases hc with z | z <;> subst z
  ·exact Nat.le_trans l0 (Nat.le_of_lt l1)
  exact l0
 exact I2.fpOk hc' (I2.hok.fresh hc')
theorem o9:bootBuiltins "enumerate"=some (.type "enumerate"):=by decide +kernel
def d9 (k:Int):List T->List T
 |[]=>[]
 |x::r=>.tup [.int (k+1),x]::d9 (k+1) r
theorem mY:∀(k:Int) (xs:List T) (i:Nat),(d9 k xs)[i]?=xs[i]?.map fun x=>.tup [.int (k+i+1),x]
 |_,[],i=>by simp [d9]
 |k,x::xs,0=>by simp [d9]
 |k,x::xs,i+1=>by
  simp only[d9,List.getElem?_cons_succ]
  rw[mY (k+1) xs i]
  have:k+1+(i:Int)+1=k+((i+1:Nat):Int)+1:=by omega
  rw[this]
theorem ji:∀(k:Int) (xs:List T),(d9 k xs).length=xs.length
 |_,[]=>rfl
 |k,x::xs=>by simp [d9,ji (k+1) xs]
def enH (o:Option O3) (a:Addr) (H:Hp3) (R:List T->(Hp3->Prop)->Hp3->Prop):Prop:=match o with
 |some (.lst ts)=>R (d9 0 ts) (bU a ts) H
 |_=>False
def enq (x:T) (H:Hp3) (R:List T->(Hp3->Prop)->Hp3->Prop):Prop:=match x with
 |.ref a=>enH (H a) a H R
 |_=>False
def zy (te:TE3):TI3:=fun U H R=>te U H fun x H1=>enq x H1 R
theorem Eh (te:TE3) {U:St3}{H:Hp3}{R:List T->(Hp3->Prop)->Hp3->Prop}:zy te U H R=te U H fun x H1=>enq x H1 R:=rfl
theorem Oq (a:Addr) {H:Hp3}{R:List T->(Hp3->Prop)->Hp3->Prop}:enq (.ref a) H R=enH (H a) a H R:=rfl
theorem G5 (ts:List T) (a:Addr) {H:Hp3}{R:List T->(Hp3->Prop)->Hp3->Prop}:enH (some (.lst ts)) a H R=R (d9 0 ts) (bU a ts) H:=rfl
theorem wY {K:Frag}{H:Hp}{a:Addr}{ts:List T}:jx K (Ite K a) (d9 0 ts) (bU a ts) H:=fun H' H3' le sh st=>by
 obtain⟨xs,sq,rs⟩:=sh.sqL st;have hl:=rs.length;refine⟨fun i hi=>⟨xs,sq,by rw[ji] at hi;omega⟩,fun i t e=>?_⟩;rw[mY] at e;cases q:ts[i]? with
 |none=>rw[q] at e;cases e
 |some x =>
 rw[q] at e;cases e;obtain⟨v,ev,rv⟩:=rs.get q;refine⟨⟨xs,v,sq,ev⟩,fun z H'' y=>?_⟩;obtain⟨p,x',rfl,hp,rfl,q1⟩:=y;have:=(q1 xs sq).symm.trans ev;cases this;refine⟨aO hp,sh.new hp,?_⟩;rw[show (0:Int)+(i:Int)+1=(i:Int)+1 from by omega];exact SimH.newTup (H3:=H3') hp (.cons .ofInt (.cons rv .nil))
theorem Ei {te:TE3}(hg:Gl X "enumerate") (hm:X.mg "enumerate"=none) (he:PE3 X e te) (hs:starEach [e] X.env=(false,eval e X.env)::starEach [] X.env:=by rfl) :
  PI3 X (.Tuple elts x1 tpos) (.Call (.Name "enumerate" p) [e] [⟨some "start",.Constant (.int 1) j cp,kp⟩] pos) (zy te):=by
 refine PI.imp (Eg hg hm o9 he hs) ?_;rintro U H R ⟨U3,H3,R3,ss,sh,h,k⟩;refine⟨U3,H3,_,ss,sh,h,fun v H' t H3' le sh' r q=>?_⟩;cases t with
 |ref a =>
  have q':enH (H3' a) a H3' R3:=q
  cases eo:H3' a with
  |none=>rw[eo] at q';exact q'.elim
  |some o =>
   rw[eo] at q'
   cases o with
   |lst ts =>
    obtain⟨xs,hH,rs⟩:=sh' a _ eo
    exact⟨a,r.ref,⟨xs,hH⟩,k _ _ (bU a ts) H' H3' le sh' wY q'⟩
   |rol ts=>exact q'.elim
   |dct ts=>exact q'.elim
   |dcp ts=>exact q'.elim
   |exc _ _=>exact q'.elim
   |xdt _=>exact q'.elim
 |_=>exact q.elim
end
def Its (x:Str):It :=
 ⟨fun i _=>i<x.cps.size,
  fun i H v H'=>H'=H/\∃c,x.cps[i]?=some c/\v=.str ⟨#[c]⟩,
  fun i _=>x.cps.size<=i⟩
theorem zA {P:Program}{w:World}{K:Frag}{tg:Expr}(x:Str) (t:Tok) (it:Addr) (ty:String) (hty:ty="str_ascii_iterator"\/ty="str_iterator") :
  Turn P w K tg (Its x) [it] it (fun i h=>h.IsStrIter it ty x t i) where
 mem:=by simp
 obj:=fun i h st b hb=>by
  have e:b=it:=by simpa using hb
  subst e
  obtain⟨o,e,c,d⟩:=st
  exact⟨o,e,fun v z=>by rw[d] at z;cases z⟩
 keep:=fun i h h' st k=>let ⟨o,ho,r⟩:=st;⟨o,k it (by simp) o ho,r⟩
 item:=by
  intro X hP hw hK hc i pins s U H E I hf st hg
  subst hP hw hK
  obtain⟨f0,f1,f2,f3,f4,f5⟩:=hf it (by simp)
  have hg':i<x.cps.size:=hg
  have hx:x.cps[i]?=some (x.cps[i]'hg):=Array.getElem?_eq_getElem hg'
  rcases hty with rfl | rfl
  ·
   refine wpAny_pyNext_ascii_item st hx fun h' st' sb=>?_
   have I1:Inv X pins U H { s with heap:=h',toks:=s.toks+1}:=I.turned (t':=s.toks+1) (fun b o hb e=>(sb.2 b hb).trans e) f0 f1 f3 f4 f5
   obtain⟨o,e,c,d⟩:=id st'
   exact⟨_,rfl,qt (s:={ s with heap:=h',toks:=s.toks+1}) e c d (by decide) ⟨.str ⟨#[x.cps[i]'hg]⟩,H,I1,⟨_,rfl⟩,⟨rfl,_,hx,rfl⟩,st',fun b hb=>(hf b hb).1⟩⟩
  ·
   refine wpAny_pyNext_wide_item st hx fun h' st' sb=>?_
   have I1:Inv X pins U H { s with heap:=h',toks:=s.toks+1}:=I.turned (t':=s.toks+1) (fun b o hb e=>(sb.2 b hb).trans e) f0 f1 f3 f4 f5
   obtain⟨o,e,c,d⟩:=id st'
   exact⟨_,rfl,qt (s:={ s with heap:=h',toks:=s.toks+1}) e c d (by decide) ⟨.str ⟨#[x.cps[i]'hg]⟩,H,I1,⟨_,rfl⟩,⟨rfl,_,hx,rfl⟩,st',fun b hb=>(hf b hb).1⟩⟩
 done:=by
  intro X hP hw hK hc i pins s U H E I hf st hg
  subst hP hw hK
  obtain⟨f0,f1,f2,f3,f4,f5⟩:=hf it (by simp)
  have hg':x.cps.size<=i:=hg
  have hx:x.cps[i]?=none:=by simpa using hg'
  rcases hty with rfl | rfl
  ·
   exact wpAny_pyNext_ascii_end (I.ok.hd hc) st hx fun h' eb=>⟨rfl,I.turned (t':=s.toks) (fun b o hb e=>eb b o hb e) f0 f1 f3 f4 f5⟩
  ·
   exact wpAny_pyNext_wide_end (I.ok.hd hc) st hx fun h' eb=>⟨rfl,I.turned (t':=s.toks) (fun b o hb e=>eb b o hb e) f0 f1 f3 f4 f5⟩
 self:=fun _ _ _ _ _ st h=>by
  rcases hty with rfl | rfl
  ·
   exact wpAny_pyIter_striter_ascii st h
  ·
   exact wpAny_pyIter_striter_wide st h
section
variable {X:Cx}{tg l:Expr}
def Qz (tl:TE):TI:=fun U H R=>tl U H fun v H1=>∃x,v=.str x/\R (Its x) H1
theorem JX {tl:TE}(hl:PE X l tl):PI X tg l (Qz tl):=by
 intro pins s U H R I h;refine thn (hl pins s U H _ I h) fun v s1 ⟨x,H1,I1,r1,q1⟩=>?_;obtain⟨z,e,q⟩:=q1;subst e;obtain⟨t,rfl⟩:=r1;have fin:∀(ty:String) (o:Obj),(ty="str_ascii_iterator"\/ty="str_iterator")->(s1.heap.push o).IsStrIter s1.heap.objs.size ty z t 0->PIE X pins U tg R (.ref s1.heap.objs.size) { s1 with heap:=s1.heap.push o}:=fun ty o hty hi=>by
  refine⟨s1.heap.objs.size,[s1.heap.objs.size],_,_,H1,rfl,I1.kept (t':=s1.toks) fun b o e=>Heap.get?_push_of_some _ e,zA z t _ ty hty,hi,fun b hb=>?_,q⟩;have e:b=s1.heap.objs.size:=by simpa using hb
  subst e;exact I1.fpOk (Nat.le_refl _) (I1.hok.fresh (Nat.le_refl _))
 cases ha:z.cps.all (·<128)
 ·exact wpAny_pyIter_wide ha (fin _ _ (.inr rfl) ⟨_,Heap.get?_push_size _ rfl,rfl,rfl⟩)
 exact wpAny_pyIter_ascii ha (fin _ _ (.inl rfl) ⟨_,Heap.get?_push_size _ rfl,rfl,rfl⟩)
def gU (x:Str):List T:=x.cps.toList.map fun c=>.str ⟨#[c]⟩
def isq (x:T) (H:Hp3) (R:List T->(Hp3->Prop)->Hp3->Prop):Prop:=match x with
 |.str x=>R (gU x) bJ H
 |_=>False
def G6 (tl:TE3):TI3:=fun U H R=>tl U H fun x H1=>isq x H1 R
theorem JZ (te:TE3) {U:St3}{H:Hp3}{R:List T->(Hp3->Prop)->Hp3->Prop}:G6 te U H R=te U H fun x H1=>isq x H1 R:=rfl
theorem Ot (x:Str) {H:Hp3}{R:List T->(Hp3->Prop)->Hp3->Prop}:isq (.str x) H R=R (gU x) bJ H:=rfl
theorem zB {K:Frag}{H:Hp}{x:Str}:jx K (Its x) (gU x) bJ H:=fun H' H3' le sh st=>by
 refine⟨fun i hi=>(show x.cps.size<=i by simpa [gU] using hi),fun i t e=>?_⟩;unfold gU at e;rw[List.getElem?_map] at e;cases q:x.cps.toList[i]? with
 |none=>rw[q] at e;cases e
 |some c =>
 rw[q] at e;cases e;have hi:i<x.cps.size:=by have:=(List.getElem?_eq_some_iff.mp q).1;simpa using this
 refine⟨hi,fun v H'' y=>?_⟩;obtain⟨rfl,c',hc,rfl⟩:=y;have:c'=c:=by
  have q':x.cps[i]?=some c:=by simpa using q
  rw[q'] at hc;cases hc;rfl
 subst this;exact⟨.refl,sh,.ofStr⟩
theorem zE {tl:TE3}(hl:PE3 X l tl):PI3 X tg l (G6 tl):=by
 refine PI.imp (JX hl) ?_;rintro U H R ⟨U3,H3,R3,ss,sh,h,k⟩;refine⟨U3,H3,_,ss,sh,h,fun v H' t H3' le sh' r q=>?_⟩;cases t with
 |str x=>exact⟨x,r.str,k _ _ bJ H' H3' le sh' zB q⟩
 |_=>exact q.elim
end
def dz (U:List Str) (v:Str):List Str:=if U.any (·==v) then U else U++[v]
def bF (xs:List Str):List Str:=xs.foldl dz []
theorem lC (xs:List Str) (v:Str):bF (xs++[v])=dz (bF xs) v:=by unfold bF;rw[List.foldl_append];rfl
theorem wZ (U:List Str) (v k:Str):(dz U v).any (·==k)=(U.any (·==k)||decide (k=v)):=by
 unfold dz;by_cases h:U.any (·==v)=true
 ·rw[if_pos h];by_cases e:k=v
  ·rw[e,h];simp
  simp [e]
 rw[if_neg h,List.any_append];by_cases e:k=v
 ·rw[e];simp
 have hb:(v==k)=false:=beq_eq_false_iff_ne.mpr fun z=>e z.symm;simp [hb,e]
theorem mZ (U:List Str) (v:Str):(dz U v).length=if U.any (·==v) then U.length else U.length+1:=by
 unfold dz;cases U.any (·==v)
 ·rw[if_neg Bool.false_ne_true,if_neg Bool.false_ne_true,List.length_append];rfl
 rw[if_pos rfl,if_pos rfl]
theorem rA (xs:List Str):∀U:List Str,(xs.foldl dz U).length<=U.length+xs.length:=by
 induction xs with
 |nil=>intro U;exact Nat.le_refl _
 |cons v xs ih =>
 intro U;have h1:=ih (dz U v);have h2:=mZ U v;simp only[List.foldl_cons,List.length_cons];cases q:U.any (·==v)
 ·rw[q,if_neg Bool.false_ne_true] at h2;omega
 rw[q,if_pos rfl] at h2;omega
theorem w5 {prog:Program}{w:World}{A:Around}{R:Result->Shared->Prop}{J:Addr}{fp wr:List Addr}{n:Nat}{P:Nat->Value->Prop}{St:Nat->Heap->Prop}
  (W:Walks prog w A.in1 J fp wr n P St) (B:Addr) (nB:B∉fp) (xs:List Str) (hn:xs.length=n) (hv:∀i v,P i v->∃x t,xs[i]?=some x/\v=.str x t) (room:n+1<scanBound) :
  ∀(k i:Nat) (s:Shared),n - i=k->i<=n->St i s.heap->s.heap.SetOf (strKind prog w) B (fun z=>(bF (xs.take i)).any (·==z)) (bF (xs.take i)).length ->
   (∀s',Moved (B::wr) (fun a b=>b=a) s s'->s'.heap.SetOf (strKind prog w) B (fun z=>(bF xs).any (·==z)) (bF xs).length->R (.ok (.ret .none)) s') ->
   codeAny (model prog w) A (.builtin "set.update.loop" ⟨[.ref B,.ref J],[]⟩) R s:=by
 have WS:=W.toS;have nW:B∉wr:=fun h=>nB (WS.sub _ h);have up:∀c∈wr,c∈B::wr:=fun c hc=>List.mem_cons_of_mem _ hc;intro k;induction k with
 |zero =>
  intro i s hk hi st hB fin;have ei:i=n:=by omega
  subst ei;refine codeAny_builtin PyProof.Rows.F.entry_set_update_loop ?_;rw[Around.under_plainId PyProof.Rows.F.plain_set_update_loop _];show wpAny _ A.in1 (pyNext (.ref J) >>= _) _ _ s;refine wpAny_bind (WS.done s _ _ st fun s' mv=>?_);show wpAny _ A.in1 (ret Value.none) _ _ s';rw[<- hn,List.take_length] at hB;refine wpAny_pure (fin s' (mv.mono up) ?_);obtain⟨o,es,ep,t,ho,rest⟩:=hB;exact⟨o,es,ep,t,mv.heap B _ nW ho,rest⟩
 |succ k ih =>
 intro i s hk hi st hB fin;have lt:i<n:=by omega
 refine codeAny_builtin PyProof.Rows.F.entry_set_update_loop ?_;rw[Around.under_plainId PyProof.Rows.F.plain_set_update_loop _];show wpAny _ A.in1 (pyNext (.ref J) >>= _) _ _ s;refine wpAny_bind (WS.item i s _ _ lt st fun v s' pv st' mv=>?_);obtain⟨x,t,hx,rfl⟩:=hv i v pv;have hB':s'.heap.SetOf (strKind prog w) B (fun z=>(bF (xs.take i)).any (·==z)) (bF (xs.take i)).length:=by obtain⟨o,es,ep,tb,ho,rest⟩:=hB;exact⟨o,es,ep,tb,mv.heap B _ nW ho,rest⟩
 show wpAny _ A.in1 (holding [Value.str x t] (setAdd B (.str x t)) >>= _) _ _ s';refine wpAny_bind (wpAny_holding ?_);unfold setAdd;refine wpAny_holding ?_;refine wpAny_bind ((strKind prog w).pyHash (k:=x) (strKind_is _ _ _ _) ?_);have et:xs.take (i+1)=xs.take i++[x]:=by rw[List.take_add_one,hx];rfl
 have sm:(bF (xs.take i)).length+1<scanBound:=by
  have h1:=rA (xs.take i) [];have h2:(xs.take i).length<=n:=by rw[List.length_take];omega
  simp only[List.length_nil,Nat.zero_add] at h1;exact Nat.lt_of_le_of_lt (Nat.succ_le_succ (Nat.le_trans h1 h2)) room
 refine wpAny_setAddHashed_of (knd:=strKind prog w) (s:={ s' with toks:=s'.toks+1}) (strKind_is _ _ _ _) rfl hB' sm fun h' sb hB2=>?_;have hB3:h'.SetOf (strKind prog w) B (fun z=>(bF (xs.take (i+1))).any (·==z)) (bF (xs.take (i+1))).length :=
  SetOf_congr hB2 (fun z=>by rw[et,lC,wZ]) (by rw[et,lC,mZ])
 refine wpAny_pure ⟨plainId_quiet PyProof.Rows.F.plain_set_update_loop _,ih (i+1) _ (by omega) lt (WS.frame _ s' _ _ st' (Nat.le_succ _) fun c hc o e=>?_) hB3 fun s'' mv2 hB4=>?_⟩
 ·rw[sb.2 c (fun z:c=B=>nB (by rw[<- z];exact hc))];exact e
 refine fin s'' (Moved.trans WS.gtrans ((mv.mono up).then_heap (Nat.le_succ _) fun c o hc e=>?_) mv2) hB4;rw[sb.2 c (fun z:c=B=>hc (by rw[z];exact List.mem_cons_self))];exact e
theorem rB:isSubtype (.type "tuple") (.type "set")=pure false:=by rw[isSubtype_type];kernel_rfl
theorem ph:isSubtype (.type "tuple") (.type "frozenset")=pure false:=by rw[isSubtype_type];kernel_rfl
abbrev pA (led:Bool):Obj:={ cls:=.type "set",dict:=none,data:=.set #[] 0 (.fresh 0 0 led)}
section
variable {prog:Program}{w:World}{A:Around}{E:Value->Shared->Prop}{s:Shared}
theorem pB {l:Addr}{its:Array Value}{xs:List Str}{Q:Value->Shared->Prop}(hh:A.handled=none) (hl:s.heap.IsTuple l its) (hx:xs.length=its.size)
  (hv:∀(i:Nat) (v:Value),its[i]?=some v->∃x t,xs[i]?=some x/\v=.str x t) (room:its.size+1<scanBound)
  (h:∀(h':Heap) (tk:Nat),h'.SetOf (strKind prog w) s.heap.objs.size (fun z=>(bF xs).any (·==z)) (bF xs).length->(∀b o,b<s.heap.objs.size->s.heap.get? b=some o->h'.get? b=some o)->Q (.ref s.heap.objs.size) { s with heap:=h',toks:=tk}) :
  wpAny (model prog w) A (call (.type "set") [.ref l]) Q E s:=by
 obtain⟨cc,tl,hmro⟩:=PySem.F.called_set.mro;have hmade:=PySem.F.called_set.made;have hsub:=PySem.F.called_set.sub;refine wpAny_call (codeAny_of_tree ?_);show wpAny _ _ (callAny (.type "set") _) _ _ _;refine wpAny_pure ⟨Code.quiet_builtin _ (by decide +kernel),codeAny_builtin F.entry_type_call ?_⟩;rw[Around.under_plain (weight_type_call_type "set" [.ref l] []) rfl];have n1:=PySem.F.called_set.notType;have n2:=PySem.F.called_set.canCreate;have hct:=PySem.F.typeCall_set_1 (.ref l);repeat (any_goals (first | assumption | wp_step))
 refine codeAny_mono (code_set_new_1 (.ref l) (E:=E) (Q₁:=fun obj s1=>∃led:Bool,obj=.ref s.heap.objs.size/\s1={ s with heap:=s.heap.push (pA led)}) fun led=>⟨led,rfl,rfl⟩) fun r s1 hr=>?_;cases r with
 |error e=>exact hr
 |ok fl =>
 cases fl with
 |ret obj =>
  obtain⟨led,rfl,rfl⟩:=hr;have hB:(s.heap.push (pA led)).get? s.heap.objs.size=some (pA led):=Heap.get?_push_size _ rfl;have hT:Shared.TypeIs { s with heap:=s.heap.push (pA led)} (.ref s.heap.objs.size) "set":=⟨_,hB,rfl⟩;have hli:=PySem.F.called_set.init.lookup;have hbi:=PySem.F.called_set.init.bind (.ref s.heap.objs.size);repeat (any_goals (first | assumption | wp_step))
  refine codeAny_mono (codeAny_call_builtin (R:=wants (fun r s2=>r=.none/\∃h' tk,s2={ s with heap:=h',toks:=tk}/\h'.SetOf (strKind prog w) s.heap.objs.size (fun z=>(bF xs).any (·==z)) (bF xs).length /\
    (∀b o,b<s.heap.objs.size->s.heap.get? b=some o->h'.get? b=some o)) E) PySem.F.called_set.init.plain F.entry_set_init (check_set_init_1 hT ?_)) fun r2 s2 hr2=>?_
  ·have hl1:(s.heap.push (pA led)).IsTuple l its:=hl.push _;obtain⟨ol,hol,hcl,nl,hdl⟩:=id hl;obtain⟨oc,od,oda,osl⟩:=ol;simp only at hcl hdl;subst hcl;subst hdl;have hol':(s.heap.push (pA led)).get? l=some { cls:=.type "tuple",dict:=od,data:=.seq its nl,slots:=osl}:=Heap.get?_push_of_some _ hol;have t1:=rB;have t2:=ph;have t3:(Value.type "tuple"==Value.type "dict")=false:=by decide
   unfold Builtin.«set.__init__» noKeywords Builtin.Frozenset.updateFrom;generalize hPI:pyIter=PI
   wp_walk
   subst hPI;refine wpAny_pyIter_tuple hl1 ?_;refine wpAny_bind (wpAny_runValue ?_);have lS:l<s.heap.objs.size:=Heap.lt_size hol;have hh3:A.in1.in1.in1.handled=none:=by simp [hh]
   have eJ:(s.heap.push (pA led)).objs.size=s.heap.objs.size+1:=Heap.size_push ..;have nJ:l≠(s.heap.push (pA led)).objs.size:=by rw[eJ];exact Nat.ne_of_lt (Nat.lt_succ_of_lt lS)
   have nB:s.heap.objs.size∉[(s.heap.push (pA led)).objs.size,l]:=by
    rw[eJ];intro z;simp only[List.mem_cons,List.not_mem_nil,or_false] at z;rcases z with z | z
    ·exact absurd z (Nat.ne_of_lt (Nat.lt_succ_self _))
    exact absurd z (Nat.ne_of_gt lS)
   refine w5 (Walks.tuple hh3 _ l nJ its) s.heap.objs.size nB xs hx hv room (its.size - 0) 0 _ (by omega) (Nat.zero_le _) ⟨⟨_,Heap.get?_push_size _ rfl,rfl,rfl⟩,hl1.push _⟩ ?_ ?_
   ·refine SetOf_congr ((PyProof.Rows.setObjOf_fresh (knd:=strKind prog w) led).setOf (Heap.get?_push_of_some _ hB) (by unfold scanBound;omega)) (fun _=>?_) ?_
    ·simp [bF]
    simp [bF]
   intro s' mv hB';obtain⟨h',g',d',tk',os'⟩:=s';have eg:g'=s.gens:=mv.gens;have ed:d'=s.drawn:=mv.drawn;have eo:os'=s.os:=mv.os;subst eg ed eo;show wpAny _ _ _ _ _ _;refine wpAny_pure ?_;show wpAny _ _ (ret Value.none) _ _ _;refine wpAny_pure ⟨rfl,h',tk',rfl,hB',fun b o hb e=>mv.heap b o ?_ (Heap.get?_push_of_some _ (Heap.get?_push_of_some _ e))⟩;intro z;simp only[List.mem_cons,List.not_mem_nil,or_false] at z;rcases z with z | z
   ·exact absurd z (Nat.ne_of_lt hb)
   rw[eJ] at z;exact absurd z (Nat.ne_of_lt (Nat.lt_succ_of_lt hb))
  cases r2 with
  |error e=>exact hr2
  |ok fl2 =>
  cases fl2 with
  |ret r =>
   obtain⟨rfl,h',tk,rfl,hB',kp⟩:=hr2;repeat (any_goals (first | assumption | wp_step))
   exact h _ _ hB' kp
  |_=>exact hr2.elim
 |_=>exact hr.elim
end
theorem J0:bootBuiltins "set"=some (.type "set"):=by decide +kernel
theorem Ej:bootBuiltins "len"=some (.builtin "len"):=by decide +kernel
section
variable {X:Cx}{e:Expr}{te:TE}{p1 p2 pos pos':Pos}
def Ek (te:TE):TE:=fun U H Q=>te U H fun x H1=>∃p xs,x=.ref p/\SqT X.K H1 p (xs.map V.str)/\xs.length+1<scanBound/\Q (.int (bF xs).length) H1
theorem w6 (hc:X.calm=true) (hgl:Gl X "len") (hml:X.mg "len"=none) (hgs:Gl X "set") (hms:X.mg "set"=none) (ha:PE X e te)
  (he:starEach [e] X.env=(false,eval e X.env)::starEach [] X.env:=by rfl) (hpl:(backTo pos (starEach [] X.env)).any (·.1)=false:=by rfl) (hpl':(backTo pos' (starEach [] X.env)).any (·.1)=false:=by rfl) :
  PE X (.Call (.Name "len" p1) [.Call (.Name "set" p2) [e] [] pos'] [] pos) (Ek (X:=X) te):=by
 intro pins s U H Q I h;refine wpAny_Call_Name_kw (eO I hgl hml Ej ?_ (by decide) (by decide));refine PyProof.Rows.callWith_builtin1 ?_ rfl hpl;show wpAny _ _ (spliced ((false,eval (.Call (.Name "set" p2) [e] [] pos') X.env)::backTo pos (starEach [] X.env))) _ _ s;refine Calls.spliced_cons ?_;refine wpAny_Call_Name_kw (eO I hgs hms J0 ?_ (by decide) (by decide));refine PyProof.Rows.callWith_type1 ?_ he hpl';rw[he];show wpAny _ _ (spliced ((false,eval e X.env)::backTo pos' (starEach [] X.env))) _ _ s;refine Calls.spliced_cons (thn (ha pins s U H _ I h) fun u s1 ⟨x,H1,I1,r1,p,xs,hx,sq,room,q⟩=>?_);subst hx;cases r1;obtain⟨its,rv,hl,hz⟩:=I1.tuple sq;have hlen:=rv.length;rw[List.length_map] at hlen;refine Calls.spliced_nil ?_;refine pB (xs:=xs) (I1.ok.hd hc) hl (by simp [hlen]) (fun i v hv=>?_) (by simpa [<- hlen] using room) fun h' tk hB kp=>?_
 ·have hv':its[i]?=some v:=by simpa using hv
  have hi:i<xs.length:=by have:=(List.getElem?_eq_some_iff.mp hv').1;omega
  obtain⟨u,hu,ru⟩:=rv.get (i:=i) (x:=V.str xs[i]) (by rw[List.getElem?_map,List.getElem?_eq_getElem hi];rfl);rw[hv'] at hu;cases hu;obtain⟨t,rfl⟩:=ru;exact⟨xs[i],t,List.getElem?_eq_getElem hi,rfl⟩
 refine Calls.spliced_nil ?_;obtain⟨o,es,ep,t,ho,hex,hd,h4,h5,h6,h7,h8⟩:=hB;refine call_len_set ho hex hd h7 (by unfold scanBound at h6;omega) ?_;have I2:Inv X pins U H1 { s1 with heap:=h',toks:=tk+1+1}:=I1.kept fun b o eb=>kp b o (Heap.lt_size eb) eb;refine⟨.int (bF xs).length,H1,I2,⟨_,by rw[<- h8]⟩,q⟩
def fX:List T->Option (List Str)
 |[]=>some []
 |.str x::r=>(fX r).map (x::·)
 |_::_=>none
theorem m6:∀{ts:List T}{xs:List Str},fX ts=some xs->ts=xs.map T.str
 |[],xs,h=>by cases h;rfl
 |.str x::r,xs,h=>by
  cases q:fX r with
  |none=>simp [fX,q] at h
  |some ys =>
   simp [fX,q] at h
   subst h
   rw[List.map_cons,<- m6 q]
theorem rC (xs:List Str):fX (xs.map T.str)=some xs:=by
 induction xs with
 |nil=>rfl
 |cons x xs ih=>simp [fX,ih]
def lsq (x:T) (H:Hp3) (Q:VK3):Prop:=match x with
 |.tup ts=>match fX ts with
  |some xs=>xs.length+1<scanBound/\Q (.int (bF xs).length) H
  |none=>False
 |_=>False
def rD (te:TE3):TE3:=fun U H Q=>te U H fun x H1=>lsq x H1 Q
theorem zF (te:TE3) {U:St3}{H:Hp3}{Q:VK3}:rD te U H Q=te U H fun x H1=>lsq x H1 Q:=rfl
theorem Ou (xs:List Str) {H:Hp3}{Q:VK3}:lsq (.tup (xs.map T.str)) H Q=(xs.length+1<scanBound/\Q (.int (bF xs).length) H):=by
 unfold lsq;simp only[rC]
theorem m7 {K:Frag}{H:Hp}:∀{xs:List Str}{vs:List V},Reps K H (xs.map T.str) vs->vs=xs.map V.str
 |[],_,h=>h.inv0
 |x::xs,_,h=>by obtain⟨v,r,rfl,a,b⟩:=h.inv;rw[a.str,m7 b];rfl
theorem xf {te:TE3}(hc:X.calm=true) (hgl:Gl X "len") (hml:X.mg "len"=none) (hgs:Gl X "set") (hms:X.mg "set"=none) (ha:PE3 X e te)
  (he:starEach [e] X.env=(false,eval e X.env)::starEach [] X.env:=by rfl) (hpl:(backTo pos (starEach [] X.env)).any (·.1)=false:=by rfl) (hpl':(backTo pos' (starEach [] X.env)).any (·.1)=false:=by rfl) :
  PE3 X (.Call (.Name "len" p1) [.Call (.Name "set" p2) [e] [] pos'] [] pos) (rD te):=by
 refine PE.imp (w6 hc hgl hml hgs hms ha he hpl hpl') ?_;rintro U H Q ⟨U3,H3,Q3,ss,sh,h,k⟩;refine⟨U3,H3,_,ss,sh,h,fun v H' t H3' le sh' r q=>?_⟩;cases t with
 |tup ts =>
  obtain⟨a,ys,rfl,sq,rs⟩:=r.tup;cases z:fX ts with
  |none=>simp only[lsq,z] at q
  |some xs =>
  simp only[lsq,z] at q;have e:=m6 z;subst e;rw[m7 rs] at sq;exact⟨a,xs,rfl,sq,q.1,k _ _ _ _ le sh' .ofInt q.2⟩
 |_=>exact q.elim
end
theorem jC:∀(xs ys:List Str),(ys++xs).Nodup->xs.foldl dz ys=ys++xs
 |[],ys,_=>by simp
 |x::xs,ys,h=>by
  have hx:ys.any (·==x)=false:=by
   rw[List.any_eq_false]
   intro y hy e
   have:y=x:=by simpa using e
   subst this
   have:=(List.nodup_append.mp h).2.2 y hy y (by simp)
   exact this rfl
  have e:dz ys x=ys++[x]:=by unfold dz;rw[hx,if_neg Bool.false_ne_true]
  rw[List.foldl_cons,e,jC xs (ys++[x]) (by simpa using h)]
  simp
theorem lD {xs:List Str}(h:xs.Nodup):bF xs=xs:=by
 have:=jC xs [] (by simpa using h);simpa [bF] using this
section
variable {X:Cx}{pins:List (Addr × Obj)}{U:L2.St}{H:Hp}{s:Shared}
variable {a:Expr}{ta:TE3}{pos:Pos}
def ngq (x:T) (H:Hp3) (Q:VK3):Prop:=match x with
 |.int i=>Q (.int (-i)) H
 |_=>False
def Ov (ta:TE3):TE3:=fun U H Q=>ta U H fun x H1=>ngq x H1 Q
theorem Ow (ta:TE3) {U:St3}{H:Hp3}{Q:VK3}:Ov ta U H Q=ta U H fun x H1=>ngq x H1 Q:=rfl
theorem Ox (i:Int) {H:Hp3}{Q:VK3}:ngq (.int i) H Q=Q (.int (-i)) H:=rfl
def zG:List T->Hp3->VK3->Prop:=fun ts H Q=>match ts with
 |[.str x]=>x.length<=640/\oq (intText? x) fun n=>Q (.int n) H
 |_=>False
theorem J1 (x:Str) {H:Hp3}{Q:VK3}:zG [.str x] H Q=(x.length<=640/\oq (intText? x) fun n=>Q (.int n) H):=rfl
theorem El:cD X (.type "int") zG:=by
 intro pins s U H xs us Q I r h;obtain⟨ts,H3,Q3,rs,sh,h,k⟩:=h
 match ts,h,rs with
 |[.str x],h,rs =>
 obtain⟨v,rfl,rv⟩:=rs.one';cases rv.str;obtain⟨u,rfl,ru⟩:=vals1 r;obtain⟨t,rfl⟩:=ru;obtain⟨hl,h⟩:=h;cases e:intText? x with
 |none=>rw[e] at h;exact h.elim
 |some n =>
 rw[e] at h;exact PySem.W.KIN.call_text e hl ⟨.int n,H,I.tok _,⟨_,rfl⟩,k _ _ _ _ .refl sh .ofInt h⟩
end
def GC (K:Frag) (mg:Str->Option Value) (x:Str) (t:T):Prop:=∃u v,mg x=some u/\RelV v u/\∀H,Rep K H t v
theorem g3c {X:Cx}{x:Str}{t:T}{pos:Pos}(hg:Gl X x) (h:GC X.K X.mg x t) (hd:(x==("__debug__":Str))=false:=by decide):PE3 X (.Name x pos) (tC3 t):=by
 obtain⟨u,v,a,b,c⟩:=h;exact g3 hg a b c hd
theorem GC.int {K:Frag}{mg:Str->Option Value}{x:Str}{i:Int}{t:Tok}(h:mg x=some (.int i t)):GC K mg x (.int i):=⟨_,.int i,h,⟨t,rfl⟩,fun _=>.ofInt⟩
theorem GC.str {K:Frag}{mg:Str->Option Value}{x z:Str}{t:Tok}(h:mg x=some (.str z t)):GC K mg x (.str z):=⟨_,.str z,h,⟨t,rfl⟩,fun _=>.ofStr⟩
theorem GC.two {K:Frag}{mg:Str->Option Value}{x y z:Str}{t t':Tok}{a:Addr}{n:Nat}{sl:Array (Option Value)}(h:mg x=some (.ref a))
  (l:K.lookup a=some ⟨.type "tuple",none,.seq #[.str y t,.str z t'] n,sl⟩):GC K mg x (.tup [.str y,.str z]) :=
 ⟨_,.ref a,h,rfl,fun H=>.ofTup (xs:=[.str y,.str z]) (.inr ⟨_,#[.str y t,.str z t'],n,l,rfl,rfl,rfl,(show 2<=sizeLine by decide),(show Vals [.str y,.str z] [.str y t,.str z t'] from .cons ⟨t,rfl⟩ (.cons ⟨t',rfl⟩ .nil))⟩) (.cons .ofStr (.cons .ofStr .nil))⟩
structure Cs (K:Frag) (mg:Str->Option Value):Prop where
 MOST_LETTERS:GC K mg "MOST_LETTERS" (.int 8)
 MOST_FIGURES:GC K mg "MOST_FIGURES" (.int 60)
 MOST_TASKS:GC K mg "MOST_TASKS" (.int 8)
 MOST_KINDS:GC K mg "MOST_KINDS" (.int 4)
 MOST_ORDERS:GC K mg "MOST_ORDERS" (.int 28)
 MOST_PAIRS:GC K mg "MOST_PAIRS" (.int 12)
 MOST_STANDS:GC K mg "MOST_STANDS" (.int 8)
 LETTERS:GC K mg "LETTERS" (.str "abcdefghijklmnopqrstuvwxyz")
 FIGURES:GC K mg "FIGURES" (.str "0123456789")
 PAIR_WORDS:GC K mg "PAIR_WORDS" (.tup [.str "with",.str "apart"])
theorem bG {N P:List Str}{sc:Scope}(a:sc.kind=.function:=by rfl) (b:sc.isCoroutine=false:=by rfl) (c:sc.isGenerator=false:=by rfl) (d:N.Nodup:=by decide +kernel) (e:N.take P.length=P:=by rfl)
 (f:∀x∈P,sc.names.lookup x=some .local\/sc.names.lookup x=some .cell:=by decide +kernel) (g:∀y∈sc.names,y.2≠.free:=by decide +kernel):FnScope N P sc:=⟨a,b,c,d,e,f,g⟩
theorem fls {p:Prop} [Decidable p] (h:¬p):¬(decide p=true) := fun e=>h (of_decide_eq_true e)
theorem upa {H:Hp3}{a q:Addr}{o u:O3}(h:H a=some u) (hq:H q=none):up3 H q o a=some u := by rw[aC (bN h hq)];exact h
structure Cal (P:Program) (w:World) (K:Frag) (mg:Str->Option Value) (base:Heap) (k:Nat) (x:Str) (st:Stmt) (ps:List Str) (sp:Sp3):Prop where
 ex:∃(f:Addr) (fd:FuncData),G3 K mg x st ps f fd/\FnOk3 P w K mg base k f fd ps sp
theorem zH {X:Cx}{k:Nat}{ps:List Str}{sp:Sp3}{st:Stmt}{x:Str}{p pos:Pos}{e:Expr}{es:List Expr}{t:TA3}(D:Cal X.prog X.w X.K X.mg X.base k x st ps sp) (hr:Room k X.A) (hg:Gl X x)
  (ha:PA3 X (e::es) t) (hdb:(x==("__debug__":Str))=false:=by decide) (he:starEach (e::es) X.env=(false,eval e X.env)::starEach es X.env:=by rfl) (hpl:(backTo pos (starEach es X.env)).any (·.1)=false:=by rfl) :
  PE3 X (.Call (.Name x p) (e::es) [] pos) (kE sp t):=by
 obtain⟨f,fd,g,F⟩:=D.ex;exact Dl F hr hg g.m g.fn.kp g.b ha hdb he hpl
theorem bC {X:Cx}{k j:Nat}{ps:List Str}{sp:Sp3}{st:Stmt}{x:Str}{p pos:Pos}{e:Expr}{es:List Expr}{t:TA3}(D:Cal X.prog X.w X.K X.mg X.base k x st ps sp) (hr:Room j X.A) (hg:Gl X x) (ha:PA3 X (e::es) t) (hk:k<=j:=by decide) (hdb:(x==("__debug__":Str))=false:=by decide) (he:starEach (e::es) X.env=(false,eval e X.env)::starEach es X.env:=by rfl) (hpl:(backTo pos (starEach es X.env)).any (·.1)=false:=by rfl):PE3 X (.Call (.Name x p) (e::es) [] pos) (kE sp t):=zH D (hr.mono hk) hg ha hdb he hpl
end L3
namespace L2
open PySem
section
variable {prog:Program}{w:World}{A:Around}{E:Value->Shared->Prop}{h:Heap}{g:Array GenState}{d:Drawn}{t:Nat}{os:OsState}
variable {nm q:Str}{C N:Addr}{bs bm bmB:List Value}{hdct:Bool}{sn:List Str}{sub:List Value}{ab:Bool}{col:Option Bool}{dd:Option Addr}{k0 k1 k2 k3 k5:Option Value}{B Bn newId nid initId inN:String}{bmN:List Value}
abbrev xg (h:Heap) (C:Addr) (us:List Value):Heap:=(h.push { cls:=.type "tuple",data:=.seq us.toArray}).push { cls:=.ref C,data:=.fields #[.ref h.objs.size,.none,.none,.none,.bool false,.none]}
theorem um (Fn:ExcBaseFacts Bn newId inN bmN) (hBn:bmB.contains (.type Bn)=true) (F:ExcBaseFacts B nid initId bmB) (T:OwnTail h bmB bm) {mN:Str->Option Value}{us:List Value}{fI:Addr}{oI:Obj}{Q:Fin->Shared->Prop}
  (hC:h.get? C=some (excClassObj nm q C N bs bm hdct sn sub ab col dd k0 k1 k2 k3 k5 newId)) (hn:h.Ns N mN) (hi:mN "__init__"=some (.ref fI)) (hf:h.get? fI=some oI) (hc:oI.cls=.type "function") (hz:us.length<=sizeLine)
  (hq:wpAny (model prog w) A (call (.ref fI) (.ref (h.objs.size+1)::us)) (fun r s'=>r=.none/\Q (.done (.ret (.ref (h.objs.size+1)))) s') E ⟨xg h C us,g,d,t,os⟩) :
  wpAny (model prog w) A (Builtin.«type.__call__» ⟨.ref C::us,[]⟩) Q E ⟨h,g,d,t,os⟩:=by
 have up:∀b o,h.get? b=some o->(xg h C us).get? b=some o:=fun b o e=>Heap.get?_push_of_some _ (Heap.get?_push_of_some _ e);have he:(xg h C us).get? (h.objs.size+1)=some { cls:=.ref C,data:=.fields #[.ref h.objs.size,.none,.none,.none,.bool false,.none]}:=by have:=Heap.get?_push_size (h.push { cls:=.type "tuple",data:=.seq us.toArray}) (o:={ cls:=.ref C,data:=.fields #[.ref h.objs.size,.none,.none,.none,.bool false,.none]}) rfl;rw[Heap.size_push] at this;exact this
 have hcC:(Value.ref C::bm).contains (.ref C)=true:=by simp
 repeat (first | (with_reducible refine wpAny_loadPart_at hC ?_) | (with_reducible refine wpAny_madeBy_exc hC ?_) | wp_step)
 refine codeAny_call_builtin_code (Code.quiet_builtin _ Fn.quiet) (wpAny_check_new_subU Fn hBn T hC (codeAny_exc_new_subU Fn hBn F T hC ?_ hz));show wpAny _ _ _ _ _ _;unfold isInstance;repeat (first | (with_reducible refine wpAny_loadPart_at he ?_) | (with_reducible refine wpAny_isSubtype_exc (up _ _ hC) ?_;rw[hcC]) | wp_step)
 show wpAny _ _ (typeLookup (.ref C) _) _ _ _;refine wpAny_typeLookup_tail (up _ _ hC) (hn.keeps up) (T.keeps up) F.mroIs F.init.lookup ?_;rw[hi];refine wpAny_holding (wpAny_bind ?_);unfold bindSpecial;refine wpAny_bind (wpAny_typeOf (T:="function") ⟨_,up _ _ hf,hc⟩ ?_);rw[if_pos (by decide)];refine wpAny_pure (wpAny_bind (wpAny_mono hq (fun r s' hr=>?_) fun _ _ x=>x));obtain⟨rfl,hQ⟩:=hr
 wp_walk
 exact hQ
theorem zJ (Fn:ExcBaseFacts Bn newId inN bmN) (hBn:bmB.contains (.type Bn)=true) (F:ExcBaseFacts B nid initId bmB) (T:OwnTail h bmB bm) {mN:Str->Option Value}{us:List Value}{fI:Addr}{oI:Obj}{Q:Value->Shared->Prop}
  (hC:h.get? C=some (excClassObj nm q C N bs bm hdct sn sub ab col dd k0 k1 k2 k3 k5 newId)) (hn:h.Ns N mN) (hi:mN "__init__"=some (.ref fI)) (hf:h.get? fI=some oI) (hc:oI.cls=.type "function") (hz:us.length<=sizeLine)
  (hq:wpAny (model prog w) (A.under (.builtin "type.__call__" ⟨.ref C::us,[]⟩)) (call (.ref fI) (.ref (h.objs.size+1)::us)) (fun r s'=>r=.none/\Q (.ref (h.objs.size+1)) s') E ⟨xg h C us,g,d,t,os⟩) :
  wpAny (model prog w) A (call (.ref C) us) Q E ⟨h,g,d,t,os⟩:=by
 have f1:=tc_lookup;have f2:=tc_bind (.ref C);have hT:(⟨h,g,d,t,os⟩:Shared).TypeIs (.ref C) "type":=⟨_,hC,rfl⟩;refine wpAny_call (codeAny_of_tree ?_);show wpAny _ _ (callAny (.ref C) _) _ _ _;repeat (any_goals (first | assumption | (with_reducible refine wpAny_loadPart_at hC ?_) | wp_step))
 refine⟨rfl,codeAny_call_builtin_at (Code.quiet_builtin _ (by decide +kernel)) entry_typeCall (wpAny_check_type_call_sub hC (um Fn hBn F T hC hn hi hf hc hz hq))⟩
end
theorem rE (h:Heap) (a:Addr) (f:Obj->Obj):(h.update a f).objs.size=h.objs.size:=Heap.size_after_update ..
abbrev fra (l : List Env) : List Addr:=l.filterMap (·.frame)
def Ntd (h:Heap) (S:Addr->Prop) (e:Addr) (cls:Value) (dct:Option Addr) (fl:Value):Prop :=
 ∃vs sl T oT ts,h.get? e=some ⟨cls,dct,.fields vs,sl⟩/\vs[1]?=some (.ref T)/\¬S T/\T≠e/\h.get? T=some oT/\oT.data=.fields ts/\ts[3]?=some fl
def Rsd (h:Heap) (e:Addr) (cls:Value) (dct:Option Addr):Prop:=∃vs sl,h.get? e=some ⟨cls,dct,.fields vs,sl⟩/\vs[1]?=some .none
structure Kpx (fs:List Addr) (e:Addr) (S:Addr->Prop) (h h':Heap):Prop where
 sz:h.objs.size<=h'.objs.size
 ex:∃xs:List Addr,(∀b∈xs,¬S b)/\∀b o,h.get? b=some o->b∉fs->b≠e->b∉xs->h'.get? b=some o
 slot:∀b o,h.get? b=some o->b∈fs->∃sl,h'.get? b=some { o with slots:=sl}
 up:∀b o,h.get? b=some o->(∀vs,o.data≠.fields vs)->∃sl,h'.get? b=some { o with slots:=sl}
theorem Kpx.keep {fs:List Addr}{e:Addr}{S:Addr->Prop}{h h':Heap}(x:Kpx fs e S h h') (b:Addr) (o:Obj) (hb:h.get? b=some o) (hS:S b) (nf:b∉fs) (ne:b≠e):h'.get? b=some o :=
 let ⟨_,a,k⟩:=x.ex;k b o hb nf ne fun m=>a b m hS
theorem Kpx.trans {fs:List Addr}{e:Addr}{S:Addr->Prop}{h h1 h2:Heap}(x:Kpx fs e S h h1) (y:Kpx fs e S h1 h2):Kpx fs e S h h2:=by
 obtain⟨xs,a,k⟩:=x.ex;obtain⟨ys,a',k'⟩:=y.ex;exact⟨Nat.le_trans x.sz y.sz,⟨xs++ys,fun b m=>(List.mem_append.mp m).elim (a b) (a' b),fun b o hb nf nb nx=>k' b o (k b o hb nf nb fun m=>nx (List.mem_append_left _ m)) nf nb fun m=>nx (List.mem_append_right _ m)⟩,
  fun b o hb mf=>let ⟨_,e1⟩:=x.slot b o hb mf;let ⟨sl,e2⟩:=y.slot b _ e1 mf;⟨sl,e2⟩,
  fun b o hb hn=>let ⟨_,e1⟩:=x.up b o hb hn;let ⟨sl,e2⟩:=y.up b _ e1 hn;⟨sl,e2⟩⟩
theorem Kpx.fr {fs:List Addr}{e:Addr}{S:Addr->Prop}{h h' base:Heap}{l:List Env}(x:Kpx fs e S h h') (hl:h.FunFrames base l):h'.FunFrames base l:=hl.of_keeps fun b o hb hn=>let ⟨_,q⟩:=x.up b o hb hn;⟨_,q,rfl⟩
section
variable {M:Model}{A:Around}{E:Value->Shared->Prop}{s:Shared}{base:Heap}{S:Addr->Prop}{env:Env}{outer:List Env}{L e:Addr}{cls:Value}{dct:Option Addr}
theorem vz {vs:Array Value}{sl:Array (Option Value)}{head:Value}{hadNext:Bool}{Q:Unit->Shared->Prop}
  (hfr:A.frames=some (env::outer)) (hl:s.heap.FunFrames base (env::outer)) (hf:env.frame=some L) (he:s.heap.get? e=some ⟨cls,dct,.fields vs,sl⟩) (hz:1<vs.size) (h00:∀b,S b->b<s.heap.objs.size)
  (h:∀h' fl,fl=rawInt L->Ntd h' S e cls dct fl->Kpx (fra (env::outer)) e S s.heap h'->Q () { s with heap:=h'}) :
  wpAny M A (do let a <- frameOf env;let pl <- entryPlaceOf L hadNext;let b <- EntryCells.newEntry head a .none (rawInt L) .none pl;setField (.ref e) 1 b) Q E s:=by
 have ne:e∉fra (env::outer):=fun m=>by obtain⟨_,o,ho,hd⟩:=hl.mem m;rw[he] at ho;cases ho;exact hd vs rfl
 refine wpAny_bind (wpAny_frameOf_fun hfr hl hf fun h1 q=>?_);refine wpAny_bind (wpAny_entryPlaceOf fun pl hpl=>?_);unfold EntryCells.newEntry newFields;refine wpAny_bind (wpAny_newObj_type ?_ (hpl.sizeOk5 _ _ _ _ _));generalize hts:([head,.ref L,.none,rawInt L,.none]++(if pl.isEmpty then List.replicate 6 Value.none else pl)).toArray=ts;have e1:h1.get? e=some ⟨cls,dct,.fields vs,sl⟩:=(q.2.1 e ne).trans he;have tz:h1.objs.size≠e:=Nat.ne_of_gt (Heap.lt_size e1);refine wpAny_setField (Heap.get?_push_of_some _ e1) rfl hz (h _ _ rfl ?_ ⟨by rw[rE,Heap.size_push,q.1];exact Nat.le_succ _,⟨[],(fun _ m=>nomatch m),fun b o hb nf nb _=>?_⟩,fun b o hb mf=>?_,fun b o hb hnf=>?_⟩)
 ·refine⟨vs.setIfInBounds 1 (.ref h1.objs.size),sl,h1.objs.size,_,ts,Heap.get?_update_self _ (Heap.get?_push_of_some _ e1) rfl,by simp [hz],?_,tz,(Heap.get?_update_other _ _ (Ne.symm tz)).trans (Heap.get?_push_size h1 rfl),rfl,?_⟩
  ·intro g;have:=h00 _ g;rw[q.1] at this;exact absurd this (Nat.lt_irrefl _)
  rw[<- hts];first | (simp;done) | (rcases hpl with rfl | ⟨_,_,_,_,_,_,_,rfl⟩ <;> simp)
 ·exact (Heap.get?_update_other _ _ (Ne.symm nb)).trans (Heap.get?_push_of_some _ ((q.2.1 b nf).trans hb))
 ·obtain⟨sl',hs⟩:=q.2.2 b o hb;have nb:b≠e:=fun z=>ne (z▸mf);exact⟨sl',(Heap.get?_update_other _ _ (Ne.symm nb)).trans (Heap.get?_push_of_some _ hs)⟩
 obtain⟨sl',hs⟩:=q.2.2 b o hb;have nb:b≠e:=fun z=>by subst z;rw[he] at hb;cases hb;exact hnf vs rfl
 exact⟨sl',(Heap.get?_update_other _ _ (Ne.symm nb)).trans (Heap.get?_push_of_some _ hs)⟩
theorem Oz {fl x:Value}{T:Addr}{oT:Obj}{ts vs:Array Value}{sl:Array (Option Value)}{fs:List Addr}{Q:Unit->Shared->Prop}(he:s.heap.get? e=some ⟨cls,dct,.fields vs,sl⟩) (h1:vs[1]?=some (.ref T)) (hT0:¬S T) (hTe:T≠e) (hT:s.heap.get? T=some oT) (hd:oT.data=.fields ts) (h3:ts[3]?=some fl)
  (hfs:∀b∈fs,∃o,s.heap.get? b=some o/\∀vs,o.data≠.fields vs)
  (h:∀h',h'.get? e=some ⟨cls,dct,.fields vs,sl⟩->Ntd h' S e cls dct x->Kpx fs e S s.heap h'->Q () { s with heap:=h'}):wpAny M A (setField (.ref T) 3 x) Q E s:=by
 have ot:∀b,b≠T->(s.heap.update T (Obj.mapFields (·.setIfInBounds 3 x))).get? b=s.heap.get? b:=fun b hb=>Heap.get?_update_other _ _ (Ne.symm hb);have z3:=(Array.getElem?_eq_some_iff.mp h3).1;have d2:=Obj.data_mapFields hd (·.setIfInBounds 3 x);have nT:∀b o,s.heap.get? b=some o->(∀vs,o.data≠.fields vs)->b≠T:=fun b o hb hn z=>by subst z;rw[hT] at hb;cases hb;exact hn ts hd
 refine wpAny_setField hT hd z3 (h _ ((ot e (Ne.symm hTe)).trans he) ⟨vs,sl,T,_,_,(ot e (Ne.symm hTe)).trans he,h1,hT0,hTe,Heap.get?_update_self _ hT (Obj.isFreed_of_fields d2),d2,by simp [z3]⟩ ⟨by rw[rE];exact Nat.le_refl _,⟨[T],fun b m=>by rw[List.mem_singleton.mp m];exact hT0,fun b o hb _ _ nx=>(ot b fun z=>nx (List.mem_singleton.mpr z)).trans hb⟩,fun b o hb mf=>⟨o.slots,(ot b ?_).trans hb⟩,fun b o hb hn=>⟨o.slots,(ot b (nT b o hb hn)).trans hb⟩⟩);obtain⟨o',ho',hn⟩:=hfs b mf;exact nT b o' ho' hn
theorem zK {fl:Value}{fs:List Addr}{Q:Unit->Shared->Prop}(hN:Ntd s.heap S e cls dct fl) (hfs:∀b∈fs,∃o,s.heap.get? b=some o/\∀vs,o.data≠.fields vs)
  (h:∀h',Ntd h' S e cls dct .none->Kpx fs e S s.heap h'->Q () { s with heap:=h'}):wpAny M A (setFlight (.ref e) none) Q E s:=by
 obtain⟨vs,sl,T,oT,ts,he,h1,hT0,hTe,hT,hd,h3⟩:=hN;unfold setFlight;refine wpAny_bind (wpAny_field he rfl h1 ?_);rw[if_pos (show (Value.ref T != Value.none)=true from by simp)];exact Oz he h1 hT0 hTe hT hd h3 hfs fun h' _ hN' hk=>h h' hN' hk
theorem note {Q:Unit->Shared->Prop}(hfr:A.frames=some (env::outer)) (hl:s.heap.FunFrames base (env::outer)) (hf:env.frame=some L) (hN:Rsd s.heap e cls dct\/Ntd s.heap S e cls dct .none\/Ntd s.heap S e cls dct (rawInt L)) (h00:∀b,S b->b<s.heap.objs.size)
  (h:∀h',Ntd h' S e cls dct (rawInt L)->Kpx (fra (env::outer)) e S s.heap h'->Q () { s with heap:=h'}):wpAny M A (noteFrame (.ref e) env) Q E s:=by
 have hfs:∀b∈fra (env::outer),∃o,s.heap.get? b=some o/\∀vs,o.data≠.fields vs:=fun b mb=>(hl.mem mb).2;unfold noteFrame;simp only[hf];rcases hN with ⟨vs,sl,he,h1⟩ | ⟨vs,sl,T,oT,ts,he,h1,hT0,hTe,hT,hd,h3⟩ | ⟨vs,sl,T,oT,ts,he,h1,hT0,hTe,hT,hd,h3⟩
 ·refine wpAny_bind (wpAny_field he rfl h1 ?_);rw[if_neg (by decide)];exact vz hfr hl hf he (Array.getElem?_eq_some_iff.mp h1).1 h00 fun h' fl e1 hn hk=>h h' (e1▸hn) hk
 ·refine wpAny_bind (wpAny_field he rfl h1 ?_);rw[if_pos (show (Value.ref T != Value.none)=true from by simp)];refine wpAny_bind (wpAny_field hT hd h3 ?_);rw[if_neg (show ¬((Value.none==rawInt L)=true) from by simp [rawInt])];refine wpAny_bind (Oz (x:=.none) he h1 hT0 hTe hT hd h3 hfs fun h2 he2 _ hk=>?_);refine vz hfr (hk.fr hl) hf he2 (Array.getElem?_eq_some_iff.mp h1).1 (fun b hb=>Nat.lt_of_lt_of_le (h00 b hb) hk.sz) fun h' fl e1 hn hk2=>h h' (e1▸hn) (hk.trans hk2)
 refine wpAny_bind (wpAny_field he rfl h1 ?_);rw[if_pos (show (Value.ref T != Value.none)=true from by simp)];refine wpAny_bind (wpAny_field hT hd h3 ?_);rw[if_pos (show (rawInt L==rawInt L)=true from by first | (simp;done) | exact beq_self_eq_true _)];exact wpAny_pure (h _ ⟨vs,sl,T,oT,ts,he,h1,hT0,hTe,hT,hd,h3⟩ ⟨Nat.le_refl _,⟨[],(fun _ m=>nomatch m),fun _ _ q _ _ _=>q⟩,fun _ o q _=>⟨o.slots,q⟩,fun _ o q _=>⟨o.slots,q⟩⟩)
theorem leaves {Q:Unit->Shared->Prop}(hfr:A.frames=some (env::outer)) (hl:s.heap.FunFrames base (env::outer)) (hf:env.frame=some L) (hN:Rsd s.heap e cls dct\/Ntd s.heap S e cls dct .none\/Ntd s.heap S e cls dct (rawInt L)) (h00:∀b,S b->b<s.heap.objs.size)
  (h:∀h',Ntd h' S e cls dct .none->Kpx (fra (env::outer)) e S s.heap h'->Q () { s with heap:=h'}):wpAny M A (leaving env (.ref e)) Q E s:=by
 unfold leaving;refine wpAny_bind (note hfr hl hf hN h00 fun h1 hn hk=>?_);refine zK hn (fun b mb=>?_) fun h2 hn2 hk2=>h h2 hn2 (hk.trans hk2);exact ((hk.fr hl).mem mb).2
end
abbrev Std (s:Shared) (H:Hp):Addr->Prop:=fun b=>b<s.heap.objs.size\/∃u,H b=some u
def CX1 (P:Program) (w:World):CXT:=fun outer H s E e s'=>∃(ea C dx:Addr) (H':Hp),e=.ref ea/\s'.os=s.os/\AllBare s'.gens/\Un (frs outer) [] H H' s.heap s'.heap/\HOk P w H' s'.heap/\s.heap.objs.size<=ea/\H' ea=none /\
 Ntd s'.heap (Std s H') ea (.ref C) (some dx) .none/\E (.ref C) (some dx) H'
def SX (X:Cx) (pins:List (Addr × Obj)) (H:Hp):Addr->Prop:=fun b=>Std X.s₀ H b\/(∃p∈X.pn++pins,p.1=b)\/(∃x,X.env.cells.lookup x=some b)\/b=X.env.locals
structure Fly (X:Cx) (pins:List (Addr × Obj)) (U:St) (H:Hp) (s:Shared) (ea C dx:Addr):Prop where
 inv:Inv X pins U H s
 new:X.s₀.heap.objs.size<=ea/\ea≠X.env.locals/\(∀x c,X.env.cells.lookup x=some c->c≠ea)/\∀p∈X.pn++pins,p.1≠ea
 free:H ea=none
 fly:Rsd s.heap ea (.ref C) (some dx)\/Ntd s.heap (SX X pins H) ea (.ref C) (some dx) .none
theorem Ntd.mono {h:Heap}{S S':Addr->Prop}{e:Addr}{cls:Value}{dct:Option Addr}{fl:Value}(x:Ntd h S e cls dct fl) (k:∀b,S' b->S b):Ntd h S' e cls dct fl:=by
 obtain⟨vs,sl,T,oT,ts,h1,h2,h3,r⟩:=x;exact⟨vs,sl,T,oT,ts,h1,h2,fun z=>h3 (k _ z),r⟩
section
variable {X:Cx}{pins:List (Addr × Obj)}{U:St}{H H':Hp}{s s':Shared}{ea C dx:Addr}{E:XK}
theorem ObjOk.there {P:Program}{w:World}{h:Heap}{a:Addr}{o:HO}(x:ObjOk P w H h a o):∃u,h.get? a=some u:=by
 cases o with
 |lst xs=>obtain⟨_,_,_,_,e⟩:=x;exact⟨_,e⟩
 |tup xs=>obtain⟨_,_,_,_,e,_⟩:=x;exact⟨_,e⟩
 |dK kvs=>obtain⟨_,_,_,_,_,_,_,e,_⟩:=x;exact⟨_,e⟩
 |dT kvs=>obtain⟨_,_,_,_,_,_,_,e,_⟩:=x;exact⟨_,e⟩
 |set S n=>obtain⟨_,_,_,_,e,_⟩:=x;exact⟨_,e⟩
 |ins C dx fs=>obtain⟨_,_,_,e,_⟩:=x;exact⟨_,e⟩
 |own _=>exact x
 |xd fs=>obtain⟨_,⟨_,_,_,e,_⟩,_⟩:=x;exact⟨_,e⟩
 |met f x'=>exact⟨_,x⟩
 |rng lo hi=>obtain⟨_,_,_,e⟩:=x;exact⟨_,e⟩
 |frz o u=>exact⟨_,x.1⟩
 |tbl ps=>exact⟨_,x⟩
 |ext φ=>exact x.2.1
theorem Inv.cellAt (I:Inv X pins U H s) {x:Str}{c:Addr}(h:X.env.cells.lookup x=some c):∃u,s.heap.get? c=some u:=by
 obtain⟨v,o,e,_⟩:=I.cell x c h;exact⟨o,e⟩
theorem Inv.sx (I:Inv X pins U H s) {b:Addr}(h:SX X pins H b):b<s.heap.objs.size:=by
 rcases h with (h | ⟨u,hu⟩) | ⟨p,hp,rfl⟩ | ⟨x,hx⟩ | rfl
 ·exact Nat.lt_of_lt_of_le h I.sz
 ·exact (I.hok b u hu).lt
 ·exact Heap.lt_size (I.pin p hp).1
 ·obtain⟨u,hu⟩:=I.cellAt hx;exact Heap.lt_size hu
 exact I.lt
theorem Inv.newer (I:Inv X pins U H s) {a:Addr}(h:s.heap.objs.size<=a):X.s₀.heap.objs.size<=a/\a≠X.env.locals/\(∀x c,X.env.cells.lookup x=some c->c≠a)/\∀p∈X.pn++pins,p.1≠a:=by
 have nl:∀b,b<s.heap.objs.size->b≠a:=fun b hb z=>by rw[z] at hb;exact absurd hb (Nat.not_lt_of_le h)
 exact⟨Nat.le_trans I.sz h,Ne.symm (nl _ I.lt),fun x c hc=>nl c (let ⟨_,hu⟩:=I.cellAt hc;Heap.lt_size hu),fun p hp=>nl _ (Heap.lt_size (I.pin p hp).1)⟩
theorem J2 (I:Inv X pins U H s) {e:Value}(h:CX1 X.prog X.w X.stack H s E e s'):∃ea C dx H',e=.ref ea/\Fly X pins U H' s' ea C dx/\E (.ref C) (some dx) H':=by
 obtain⟨ea,C,dx,H',rfl,os,bare,un,hok,new,free,ntd,he⟩:=h;refine⟨ea,C,dx,H',rfl,⟨I.call' os un hok bare (fun b z=>absurd z (by simp)),I.newer new,free,.inr (ntd.mono fun b hb=>?_)⟩,he⟩;rcases hb with (hb | hb) | ⟨p,hp,rfl⟩ | ⟨x,hx⟩ | rfl
 ·exact .inl (Nat.lt_of_lt_of_le hb I.sz)
 ·exact .inr hb
 ·exact .inl (Heap.lt_size (I.pin p hp).1)
 ·obtain⟨u,hu⟩:=I.cellAt hx;exact .inl (Heap.lt_size hu)
 exact .inl I.lt
theorem Kpx.hok {fs:List Addr}{S:Addr->Prop}{h h':Heap}{P:Program}{w:World}(k:Kpx fs ea S h h') (hS:∀b u,H b=some u->S b) (hf:∀b∈fs,H b=none) (he:H ea=none) (x:HOk P w H h):HOk P w H h':=fun b u e=>by
 refine (x b u e).stay (fun c v hc q=>?_) (fun _ q=>q) fun _ _ q=>q;have hc':∃u,H c=some u:=by
  rcases hc with z | z
  ·exact⟨u,z▸e⟩
  exact⟨_,z⟩
 obtain⟨u',hu'⟩:=hc';exact k.keep c v q (hS c u' hu') (fun z=>by rw[hf c z] at hu';cases hu') fun z=>by rw[z,he] at hu';cases hu'
theorem Em {E':Value->Shared->Prop}(F:Fly X pins U H s ea C dx) (hx:X.ex=[]) (hs:X.stack=X.env::X.outer) (hf:X.env.frame=some X.env.locals) (he:E (.ref C) (some dx) H) :
  wpAny (model X.prog X.w) X.A (leaving X.env (.ref ea)) (fun _ s'=>CX1 X.prog X.w X.outer X.H₀ X.s₀ E (.ref ea) s') E' s:=by
 obtain ⟨I,new,free,fly⟩:=F;have hl:=I.stack;have hfr:=I.ok.frames;rw [hs] at hl hfr;have fra_eq : fra (X.env :: X.outer) = X.env.locals :: frs X.outer:=by show List.filterMap _ (X.env :: X.outer) = _;rw [List.filterMap_cons,hf];rfl
 refine leaves (base:=X.base) (S:=SX X pins H) hfr hl hf (by rcases fly with q | q;exact .inl q;exact .inr (.inl q)) (fun b hb=>I.sx hb) fun h' ntd k=>?_;have stf:∀b∈fra (X.env::X.outer),H b=none:=fun b hb=>I.stkFree b (by rw[hs];exact hb);have lnew:∀b o,X.s₀.heap.get? b=some o->b≠X.env.locals:=fun b o e z=>by have h1:=Heap.lt_size e;have h2:=I.ok.above;rw[z] at h1;exact absurd h1 (Nat.not_lt_of_le h2)
 have nea:∀b o,X.s₀.heap.get? b=some o->b≠ea:=fun b o e z=>by have h1:=Heap.lt_size e;rw[z] at h1;exact absurd h1 (Nat.not_lt_of_le new.1)
 have nex:∀b:Addr,b∉X.ex:=fun b=>by rw[hx];simp
 refine⟨ea,C,dx,H,rfl,I.os,I.bare,⟨fun b o e n nf _=>?_,fun b o e n mf _=>?_,fun b o e n _=>I.base.free b o e n (nex b),fun b o e _=>?_,I.base.tups,I.base.frzs,I.base.tbls⟩,k.hok (fun b u e=>.inl (.inr ⟨u,e⟩)) stf free I.hok,new.1,free,ntd.mono (fun b hb=>.inl hb),he⟩
 ·refine k.keep b o (I.base.keep b o e n nf (nex b)) (.inl (.inl (Heap.lt_size e))) ?_ (nea b o e);rw[fra_eq];exact fun z=>(List.mem_cons.mp z).elim (lnew b o e) nf
 ·obtain⟨sl,q⟩:=I.base.slot b o e n mf (nex b);obtain⟨sl',q'⟩:=k.slot b _ q (by rw[fra_eq];exact List.mem_cons_of_mem _ mf);exact⟨sl',q'⟩
 obtain⟨o',q⟩:=I.base.there b o e (nex b);by_cases m:b∈fra (X.env::X.outer)
 ·obtain⟨sl',q'⟩:=k.slot b _ q m;exact⟨_,q'⟩
 exact⟨_,k.keep b o' q (.inl (.inl (Heap.lt_size e))) m (nea b o e)⟩
def Meet (X:Cx) (E:St->XK):Prop:=∀(pins:List (Addr × Obj)) (U:St) (H:Hp) (s:Shared) (ea C dx:Addr),Fly X pins U H s ea C dx->E U (.ref C) (some dx) H->X.xe (.ref ea) s
end
theorem zL {P:Program}{w:World}{K:Frag}{mg:Str->Option Value}{base:Heap}{N:List Str}{qual:Str}{scope:Scope}{f:Addr}{cd:Value}{A:Around}{outer:List Env}{s:Shared}{H:Hp}{E:XK} :
  Meet (eU (CX1 P w) P w K mg base N qual scope f cd A outer s H E) (fun _=>E):=fun pins U H' s' ea C dx F he=>Em (X:=eU (CX1 P w) P w K mg base N qual scope f cd A outer s H E) F rfl rfl rfl he
section
variable {X:Cx}{k:Nat}{f:Addr}{fd:FuncData}{ps:List Str}{sp:Sp}{E:St->XK}{x:Str}{p pos:Pos}{e:Expr}{es:List Expr}{t:TA}
theorem En {pins:List (Addr × Obj)}{U:St}{H:Hp}{s:Shared}{Q:VK}{us:List Value}{vs:List V}(F:FnOk X.prog X.w X.K X.mg X.base (CX1 X.prog X.w) k f fd ps sp) (hr:Room k X.A) (hb:Binds X.K fd ps []) (hM:Meet X E)
  (I:Inv X pins U H s) (r:Vals vs us) (h:sp vs H Q (E U)):wpAny (model X.prog X.w) X.A (call (.ref f) us) (EP X pins U Q) X.xe s:=by
 have hl:(us++[]).length=ps.length:=by rw[List.append_nil,<- r.length];exact F.len _ _ _ _ h
 have hb':=hb s us I.kIn hl;rw[List.append_nil] at hb';refine wpAny_call (codeAny_mono (F.run X.A X.stack s H ⟨us,[]⟩ us vs Q (E U) hr I.env0 hb' r h) fun r s' hq=>?_);cases r with
 |error e=>obtain⟨ea,C,dx,H',rfl,Fl,he⟩:=J2 I hq;exact hM pins U H' s' ea C dx Fl he
 |ok fl =>
 cases fl with
 |ret u=>exact I.after hq
 |next=>exact False.elim hq
 |brk=>exact False.elim hq
 |cont=>exact False.elim hq
end
open PySem.Builtin PySem.Builtin.ObjectAttr
section
variable {prog:Program}{w:World}{A:Around}{E:Value->Shared->Prop}{K:Frag}{s:Shared}{x C:Addr}{name:Str}{v:Value}
structure XSet (K:Frag) (C:Addr) (cd:ClassData):Prop where
 cls:clsIn K C=some cd
 sa:findIn K (.ref C) "__setattr__"=some (some (.builtin "object.__setattr__"))
 ref:∀self:Value,refuseLoop self "__setattr__" cd.mro=pure ()
 obj:mroIn K C (.type "object")=some true
 dct:cd.hasDict=true
theorem xj {cd:ClassData}{ox:Obj}{od:Option Obj}{Q:Unit->Shared->Prop}(F:XSet K C cd) (X:K.In s.heap) (I:InstAt s.heap x ox C od) (hn:findIn K (.ref C) name=some none)
  (h:wpAny (model prog w) A.in1 (storeInOwnDict (.ref x) (.ref C) (.str name s.toks) name v false) (fun fin s'=>fin=.done (.ret .none)/\Q () s') E { s with toks:=s.toks+1}) :
  wpAny (model prog w) A (setAttr (.ref x) name v) Q E s:=by
 have SF:=PySem.F.store_object;refine PySem.W.set_plain X I F.sa ?_;have sub:Looks (model prog w) s.heap (isInstance (.ref x) (.type "object")) true:=I.type.andThen (looks_mroIn X F.obj);refine codeAny_call_builtin SF.slot.plain SF.entry (@check_slot (model prog w) _ _ { s with toks:=s.toks+1} "object.__setattr__" "object" "__setattr__" (.ref x) [.str name s.toks,v] [] _ SF.kind SF.split sub (SF.args (.ref x) (.str name s.toks) v) ?_);have hm:Looks (model prog w) s.heap (mroOf (.ref C)) cd.mro:=(looks_clsIn X F.cls).andThen .now;rw[osa_eq,refuse_eq];refine wpAny_bind (wpAny_bind (PySem.W.Looks.here (s:={ s with toks:=s.toks+1}) I.type (wpAny_bind (PySem.W.Looks.here (s:={ s with toks:=s.toks+1}) hm ?_))));rw[F.ref];refine wpAny_pure (wpAny_bind (PySem.W.Looks.here (s:={ s with toks:=s.toks+1}) I.type (wpAny_bind (PySem.W.Looks.here (s:={ s with toks:=s.toks+1}) (looks_findIn X hn) ?_))));refine wpAny_bind (wpAny_pure ?_);refine wpAny_mono h (fun fin s' z=>?_) fun _ _ z=>z;obtain⟨rfl,q⟩:=z;exact q
theorem zM {cd:ClassData}{vs:Array Value}{sl:Array (Option Value)}{Q:Unit->Shared->Prop}(F:XSet K C cd) (X:K.In s.heap) (hx:s.heap.get? x=some ⟨.ref C,none,.fields vs,sl⟩) (hn:findIn K (.ref C) name=some none)
  (h:∀h',h'.get? x=some ⟨.ref C,some s.heap.objs.size,.fields vs,sl⟩->h'.Ns1 s.heap.objs.size (fun y=>if y=name then some v else none)->(∀b o,b≠x->s.heap.get? b=some o->h'.get? b=some o)->Q () { s with heap:=h',toks:=s.toks+2}) :
  wpAny (model prog w) A (setAttr (.ref x) name v) Q E s:=by
 refine xj F X (od:=none) ⟨hx,rfl,rfl,trivial⟩ hn ?_;refine wpAny_bind (wpAny_pure (wpAny_bind (wpAny_bind (wpAny_loadPart hx (wpAny_bind (PySem.W.Looks.here (s:={ s with toks:=s.toks+1}) (looks_clsIn X F.cls) ?_))))));rw[F.dct];have xs:x≠s.heap.objs.size:=Nat.ne_of_lt (Heap.lt_size hx);have hx1:(s.heap.push { cls:=.type "dict",data:=.dict #[]}).get? x=some ⟨.ref C,none,.fields vs,sl⟩:=Heap.get?_push_of_some _ hx;show wpAny _ _ (alloc { cls:=.type "dict",data:=.dict #[]} >>= _) _ _ _;refine wpAny_bind (wpAny_alloc (wpAny_bind (wpAny_update hx1 (wpAny_pure ?_))));have gx:=Heap.get?_update_self (fun o=>{ cls:=o.cls,dict:=some s.heap.objs.size,data:=o.data,slots:=o.slots}) hx1 rfl;have gd:=(Heap.get?_update_other (s.heap.push { cls:=.type "dict",data:=.dict #[]}) (fun o=>{ cls:=o.cls,dict:=some s.heap.objs.size,data:=o.data,slots:=o.slots}) xs).trans (Heap.get?_push_size s.heap rfl);have go:∀b o,b≠x->s.heap.get? b=some o->((s.heap.push { cls:=.type "dict",data:=.dict #[]}).update x fun o=>{ cls:=o.cls,dict:=some s.heap.objs.size,data:=o.data,slots:=o.slots}).get? b=some o:=fun b o nb e=>(Heap.get?_update_other _ _ (Ne.symm nb)).trans (Heap.get?_push_of_some _ e);generalize (s.heap.push { cls:=.type "dict",data:=.dict #[]}).update x (fun o=>{ cls:=o.cls,dict:=some s.heap.objs.size,data:=o.data,slots:=o.slots})=h2 at gx gd go;have nd:h2.Ns s.heap.objs.size (fun _=>none):=⟨_,#[],_,gd,rfl,fun e he=>absurd he (by simp),fun _=>rfl⟩;refine wpAny_bind (wpAny_pure (wpAny_bind (wpAny_nsSet1 (Heap.Ns1.of_empty nd) fun h' hn2 hs2=>?_)));obtain⟨oD,esD,epD,hoD,hdD,hcD⟩:=hn2.count (PySem.Within.cons name v PySem.Within.nil);refine wpAny_bind (wpAny_lookBehind hoD (by rw[hdD];exact pastItsLine_dict (Nat.le_trans hcD (by rw[List.length_cons,List.length_nil,sizeLine_eq];omega))) ?_);exact wpAny_pure ⟨rfl,h h' ((hs2.2 x xs).trans gx) hn2 fun b o nb e=>(hs2.2 b (Nat.ne_of_lt (Heap.lt_size e))).trans (go b o nb e)⟩
variable {X:Cx}{pins:List (Addr × Obj)}{U:St}{H:Hp}{e dx:Addr}{f:Str}{fs:List (Str × V)}{y:V}{u:Value}{rd:Bool}{cd:ClassData}{h':Heap}
theorem Inv.xlay {t':Nat}{o1 o2:HO}(I:Inv X pins U H s) (hm:Mut (H e)) (hd:s.heap.get? dx=none) (hdH:H dx=none) (hne:dx≠e) (k:∀b o,b≠e->s.heap.get? b=some o->h'.get? b=some o) (he:∃o,h'.get? e=some o)
  (n1:ObjOk X.prog X.w (upd (upd H dx o1) e o2) h' dx o1) (n2:ObjOk X.prog X.w (upd (upd H dx o1) e o2) h' e o2):Inv X pins U (upd (upd H dx o1) e o2) { s with heap:=h',toks:=t'}:=by
 have hs:∃q,H e=some q:=by cases q:H e with
  |none=>rw[q] at hm;exact hm.elim
  |some o=>exact⟨o,rfl⟩
 obtain⟨q,hq⟩:=hs;have ne:∀b,H b=none->b≠e:=fun b z w=>by subst w;rw[hq] at z;cases z
 have nd:∀b o,s.heap.get? b=some o->b≠dx:=fun b o z w=>by subst w;rw[hd] at z;cases z
 have nm:∀b o,H b=some o->Mut (some o)=False->b≠e/\b≠dx:=fun b o z m=>⟨fun w=>by subst w;rw[z] at hm;rw[m] at hm;exact hm,fun w=>by subst w;rw[hdH] at z;cases z⟩;have st:∀b o,H b=some o->Mut (some o)=False->upd (upd H dx o1) e o2 b=some o:=fun b o z m=>by rw[aH (nm b o z m).1,aH (nm b o z m).2];exact z
 refine I.un ⟨fun b o z n _ _=>k b o (ne b n) z,fun b o z n _ _=>⟨o.slots,k b o (ne b n) z⟩,fun b o z n _=>by rw[aH (ne b n),aH (nd b o z)];exact n,fun b o z _=>?_,fun b xs z=>st b _ z rfl,fun b o u z=>st b _ z rfl,fun b ps z=>⟨#[],by rw[st b _ z rfl];simp⟩⟩ fun b u z=>?_
 ·by_cases w:b=e
  ·subst w;exact he
  exact⟨o,k b o w z⟩
 by_cases w:b=e
 ·subst w;rw[bw] at z;cases z;exact n2
 rw[aH w] at z;by_cases w2:b=dx
 ·subst w2;rw[bw] at z;cases z;exact n1
 rw[aH w2] at z;refine (I.hok b u z).stay (fun c v hc r=>k c v ?_ r) (fun c r=>st c _ r rfl) fun c xs r=>st c _ r rfl;rcases hc with rfl | hc
 ·exact w
 exact (nm c _ hc rfl).1
theorem J3 {mA:Str->Option Value}(r:∀g,RelO (fs.lookup g) (mA g)) (wi:PySem.Within mA (fs.map (·.1))) (ry:RelV y u) :
  (∀g,RelO ((j7 f y fs).lookup g) (if g=f then some u else mA g))/\PySem.Within (fun g=>if g=f then some u else mA g) ((j7 f y fs).map (·.1)):=by
 refine⟨fun g=>?_,fun g hg=>?_⟩
 ·rw[jq];by_cases q:g=f
  ·rw[if_pos q,if_pos q];exact ry
  rw[if_neg q,if_neg q];exact r g
 by_cases q:g=f
 ·rw[q];exact (iW f y fs).1
 refine (iW f y fs).2 g (wi g fun z=>hg ?_);show (if g=f then some u else mA g)=none;rw[if_neg q];exact z
theorem OD {Q:Unit->Shared->Prop}(F:XSet X.K C cd) (I:Inv X pins U H s) (he:H e=some (exO e C none rd)) (hn:findIn X.K (.ref C) f=some none) (ry:RelV y u)
  (h:∀dx s',H dx=none->dx≠e->Inv X pins U (upd (upd H dx (dxO dx [(f,y)])) e (exO e C (some dx) rd)) s'->Q () s'):wpAny (model X.prog X.w) A (setAttr (.ref e) f u) Q E s:=by
 obtain⟨vs,sl,hx,hv⟩:=exO.of I.hok he;have fr:H s.heap.objs.size=none:=I.hok.fresh (Nat.le_refl _);have ne:s.heap.objs.size≠e:=Nat.ne_of_gt (Heap.lt_size hx);refine zM F I.kIn hx hn fun h' gx hd k=>h s.heap.objs.size _ fr ne ?_;have dp:dxP s.heap.objs.size [(f,y)] h':=by have:=J3 (f:=f) (fs:=[]) (mA:=fun _=>none) (y:=y) (u:=u) (fun _=>trivial) PySem.Within.nil ry;exact⟨_,hd,this.1,this.2⟩
 exact I.xlay (by rw[he];exact trivial) (Heap.get?_none_of_le (Nat.le_refl _)) fr ne k ⟨_,gx⟩ (dxO.ok dp) (exO.ok ⟨vs,sl,gx,hv⟩)
end
theorem uo {K:Frag}{h:Heap}{N:Addr}{mN:Str->Option Value}{n:Str}{v:Value}(X:K.In h) (G:h.Ns N mN) (e:nsIn K N n=some (some v)):mN n=some v:=by
 obtain⟨o,es,ep,ho,hd,_,hf⟩:=G;unfold nsIn at e;split at e
 ·rename_i q;have:=X _ _ q;rw[ho] at this;cases this;cases hd;split at e
  ·rename_i he;rw[<- hf];unfold nsFind findBy;rw[<- Array.find?_toList,he];simpa using e
  split at e <;> cases e
 cases e
def zN (K:Frag) (C f:Addr) (bmB:List Value) (newId:String):Bool:=match K.lookup C with
 |some ⟨.type "type",_,.cls cd,sl⟩=>(match cd.mro,sl.toList with
  |.ref C'::bm,[_,_,_,_,some (.builtin n),_]=>C'==C&&(n==newId&&(!cd.hasDel&&(tailIn K bmB bm&&(nsOkIn K cd.ns&&nsIn K cd.ns "__init__"==some (some (.ref f))))))
  |_,_=>false)
 |_=>false
def OJ (h:Heap) (C f:Addr) (bmB:List Value) (newId:String):Prop :=
 ∃(bm:List Value) (N:Addr) (nm q:Str) (bs:List Value) (hd:Bool) (sn:List Str) (sub:List Value) (ab:Bool) (col:Option Bool) (dd:Option Addr) (k0 k1 k2 k3 k5:Option Value) (mN:Str->Option Value),
  h.get? C=some (excClassObj nm q C N bs bm hd sn sub ab col dd k0 k1 k2 k3 k5 newId)/\h.Ns N mN/\mN "__init__"=some (.ref f)/\OwnTail h bmB bm
theorem vA {K:Frag}{h:Heap}{C f:Addr}{bmB:List Value}{newId:String}(X:K.In h) (q:zN K C f bmB newId=true):OJ h C f bmB newId:=by
 unfold zN at q;split at q
 ·rename_i dd cd sl ho;split at q
  ·rename_i C' bm k0 k1 k2 k3 n k5 hm hs;simp only[Bool.and_eq_true,beq_iff_eq,Bool.not_eq_true'] at q;obtain⟨rfl,rfl,hdel,ht,hok,hi⟩:=q;obtain⟨nm,bs,mro,ns,qn,hd,sn,sub,ab,col,del⟩:=cd;dsimp only at hm hdel hok hi;subst hm hdel;have hsl:sl=#[k0,k1,k2,k3,some (.builtin n),k5]:=by obtain⟨l⟩:=sl;simp only at hs;rw[hs]
   subst hsl;have G:h.Ns ns (h.nsMap ns):=.of_isNs (PySem.W.isNs_of_in X hok);exact⟨bm,ns,nm,qn,bs,hd,sn,sub,ab,col,dd,k0,k1,k2,k3,k5,_,X _ _ ho,G,uo X G hi,PySem.W.tail_of_in X ht⟩
  cases q
 cases q
structure XMk (K:Frag) (C f:Addr) (bmB:List Value) (newId:String):Prop where
 makes:zN K C f bmB newId=true
 fn:isFn K (.ref f)=true
 kp:keepIn K (.ref C)=true
section
variable {X:Cx}{CX:CXT}{k:Nat}{f C:Addr}{fd:FuncData}{ps:List Str}{sp:Sp}{ds:List Value}{E:XK}{bmB:List Value}{newId nid B Bn initId inN:String}{bmN:List Value}
theorem Inv.xmade {pins:List (Addr × Obj)}{U:St}{H:Hp}{s:Shared}(I:Inv X pins U H s) (us:List Value):Inv X pins U (upd H (s.heap.objs.size+1) (exO (s.heap.objs.size+1) C none true)) { s with heap:=xg s.heap C us}:=by
 have up:∀b o,s.heap.get? b=some o->(xg s.heap C us).get? b=some o:=fun b o e=>Heap.get?_push_of_some _ (Heap.get?_push_of_some _ e);refine I.laid (t':=s.toks) (a:=s.heap.objs.size+1) up (Nat.le_succ _) (exO.ok ⟨#[.ref s.heap.objs.size,.none,.none,.none,.bool false,.none],#[],?_,fun _=>rfl⟩);have:=Heap.get?_push_size (s.heap.push { cls:=.type "tuple",data:=.seq us.toArray}) (o:={ cls:=.ref C,data:=.fields #[.ref s.heap.objs.size,.none,.none,.none,.bool false,.none]}) rfl;rw[Heap.size_push] at this;exact this
theorem xm {pins:List (Addr × Obj)}{U:St}{H:Hp}{s:Shared}{Q:VK}{us:List Value}{vs:List V}(Fn:ExcBaseFacts Bn newId inN bmN) (hBn:bmB.contains (.type Bn)=true) (FB:ExcBaseFacts B nid initId bmB) (M:XMk X.K C f bmB newId)
  (F:FnOk X.prog X.w X.K X.mg X.base CX0 k f fd ps sp) (hr:Room (k+1) X.A) (hb:Binds X.K fd ps []) (I:Inv X pins U H s) (r:Vals vs us) (hz:us.length<=sizeLine)
  (h:∀x,H x=none->s.heap.objs.size<=x->sp (.ref x::vs) (upd H x (exO x C none true)) (fun v H2=>v=.non/\Q (.ref x) H2) E0) :
  wpAny (model X.prog X.w) X.A (call (.ref C) us) (EP X pins U Q) X.xe s:=by
 have hq:=h (s.heap.objs.size+1) (I.hok.fresh (Nat.le_succ _)) (Nat.le_succ _);have I2:=Inv.xmade (C:=C) I us;have r2:Vals (V.ref (s.heap.objs.size+1)::vs) (Value.ref (s.heap.objs.size+1)::us):=.cons rfl r;have hl:(Value.ref (s.heap.objs.size+1)::us++[]).length=ps.length:=by have e:=r2.length;rw[F.len _ _ _ _ hq] at e;rw[List.append_nil];exact e.symm
 obtain⟨bm,N,nm,q,bs,hd,sn,sub,ab,col,dd,k0,k1,k2,k3,k5,mN,hC,hn,hi,T⟩:=vA I.kIn M.makes;have hfn:∃oI,X.K.lookup f=some oI/\oI.cls=.type "function":=by have:=beq_iff_eq.mp M.fn;exact Option.map_eq_some_iff.mp this
 obtain⟨oI,lk,hcI⟩:=hfn;have hf:=I.kIn _ _ lk;have run:=F.run _ X.stack _ _ ⟨Value.ref (s.heap.objs.size+1)::us,[]⟩ (Value.ref (s.heap.objs.size+1)::us) _ _ E0 (hr.make C us []) (I2.env0.make C us []) (by have:=hb _ (Value.ref (s.heap.objs.size+1)::us) I2.kIn hl;rw[List.append_nil] at this;exact this) r2 hq;obtain⟨hp,g,d,t,os⟩:=s;refine zJ Fn hBn FB T hC hn hi hf hcI hz (wpAny_call (codeAny_mono run fun r s' hq'=>?_));cases r with
 |error e=>exact hq'.elim
 |ok fl =>
 cases fl with
 |ret u=>obtain⟨v,H',I3,rv,ev,q3⟩:=I2.after hq';subst ev;exact⟨rv,⟨V.ref (hp.objs.size+1),H',I3,rfl,q3⟩⟩
 |next=>exact False.elim hq'
 |brk=>exact False.elim hq'
 |cont=>exact False.elim hq'
end
section
variable {M:Model}{A:Around}{E:Value->Shared->Prop}{env:Env}{f C:Addr}{bmB:List Value}{newId:String}{d:Option Addr}
theorem xn {s:Shared}{x:Sem Value}{Q:Flow->Shared->Prop}(hb:bmB.contains (.type "BaseException")=true) (hh:A.handled=none)
  (h:wpAny M A x (fun v s₁=>∃e vs sl d,v=.ref e/\OJ s₁.heap C f bmB newId/\s₁.heap.get? e=some ⟨.ref C,d,.fields vs,sl⟩/\vs[1]?=some .none/\E (.ref e) s₁) E s) :
  wpAny M A (raiseStmt env (some x) none) Q E s:=by
 unfold raiseStmt;refine wpAny_bind (wpAny_mono h (fun v s₁ h₁=>?_) fun _ _ z=>z);obtain⟨e,vs,sl,d,rfl,⟨bm,N,nm,q,bs,hd,sn,sub,ab,col,dd,k0,k1,k2,k3,k5,mN,hC,hn,hi,T⟩,he,h1,hE⟩:=h₁;have hcB:(Value.ref C::bm).contains (.type "BaseException")=true:=by rw[List.contains_cons,T.hasType hb,Bool.or_true]
 obtain⟨hp,g,dr,tk,os⟩:=s₁;repeat (first | (with_reducible refine wpAny_loadPart_at he ?_) | (with_reducible refine wpAny_loadPart_at hC ?_) | (with_reducible refine wpAny_isSubtype_exc hC ?_;rw[hcB]) | (with_reducible refine wpAny_field he rfl h1 ?_) | wp_step)
 exact wpAny_raiseNew_none hh hE
end
def rem (H:Hp) (e:Addr):Hp:=fun b=>if b=e then none else H b
theorem rF {H:Hp}{e:Addr}:rem H e e=none:=by unfold rem;rw[if_pos rfl]
theorem fc {H:Hp}{e b:Addr}(h:b≠e):rem H e b=H b:=by unfold rem;rw[if_neg h]
theorem iC {H:Hp}{e b:Addr}(h:H b=none):rem H e b=none:=by
 unfold rem;split
 ·rfl
 exact h
section
variable {X:Cx}{pins:List (Addr × Obj)}{U:St}{H:Hp}{s:Shared}{e:Addr}{φ:Heap->Prop}
theorem Inv.rem (I:Inv X pins U H s) (he:H e=some (.ext φ)):Inv X pins U (rem H e) s:=by
 have ne:∀b o,H b=some o->(∀ψ,o≠.ext ψ)->b≠e:=fun b o z n w=>by subst w;rw[he] at z;cases z;exact n φ rfl
 obtain⟨ok,os,bare,⟨u1,u2,u3,u4,u5,u6,u7⟩,loc,cell,free,freeC,pin,hok,len⟩:=I;refine⟨ok,os,bare,⟨u1,u2,fun b o z n m=>iC (u3 b o z n m),u4,fun b xs z=>?_,fun b o u z=>?_,fun b ps z=>?_⟩,loc,cell,iC free,fun x c z=>iC (freeC x c z),fun p hp=>⟨(pin p hp).1,iC (pin p hp).2.1,(pin p hp).2.2⟩,fun b u z=>?_,len⟩
 ·have:=u5 b xs z;rw[fc (ne b _ this (fun _=>nofun))];exact this
 ·have:=u6 b o u z;rw[fc (ne b _ this (fun _=>nofun))];exact this
 ·obtain⟨m,q⟩:=u7 b ps z;exact⟨m,by rw[fc (ne b _ q (fun _=>nofun))];exact q⟩
 by_cases w:b=e
 ·subst w;rw[rF] at z;cases z
 rw[fc w] at z;exact (hok b u z).stay (fun _ _ _ r=>r) (fun c r=>by rw[fc (ne c _ r (fun _=>nofun))];exact r) fun c xs r=>by rw[fc (ne c _ r (fun _=>nofun))];exact r
end
section
variable {X:Cx}{k:Nat}{f C:Addr}{fd:FuncData}{ps:List Str}{sp:Sp}{E:St->XK}{bmB:List Value}{newId nid B Bn initId inN:String}{bmN:List Value}{x:Str}{np cpos pos:Pos}{e:Expr}{es:List Expr}{t:TA}
def J4 (C:Addr) (sp:Sp) (E:St->XK) (t:TA):TS:=fun _ U H=>t U H fun vs H1=>vs.length<=sizeLine/\∀e,H1 e=none->∀Q:VK,(∀H2 dx,H2 e=some (exO e C (some dx) true)->E U (.ref C) (some dx) (rem H2 e)->Q .non H2)->sp (.ref e::vs) (upd H1 e (exO e C none true)) Q E0
theorem zO (hc:X.calm=true) (Fn:ExcBaseFacts Bn newId inN bmN) (hBn:bmB.contains (.type Bn)=true) (FB:ExcBaseFacts B nid initId bmB) (M:XMk X.K C f bmB newId) (F:FnOk X.prog X.w X.K X.mg X.base CX0 k f fd ps sp) (hr:Room (k+1) X.A) (hb:Binds X.K fd ps [])
  (hg:Gl X x) (hm:X.mg x=some (.ref C)) (hM:Meet X E) (ha:PA X (e::es) t) (hdb:(x==("__debug__":Str))=false:=by decide) (he:starEach (e::es) X.env=(false,eval e X.env)::starEach es X.env:=by rfl) (hpl:(backTo cpos (starEach es X.env)).any (·.1)=false:=by rfl) :
  PS X (.Raise (some (.Call (.Name x np) (e::es) [] cpos)) none pos) (J4 C sp E t):=by
 intro pins s U H D I h;rw[arm_exec_Raise];refine wpAny_bind (wpAny_standAt (xn (C:=C) (f:=f) (newId:=newId) FB.hasBase (I.ok.hd hc) ?_));refine wpAny_bind ?_;refine wpAny_Call_Name_kw (dJ I hg hm ?_ hdb);refine callWith_K (h₀:=X.base) I.ok.mod.kin M.kp (thn (ha cpos pins s U H _ I h) fun us s1 ⟨vs,H1,I1,r,hz,q⟩=>⟨I1.kIn,?_⟩) he hpl;refine thn (xm (Q:=fun v H2=>∃a dx,v=.ref a/\s1.heap.objs.size<=a/\H2 a=some (exO a C (some dx) true)/\E U (.ref C) (some dx) (rem H2 a)) Fn hBn FB M F hr hb I1 r (by show us.length<=_;rw[<- r.length];exact hz) fun a ha0 hn0=>?_) fun u s2 ⟨v,H2,I2,rv,a,dx,ev,hn,hex,hE⟩=>?_
 ·exact q a ha0 _ fun H2 dx h1 h2=>⟨rfl,a,dx,rfl,hn0,h1,h2⟩
 subst ev;obtain rfl:u=Value.ref a:=rv;obtain⟨vs',sl,ho,h1⟩:=exO.of I2.hok hex;refine wpAny_bind (wpAny_standAt (wpAny_pure ⟨a,vs',sl,some dx,rfl,vA I2.kIn M.makes,ho,h1 rfl,hM pins U (rem H2 a) s2 a C dx ⟨I2.rem hex,I1.newer hn,rF,.inl ⟨vs',sl,ho,h1 rfl⟩⟩ hE⟩))
variable {pins:List (Addr × Obj)}{U:St}{H:Hp}{s:Shared}{ea dx:Addr}{h':Heap}
theorem xq (hs:X.stack=X.env::X.outer) (hf:X.env.frame=some X.env.locals):fra X.stack=X.env.locals::X.fs:=by
 rw [hs];show List.filterMap _ (X.env :: X.outer) = _;rw [List.filterMap_cons,hf];rfl
theorem Inv.kpx (I:Inv X pins U H s) (hs:X.stack=X.env::X.outer) (hf:X.env.frame=some X.env.locals) (k:Kpx (fra X.stack) ea (SX X pins H) s.heap h') (free:H ea=none)
  (new:X.s₀.heap.objs.size<=ea/\ea≠X.env.locals/\(∀x c,X.env.cells.lookup x=some c->c≠ea)/\∀p∈X.pn++pins,p.1≠ea):Inv X pins U H { s with heap:=h'}:=by
 have hfs:=xq hs hf;obtain⟨xs,nx,kp⟩:=k.ex;have nfr:∀b,b≠X.env.locals->b∉X.fs->b∉fra X.stack:=fun b n1 n2 z=>by rw[hfs] at z;exact (List.mem_cons.mp z).elim n1 n2
 have mfr:∀b,b∈X.fs->b∈fra X.stack:=fun b z=>by rw[hfs];exact List.mem_cons_of_mem _ z
 have lfr:X.env.locals∈fra X.stack:=by rw[hfs];exact List.mem_cons_self
 refine I.step (ch:=ea::xs) (g':=s.gens) (d':=s.drawn) (t':=s.toks) (fun b hb=>?_) (fun b o n1 n2 nc e _=>kp b o e (nfr b n1 n2) (fun z=>nc (z▸List.mem_cons_self)) fun z=>nc (List.mem_cons_of_mem _ z))
  (fun b o _ mf _ e _=>k.slot b o e (mfr b mf)) (fun _ _ _ _ n=>n) (fun b o nc e=>?_) (fun _ _ e=>e) (fun _ _ _ e=>e) (fun b ps e=>⟨#[],by rw[e];simp⟩) (fun m hm=>?_)
  (k.hok (fun b u e=>.inl (.inr ⟨u,e⟩)) (fun b hb=>I.stkFree b hb) free I.hok) I.bare
 ·rcases List.mem_cons.mp hb with rfl | hb
  ·exact⟨.inr new.1,new.2⟩
  have:=nx b hb;refine⟨.inr (Nat.le_of_not_lt fun z=>this (.inl (.inl z))),fun z=>this (.inr (.inr (.inr z))),fun x c hc z=>this (.inr (.inr (.inl ⟨x,z▸hc⟩))),fun p hp z=>this (.inr (.inl ⟨p,hp,z⟩))⟩
 ·by_cases mf:b∈fra X.stack
  ·obtain⟨sl,q⟩:=k.slot b o e mf;exact⟨_,q⟩
  exact⟨o,kp b o e mf (fun z=>nc (z▸List.mem_cons_self)) fun z=>nc (List.mem_cons_of_mem _ z)⟩
 obtain⟨o,es,ep,ho,r⟩:=hm;obtain⟨sl,q⟩:=k.slot _ o ho lfr;exact⟨_,es,ep,q,r⟩
theorem Inv.track (I:Inv X pins U H s) (free:H ea=none) (new:X.s₀.heap.objs.size<=ea/\ea≠X.env.locals/\(∀x c,X.env.cells.lookup x=some c->c≠ea)/\∀p∈X.pn++pins,p.1≠ea) {φ:Heap->Prop}(ok:ObjOk X.prog X.w (upd H ea (.ext φ)) s.heap ea (.ext φ)) :
  Inv X pins U (upd H ea (.ext φ)) s:=by
 have ne:∀b o,H b=some o->b≠ea:=fun b o z w=>by subst w;rw[free] at z;cases z
 obtain⟨iok,os,bare,⟨u1,u2,u3,u4,u5,u6,u7⟩,loc,cell,fr,freeC,pin,hok,len⟩:=I;refine⟨iok,os,bare,⟨u1,u2,fun b o z n m=>?_,u4,fun b xs z=>?_,fun b o u z=>?_,fun b ps z=>?_⟩,loc,cell,by rw[aH (Ne.symm new.2.1)];exact fr,fun x c z=>by rw[aH (new.2.2.1 x c z)];exact freeC x c z,fun p hp=>⟨(pin p hp).1,by rw[aH (new.2.2.2 p hp)];exact (pin p hp).2.1,(pin p hp).2.2⟩,fun b u z=>?_,len⟩
 ·rw[aH fun w=>by subst w;exact absurd (Heap.lt_size z) (Nat.not_lt_of_le new.1)];exact u3 b o z n m
 ·have:=u5 b xs z;rw[aH (ne b _ this)];exact this
 ·have:=u6 b o u z;rw[aH (ne b _ this)];exact this
 ·obtain⟨m,q⟩:=u7 b ps z;exact⟨m,by rw[aH (ne b _ q)];exact q⟩
 by_cases w:b=ea
 ·subst w;rw[bw] at z;cases z;exact ok
 rw[aH w] at z;exact (hok b u z).stay (fun _ _ _ r=>r) (fun c r=>by rw[aH (ne c _ r)];exact r) fun c xs r=>by rw[aH (ne c _ r)];exact r
end
def Cx.inH (X:Cx) (e:Addr):Cx:={ X with A:=X.A.mark (some (.ref e)),calm:=false,xe:=fun _ _=>False}
section
variable {X:Cx}{pins:List (Addr × Obj)}{U:St}{H:Hp}{s:Shared}{ea:Addr}
theorem Inv.inH (I:Inv X pins U H s):Inv (X.inH ea) pins U H s:=by
 obtain⟨ok,os,bare,base,loc,cell,fr,freeC,pin,hok,len⟩:=I;exact⟨⟨ok.mod,ok.kind,ok.glob,ok.blt,ok.above,ok.inj,ok.has,ok.cab,(fun z=>nomatch z),ok.frames,ok.stk,ok.exf,ok.bs,ok.bsz,ok.noex,ok.exfs,ok.funs,ok.frf⟩,os,bare,base,loc,cell,fr,freeC,pin,hok,len⟩
theorem Inv.outH (I:Inv (X.inH ea) pins U H s) (ok:X.Ok):Inv X pins U H s:=by
 obtain⟨_,os,bare,base,loc,cell,fr,freeC,pin,hok,len⟩:=I;exact⟨ok,os,bare,base,loc,cell,fr,freeC,pin,hok,len⟩
variable {prog:Program}{w:World}{A:Around}{E:Value->Shared->Prop}{K:Frag}{C R:Addr}
def askIn (K:Frag) (R:Addr):Bool:=match K.lookup R with
 |some ⟨.type t,_,.cls _,_⟩=>t=="type"
 |_=>false
theorem J5 {K:Frag}{R:Addr}(h:askIn K R=true):∃dd cd sl,K.lookup R=some ⟨.type "type",dd,.cls cd,sl⟩:=by
 unfold askIn at h;split at h
 ·rename_i t dd cd sl q;rw[beq_iff_eq.mp h] at q;exact⟨dd,cd,sl,q⟩
 cases h
structure XAsk (K:Frag) (R:Addr):Prop where
 at_:askIn K R=true
 base:mroIn K R (.type "BaseException")=some true
theorem m9 {oe:Obj}{b:Bool}{Q:Bool->Shared->Prop}(a:XAsk K R) (X:K.In s.heap) (he:s.heap.get? ea=some oe) (hc:oe.cls=.ref C) (hm:mroIn K C (.ref R)=some b) (h:Q b s) :
  wpAny (model prog w) A (excMatches (.ref ea) (.ref R)) Q E s:=by
 obtain⟨hat,hb⟩:=a;obtain⟨dd,cd,sl,lk⟩:=J5 hat
 have hR:=X _ _ lk;have L1:Looks (model prog w) s.heap (isSubtype (.ref R) (.type "BaseException")) true:=looks_mroIn X hb;have L2:Looks (model prog w) s.heap (isSubtype (.ref C) (.ref R)) b:=looks_mroIn X hm;have f1:isSubtype (.type "type") (.type "tuple")=pure false:=by rw[isSubtype_type];kernel_rfl
 obtain⟨hp,g,d,tk,os⟩:=s;unfold excMatches;repeat (first | (with_reducible refine wpAny_loadPart_at hR ?_) | (with_reducible refine wpAny_loadPart_at he ?_;rw[hc]) | (with_reducible refine PySem.W.Looks.here (s:=⟨hp,g,d,tk,os⟩) L1 ?_) | (with_reducible refine PySem.W.Looks.here (s:=⟨hp,g,d,tk,os⟩) L2 ?_) | wp_step)
 cases b <;> (wp_walk;exact h)
variable {dx:Addr}{M:Model}
theorem name_goes {i:Nat}{n:Str}{pos:Pos}{Q:Unit->Shared->Prop}(I:Inv X pins U H s) (hN:X.N.Nodup) (hi:X.N[i]?=some n) (hl:X.env.scope.names.lookup n=some .local)
  (h:∀s',Inv X pins (U.set i none) H s'->Q () s'):wpAny M A (do bindName X.env n .none;unbindBehindTheSuite X.env n pos) Q E s:=by
 refine wpAny_bind (wpAny_bindName (fB (v:=.non) (u:=.none) I hN hi (.inl hl) rfl (fun s1 I1 _=>?_) (.inr hl)));unfold unbindBehindTheSuite;refine wpAny_onRaise ?_;obtain⟨m,hn,hlk⟩:=id I1.loc;have hcls:(X.env.scope.kind==.class||(X.env.scope.kind==.module&&X.env.locals != X.env.globals))=false:=by rw[I1.ok.kind];rfl
 have hiU:i<U.length:=by rw[I.len];exact (List.getElem?_eq_some_iff.mp hi).1
 obtain⟨u,ru,lk⟩:=hlk i n .non hi (by rw[List.getElem?_set_self hiU]) (.inl hl);have hv:m n=some u:=by
  rcases lk with ⟨_,z⟩ | ⟨z,_⟩
  ·exact z
  have hk:X.env.kindOf n=some .local:=hl;rcases z with z | z <;> rw[hk] at z <;> cases z
 have cne:=I1.cne;obtain⟨oL,_,_,hoL,_⟩:=id hn;refine wpAny_unbindName_local hl hn hv hcls fun h' u' hn' hs=>h _ ⟨I1.ok,I1.os,I1.bare,⟨fun b o e n hb hx=>?_,fun b o e n hb hx=>?_,I1.base.free,fun b o e hx=>?_,I1.base.tups,I1.base.frzs,I1.base.tbls⟩,⟨_,hn',fun j y v' e1 e2 e3=>?_⟩,fun y c e=>?_,I1.free,I1.freeC,fun p hp=>?_,fun b ob e=>?_,by have:=I1.len;simp only[List.length_set] at this ⊢;exact this⟩
 ·exact (hs.2 b (Nat.ne_of_lt (Nat.lt_of_lt_of_le (Heap.lt_size e) I1.ok.above))).trans (I1.base.keep b o e n hb hx)
 ·obtain⟨sl,q⟩:=I1.base.slot b o e n hb hx;exact⟨sl,(hs.2 b (Nat.ne_of_lt (Nat.lt_of_lt_of_le (Heap.lt_size e) I1.ok.above))).trans q⟩
 ·obtain⟨o',q⟩:=I1.base.there b o e hx;exact⟨o',(hs.2 b (Nat.ne_of_lt (Nat.lt_of_lt_of_le (Heap.lt_size e) I1.ok.above))).trans q⟩
 ·by_cases hj:j=i
  ·subst hj;rw[List.getElem?_set_self hiU] at e2;cases e2
  rw[List.getElem?_set_ne (Ne.symm hj)] at e2;obtain⟨w',r',q⟩:=hlk j y v' e1 (by rw[List.getElem?_set_ne (Ne.symm hj)];exact e2) e3;refine⟨w',r',?_⟩;rcases q with ⟨k,e⟩ | ⟨k,c,e,z⟩
  ·refine .inl ⟨k,?_⟩;have:y≠n:=fun e=>hj (j4 hN e1 (e▸hi));simp [this,e]
  exact .inr ⟨k,c,e,z.sameBut hs (cne y c e)⟩
 ·obtain⟨w',z⟩:=I1.cell y c e;exact⟨w',z.sameBut hs (cne y c e)⟩
 ·obtain⟨e,n,ne,nf,d⟩:=I1.pin p hp;exact⟨(hs.2 p.1 ne).trans e,n,ne,nf,d⟩
 refine (I1.hok b ob e).stay (fun c w' hc q=>(hs.2 c ?_).trans q) (fun _ q=>q) fun _ _ q=>q;rintro rfl;have fr:=I1.free;rcases hc with z | hc
 ·rw[<- z,fr] at e;cases e
 rw[fr] at hc;cases hc
end
def mrg (H0 H:Hp):Hp:=fun b=>match H b with
 |some (.tup xs)=>some (.tup xs)
 |some (.frz o u)=>some (.frz o u)
 |_=>H0 b
theorem iD {H0 H:Hp}{b:Addr}(h:H b=none):mrg H0 H b=H0 b:=by unfold mrg;rw[h]
theorem pC {H0 H:Hp}{b:Addr}{xs:List V}(h:H b=some (.tup xs)):mrg H0 H b=some (.tup xs):=by unfold mrg;rw[h]
theorem pF {H0 H:Hp}{b:Addr}{o:Obj}{u:HO}(h:H b=some (.frz o u)):mrg H0 H b=some (.frz o u):=by unfold mrg;rw[h]
theorem pG (H0 H:Hp) (b:Addr):(∃xs,H b=some (.tup xs)/\mrg H0 H b=some (.tup xs))\/(∃o u,H b=some (.frz o u)/\mrg H0 H b=some (.frz o u))\/mrg H0 H b=H0 b:=by
 cases q:H b with
 |none=>exact .inr (.inr (iD q))
 |some o =>
 cases o with
 |tup xs=>exact .inl ⟨xs,rfl,pC q⟩
 |frz o u=>exact .inr (.inl ⟨o,u,rfl,pF q⟩)
 |_=>exact .inr (.inr (by unfold mrg;rw[q]))
def Cx.atTry (X:Cx) (xe:Value->Shared->Prop) (pn:List (Addr × Obj)) (H0:Hp):Cx:={ X with xe:=xe,pn:=pn,H₀:=H0}
section
variable {X:Cx}{pins pins':List (Addr × Obj)}{U:St}{H H1:Hp}{s s1:Shared}{xe:Value->Shared->Prop}
theorem Inv.atTry (I:Inv X pins U H s):Inv (X.atTry xe (X.pn++pins) (mrg X.H₀ H)) [] U H s:=by
 have bs:=I.bs;have fsn:∀b∈X.fs,H b=none:=fun b hb=>by obtain⟨_,o,ho,_⟩:=I.ok.funs.mem hb;exact I.base.free b o ho (I.ok.frf b hb) fun z=>I.ok.exfs b z hb
 obtain⟨ok,os,bare,⟨u1,u2,u3,u4,u5,u6,u7⟩,loc,cell,fr,freeC,pin,hok,len⟩:=I;have nn:∀b,mrg X.H₀ H b=none->X.H₀ b=none:=fun b z=>by
  rcases pG X.H₀ H b with ⟨xs,_,q⟩ | ⟨o,u,_,q⟩ | q
  ·rw[q] at z;cases z
  ·rw[q] at z;cases z
  rw[<- q];exact z
 refine⟨⟨ok.mod,ok.kind,ok.glob,ok.blt,ok.above,ok.inj,ok.has,ok.cab,ok.hd,ok.frames,ok.stk,ok.exf,fun b o e=>⟨(ok.bs b o e).1,(iD (bs b o e).2).trans (ok.bs b o e).2⟩,ok.bsz,ok.noex,ok.exfs,ok.funs,fun b hb=>(iD (fsn b hb)).trans (ok.frf b hb)⟩,os,bare,
  ⟨fun b o e n=>u1 b o e (nn b n),fun b o e n=>u2 b o e (nn b n),fun b o e n=>u3 b o e (nn b n),u4,fun b xs z=>?_,fun b o u z=>?_,fun b ps z=>?_⟩,loc,cell,fr,freeC,fun p hp=>pin p (by simpa [Cx.atTry] using hp),hok,len⟩
 ·rcases pG X.H₀ H b with ⟨xs',h,q⟩ | ⟨o,u,h,q⟩ | q
  ·rw[show mrg X.H₀ H b=some (.tup xs) from z] at q;cases q;exact h
  ·rw[show mrg X.H₀ H b=some (.tup xs) from z] at q;cases q
  exact u5 b xs (q▸z)
 ·rcases pG X.H₀ H b with ⟨xs',h,q⟩ | ⟨o',u',h,q⟩ | q
  ·rw[show mrg X.H₀ H b=some (.frz o u) from z] at q;cases q
  ·rw[show mrg X.H₀ H b=some (.frz o u) from z] at q;cases q;exact h
  exact u6 b o u (q▸z)
 rcases pG X.H₀ H b with ⟨xs',h,q⟩ | ⟨o',u',h,q⟩ | q
 ·rw[show mrg X.H₀ H b=some (.tbl ps) from z] at q;cases q
 ·rw[show mrg X.H₀ H b=some (.tbl ps) from z] at q;cases q
 exact u7 b ps (q▸z)
theorem Inv.offTry (I:Inv X pins U H s) {U1:St}(J:Inv (X.atTry xe (X.pn++pins) (mrg X.H₀ H)) pins' U1 H1 s1):Inv X pins U1 H1 s1:=by
 have hn:∀b o,X.s₀.heap.get? b=some o->X.H₀ b=none->b∉X.ex->mrg X.H₀ H b=none:=fun b o e n x=>(iD (I.base.free b o e n x)).trans n;obtain⟨_,os,bare,⟨u1,u2,u3,u4,u5,u6,u7⟩,loc,cell,fr,freeC,pin,hok,len⟩:=J;refine⟨I.ok,os,bare,⟨fun b o e n f x=>u1 b o e (hn b o e n x) f x,fun b o e n f x=>u2 b o e (hn b o e n x) f x,fun b o e n x=>u3 b o e (hn b o e n x) x,u4,fun b xs z=>u5 b xs (pC (I.base.tups b xs z)),fun b o u z=>u6 b o u (pF (I.base.frzs b o u z)),fun b ps z=>u7 b ps ?_⟩,loc,cell,fr,freeC,fun p hp=>pin p (List.mem_append_left _ hp),hok,len⟩;obtain⟨m,q⟩:=I.base.tbls b ps z;show mrg X.H₀ H b=_;unfold mrg;rw[q];exact z
theorem J6 {K:Frag}{H0:Hp}{a:Addr}{xs:List V}(h:SqT K H a xs):SqT K (mrg H0 H) a xs:=by
 rcases h with (h | ⟨o,h⟩) | h
 ·exact .inl (.inl (pC h))
 ·exact .inl (.inr ⟨o,pF h⟩)
 exact .inr h
theorem Inv.sqt {K:Frag}(I:Inv X pins U H s) {a:Addr}{xs:List V}(h:SqT K X.H₀ a xs):SqT K H a xs:=by
 rcases h with (h | ⟨o,h⟩) | h
 ·exact .inl (.inl (I.base.tups a xs h))
 ·exact .inl (.inr ⟨o,I.base.frzs a o _ h⟩)
 exact .inr h
theorem SP.offTry (I:Inv X pins U H s) {D:Ends}{f:Flow}{s':Shared}(h:SP (X.atTry xe (X.pn++pins) (mrg X.H₀ H)) pins' D f s'):SP X pins D f s':=by
 cases f with
 |next=>obtain⟨U',H',J,q⟩:=h;exact⟨U',H',I.offTry J,q⟩
 |brk=>obtain⟨U',H',J,q⟩:=h;exact⟨U',H',I.offTry J,q⟩
 |cont=>obtain⟨U',H',J,q⟩:=h;exact⟨U',H',I.offTry J,q⟩
 |ret u=>obtain⟨v,U',H',J,r,q⟩:=h;exact⟨v,U',H',I.offTry J,r,q⟩
end
def Ends.gone (D:Ends) (i:Nat):Ends:=⟨fun U H=>D.nx (U.set i none) H,D.rt,fun U H=>D.bk (U.set i none) H,fun U H=>D.ct (U.set i none) H⟩
section
variable {X:Cx}{R:Addr}{x n:Str}{np hpos pos:Pos}{body suite:List Stmt}{b₀:Stmt}{tb:(St->XK)->TS}{th:TS}{i:Nat}
end
structure XGet (K:Frag) (C:Addr):Prop where
 ga:findIn K (.ref C) "__getattribute__"=some (some (.builtin "BaseException.__getattribute__"))
 gt:findIn K (.ref C) "__getattr__"=some none
 be:mroIn K C (.type "BaseException")=some true
 hd:hasDictIn K C=true
section
variable {prog:Program}{w:World}{A:Around}{E:Value->Shared->Prop}{K:Frag}{s:Shared}{x C:Addr}{ox:Obj}{od:Obj}{name:Str}{v:Value}{expr:Bool}
theorem QB {Q:Value->Shared->Prop}(F:XGet K C) (X:K.In s.heap) (I:InstAt s.heap x ox C (some od)) (hn:findIn K (.ref C) name=some none) (hv:lookIn name od=some (some v)) (hh:handedIn v=true)
  (h:Q v { s with toks:=s.toks+1}):wpAny (model prog w) A (getAttr (.ref x) name expr) Q E s:=by
 replace h:∀t',t'=s.toks+1->Q v { s with toks:=t'}:=fun t' e=>e▸h;have hf:=PySem.W.findObj_own (attr:=none) F.hd hn rfl hv;obtain⟨hp,g,d,t,os⟩:=s;have L0:=I.type (M:=model prog w);have L1:=looks_findIn (M:=model prog w) X F.ga;have L2:=looks_findIn (M:=model prog w) X F.gt;have L3:=looks_find (M:=model prog w) X I hf;have L4:Looks (model prog w) hp (isInstance (.ref x) (.type "BaseException")) true:=I.type.andThen (looks_mroIn X F.be);have f3:=PySem.F.attr_ValueError.ga.bind (.ref x);have hx0:(expr&&onTheHeap (Value.builtin "BaseException.__getattribute__"))=false:=by cases expr <;> rfl
 have hx2:(Value.builtin "BaseException.__getattribute__"==Value.builtin "object.__getattribute__")=false:=by decide +kernel
 have hx1:(onTheHeap (Value.ref C)&&Value.builtin "BaseException.__getattribute__"==Value.builtin "object.__getattribute__")=false:=by rw[hx2];rfl
 unfold getAttr getAttrBy;refine wpAny_bind (wpAny_mkText (wpAny_holding (wpAny_bind (L0.at (wpAny_bind (L1.at ?_))))));show wpAny (model prog w) A (getAttrByItsOwn (.ref x) (.str name t) (.ref C) (.builtin "BaseException.__getattribute__") true expr) Q E ⟨hp,g,d,t+1,os⟩;unfold getAttrByItsOwn;repeat (any_goals (first | assumption | (with_reducible refine PySem.W.Looks.at L0 ?_) | (with_reducible refine PySem.W.Looks.at L2 ?_) | wp_step))
 show codeAny (model prog w) A (.call (.builtin "BaseException.__getattribute__") ⟨[.ref x,.str name t],[]⟩) _ _;have hk:builtinKind "BaseException.__getattribute__"=some .slot:=by decide +kernel
 have hsp:splitId "BaseException.__getattribute__"=some ("BaseException","__getattribute__"):=by decide +kernel
 refine codeAny_call_builtin PySem.F.attr_ValueError.ga.plain PySem.F.entry_bexc_ga (@check_slot (model prog w) _ _ ⟨hp,g,d,t+1,os⟩ "BaseException.__getattribute__" "BaseException" "__getattribute__" (.ref x) [.str name t] [] _ hk hsp L4 (PySem.F.args_bexc_ga (.ref x) (.str name t)) ?_);refine wpAny_bind (wpAny_pure (wpAny_bind (wpAny_pure (wpAny_bind (L0.at (wpAny_bind (L3.at ?_)))))));refine wpAny_pure ?_;show wpAny _ _ (handedOut v) _ _ _;rw[PySem.W.handedOut_of hh];exact wpAny_pure (h _ rfl)
variable {X:Cx}{e:Expr}{f:Str}{pos:Pos}{ta:TE}
def tXF (K:Frag) (ta:TE) (f:Str):TE:=fun U H Q=>ta U H fun x H1=>∃a C dx rd fs v,x=.ref a/\H1 a=some (exO a C (some dx) rd)/\H1 dx=some (dxO dx fs)/\XGet K C/\findIn K (.ref C) f=some none/\fs.lookup f=some v/\Q v H1
theorem O1 (he:PE X e ta) (hb:attributeBase e f X.env (eval e X.env)=eval e X.env):PE X (.Attribute e f pos) (tXF X.K ta f):=by
 intro pins s U H Q I h;refine Cv hb (thn (he pins s U H _ I h) fun u s1 ⟨x,H1,I1,rx,a,C,dx,rd,fs,v,ex,ea,ed,G,hn,l,q⟩=>?_);subst ex;obtain rfl:u=Value.ref a:=rx;obtain⟨vs,sl,ho,_⟩:=exO.of I1.hok ea;obtain⟨mA,hns,r,_⟩:=dxO.of I1.hok ed;obtain⟨od,hd,lk⟩:=iV hns;obtain⟨u,hu,ru⟩:=RelO.some_of (v:=v) (o:=mA f) (by rw[<- l];exact r f);refine QB G I1.kIn (ox:=⟨.ref C,some dx,.fields vs,sl⟩) ⟨ho,rfl,rfl,hd⟩ hn (by rw[lk,hu]) (wD ru) ⟨v,H1,I1.tok _,ru,q⟩
end
structure XIs (K:Frag) (C:Addr):Prop extends XGet K C where
 kl:findIn K (.ref C) "__class__"=some (some (.builtin "object.__class__"))
 kg:specialIn K (.builtin "object.__class__") "__get__"=some (some (.builtin "getset_descriptor.__get__"))
 kt:takesIn K (.builtin "object.__class__")=some true
 ko:mroIn K C (.type "object")=some true
section
variable {prog:Program}{w:World}{A:Around}{E:Value->Shared->Prop}{K:Frag}{s:Shared}{x C:Addr}{ox:Obj}{od:Obj}
theorem J7 {Q:Option Value->Shared->Prop}(F:XIs K C) (X:K.In s.heap) (I:InstAt s.heap x ox C (some od)) (h:Q (some (.ref C)) { s with toks:=s.toks+1}) :
  wpAny (model prog w) A (getAttr? (.ref x) "__class__") Q E s:=by
 replace h:∀t',t'=s.toks+1->Q (some (.ref C)) { s with toks:=t'}:=fun t' e=>e▸h;have hf:PySem.W.findObj K C (some od) "__class__"=some (.bind (.builtin "getset_descriptor.__get__") (.builtin "object.__class__")):=PySem.W.findObj_data (by obtain⟨cd,hc,_⟩:=any_some F.hd;rw[hc];rfl) F.kl F.kg F.kt;obtain⟨hp,g,d,t,os⟩:=s;have L0:=I.type (M:=model prog w);have L1:=looks_findIn (M:=model prog w) X F.ga;have L2:=looks_findIn (M:=model prog w) X F.gt;have L3:=looks_find (M:=model prog w) X I hf;have L4:Looks (model prog w) hp (isInstance (.ref x) (.type "BaseException")) true:=I.type.andThen (looks_mroIn X F.be);have f3:=PySem.F.attr_ValueError.ga.bind (.ref x);unfold getAttr? getAttrBy? getAttrBy;refine wpAny_bind (wpAny_mkText (wpAny_bind (wpAny_attempt (wpAny_holding (wpAny_bind (L0.at (wpAny_bind (L1.at ?_))))))));show wpAny (model prog w) A (getAttrByItsOwn (.ref x) (.str "__class__" t) (.ref C) (.builtin "BaseException.__getattribute__") false false) _ _ ⟨hp,g,d,t+1,os⟩;unfold getAttrByItsOwn;repeat (any_goals (first | assumption | (with_reducible refine PySem.W.Looks.at L0 ?_) | (with_reducible refine PySem.W.Looks.at L2 ?_) | wp_step))
 show codeAny (model prog w) A (.call (.builtin "BaseException.__getattribute__") ⟨[.ref x,.str "__class__" t],[]⟩) _ _;have hk:builtinKind "BaseException.__getattribute__"=some .slot:=by decide +kernel
 have hsp:splitId "BaseException.__getattribute__"=some ("BaseException","__getattribute__"):=by decide +kernel
 refine codeAny_call_builtin PySem.F.attr_ValueError.ga.plain PySem.F.entry_bexc_ga (@check_slot (model prog w) _ _ ⟨hp,g,d,t+1,os⟩ "BaseException.__getattribute__" "BaseException" "__getattribute__" (.ref x) [.str "__class__" t] [] _ hk hsp L4 (PySem.F.args_bexc_ga (.ref x) (.str "__class__" t)) ?_);refine wpAny_bind (wpAny_pure (wpAny_bind (wpAny_pure (wpAny_bind (L0.at (wpAny_bind (L3.at ?_)))))));show wpAny _ _ (holding [Value.builtin "object.__class__"] (call (.builtin "getset_descriptor.__get__") [.builtin "object.__class__",.ref x,.ref C]) >>= ret) _ _ _;refine wpAny_bind (wpAny_holding (wpAny_call (PySem.W.class_get (s:=⟨hp,g,d,t+1,os⟩) (ox:=ox) (od:=some od) X I F.ko (wpAny_pure ?_))));exact wpAny_pure (wpAny_pure (h _ rfl))
theorem zP (F:XIs K C):KitX K (.ref x) (.ref C) (fun h=>InstAt h x ox C (some od)) where
 ty:=fun _ _ _ I=>I.type
 it:=fun _ _ X _=>by
  obtain⟨cd,hc,_⟩:=any_some F.hd
  unfold clsIn at hc
  split at hc
  ·
   rename_i ho
   intro A' Q' E' s' k q
   unfold isType loadHead
   exact wpAny_bind (wpAny_loadPart (k _ _ (X _ _ ho)) (wpAny_pure q))
  ·
   cases hc
 ne:=fun h tp dd its n sl X htp=>by
  obtain⟨cd,hc,_⟩:=any_some F.hd
  refine Bool.eq_false_iff.mpr fun q=>?_
  have e:C=tp:=Value.ref.inj (beq_iff_eq.mp q)
  subst e
  unfold clsIn at hc
  split at hc
  ·
   rename_i ho
   have z:=(X _ _ ho).symm.trans htp
   cases z
  ·
   cases hc
 ca:=fun X I k=>J7 F X I k
end
section
variable {X:Cx}{k:Nat}{f:Addr}{fd:FuncData}{ps:List Str}{sp:Sp}{E:St->XK}{x:Str}{p pos:Pos}{e:Expr}{es:List Expr}{t:TA}
def J8 (sp:Sp) (E:St->XK) (t:TA):TE:=fun U H Q=>t U H fun vs H1=>sp vs H1 Q (E U)
theorem zQ (F:FnOk X.prog X.w X.K X.mg X.base (CX1 X.prog X.w) k f fd ps sp) (hr:Room k X.A) (hg:Gl X x) (hm:X.mg x=some (.ref f)) (hk:keepIn X.K (.ref f)=true) (hb:Binds X.K fd ps []) (hM:Meet X E)
  (ha:PA X (e::es) t) (hdb:(x==("__debug__":Str))=false:=by decide) (he:starEach (e::es) X.env=(false,eval e X.env)::starEach es X.env:=by rfl) (hpl:(backTo pos (starEach es X.env)).any (·.1)=false:=by rfl) :
  PE X (.Call (.Name x p) (e::es) [] pos) (J8 sp E t):=by
 intro pins s U H Q I h;refine wpAny_Call_Name_kw (dJ I hg hm ?_ hdb);refine callWith_K (h₀:=X.base) I.ok.mod.kin hk (thn (ha pos pins s U H _ I h) fun us s1 ⟨vs,H1,I1,r,q⟩=>⟨I1.kIn,?_⟩) he hpl;exact En F hr hb hM I1 r q
end
end L2
namespace L3
open L2
abbrev YK3:=Addr->List (Str × T)->Hp3->Prop
def O2 (E:YK3):YK3:=fun C fs H=>∃H',Sub3 H' H/\E C fs H'
def O4 (K:Frag) (E3:St3->YK3):L2.St->XK:=fun U cls dxo H=>∃C dx vs fs U3 H3,cls=.ref C/\dxo=some dx/\SimS K H U3 U/\SimH K H3 H/\H dx=some (dxO dx vs)/\RepF K H fs vs/\H3 dx=none/\E3 U3 C fs H3
def KX3 (K:Frag) (H:Hp) (E3:YK3) (E:XK):Prop:=∀C dx vs fs H' H3',TupLe K H H'->SimH K H3' H'->H' dx=some (dxO dx vs)->RepF K H' fs vs->H3' dx=none->E3 C fs H3'->E (.ref C) (some dx) H'
abbrev iG:=List T->Hp3->VK3->YK3->Prop
def J9 (K:Frag) (sp:iG):Sp:=fun vs H Q E=>∃ts H3 Q3 E3,Reps K H ts vs/\SimH K H3 H/\sp ts H3 Q3 E3/\KV3 K H Q3 Q/\KX3 K H E3 E
def zR (P:Program) (w:World) (K:Frag) (mg:Str->Option Value) (base:Heap) (k:Nat) (f:Addr) (fd:FuncData) (ps:List Str) (sp:iG):Prop:=FnOk P w K mg base (CX1 P w) k f fd ps (J9 K sp)
def ni (X:Cx) (E3:St3->YK3):Prop:=Meet X (O4 X.K E3)
section
variable {X:Cx}{k:Nat}{f:Addr}{fd:FuncData}{ps:List Str}{sp:iG}{E:St3->YK3}{x:Str}{p pos:Pos}{e:Expr}{es:List Expr}{t:TA3}
def pH (sp:iG) (E:St3->YK3) (t:TA3):TE3:=fun U H Q=>t U H fun vs H1=>sp vs H1 Q (E U)
theorem zT (F:zR X.prog X.w X.K X.mg X.base k f fd ps sp) (hr:Room k X.A) (hg:Gl X x) (hm:X.mg x=some (.ref f)) (hk:keepIn X.K (.ref f)=true) (hb:Binds X.K fd ps []) (hM:ni X E)
  (ha:PA3 X (e::es) t) (hdb:(x==("__debug__":Str))=false:=by decide) (he:starEach (e::es) X.env=(false,eval e X.env)::starEach es X.env:=by rfl) (hpl:(backTo pos (starEach es X.env)).any (·.1)=false:=by rfl) :
  PE3 X (.Call (.Name x p) (e::es) [] pos) (pH sp E t):=by
 refine PE.imp (zQ F hr hg hm hk hb hM ha hdb he hpl) ?_;rintro U H Q ⟨U3,H3,Q3,ss,sh,h,k⟩;refine⟨U3,H3,_,ss,sh,h,fun vs H' ts H3' le sh' r q=>?_⟩;exact⟨ts,H3',Q3,E U3,r,sh',q,k.at le,fun C dx ws fs H2 H32 le2 sh2 hd rf hn q2=>⟨C,dx,ws,fs,U3,H32,rfl,rfl,ss.mono (le.trans le2),sh2,hd,rf,hn,q2⟩⟩
end
theorem Inv.tupLe {X:Cx}{pins:List (Addr × Obj)}{U:L2.St}{H:Hp}{s:Shared}(I:Inv X pins U H s):TupLe X.K X.H₀ H:=by
 intro a xs h;rcases h with (h | ⟨o,h⟩) | h
 ·exact .inl (.inl (I.base.tups a xs h))
 ·exact .inl (.inr ⟨o,I.base.frzs a o _ h⟩)
 exact .inr h
section
variable {k:Nat}{f:Addr}{fd:FuncData}{ps:List Str}{sp:iG}{x:Str}
theorem fnX {P:Program}{w:World}{K:Frag}{mg:Str->Option Value}{base:Heap}{qual:Str}{st:Stmt}{N:List Str}(F:Fun K x qual st f fd) (S:FnScope N ps (au st)) (len:∀ts H Q E,sp ts H Q E->ts.length=ps.length)
  (hbody:∀(cdv:Value) (A:Around) (outer:List Env) (s:Shared) (H:Hp) (E:XK) (ts:List T) (H3:Hp3) (Q:VK3) (E3:YK3),Room k (A.deeper (envOfC qual (au st) s.heap.objs.size f cdv))->sp ts H3 Q E3 ->
   ni (eU (CX1 P w) P w K mg base N qual (au st) f cdv A outer s H E) (fun _=>O2 E3) ->
   ∃t,jc (eU (CX1 P w) P w K mg base N qual (au st) f cdv A outer s H E) (bj st) t/\t { nx:=fun _ H'=>Fin3 Q .non H',rt:=Fin3 Q} (aU N ts) H3):zR P w K mg base (k+1) f fd ps sp:=by
 obtain⟨oc,od,kV,doc,pm,an,cdv,ct,osl,rfl,lk,hcd⟩:=F.ex;refine Gd lk hcd S (fun vs H Q E ⟨ts,H3,Q3,E3,r,sh,q,k,kx⟩=>by rw[<- r.length];exact len _ _ _ _ q) fun A outer s H vs Q E hr ⟨ts,H3,Q3,E3,r,sh,q,k,kx⟩=>?_;obtain⟨t,ht,hq⟩:=hbody cdv A outer s H E ts H3 Q3 E3 hr q (by
  rintro pins U H' s' ea C dx Fl ⟨C',dx',vs',fs,U3,H3',e1,e2,ss,sh',hd,rf,hn,H4,sb,q⟩
  cases e1
  cases e2
  exact zL pins U H' s' ea C dx Fl (kx C dx vs' fs H' H4 (Inv.tupLe Fl.inv) (sh'.sub sb) hd rf (by cases z:H4 dx with | none=>rfl | some o=>rw[sb dx o z] at hn;cases hn) q))
 exact⟨_,ht,aU N ts,H3,_,je r,sh,hq,fun U' H' U3' H3' le ss' sh' ⟨H4,sb,q⟩=>k _ _ _ _ le (sh'.sub sb) .ofNon q,fun v H' t H3' le sh' rv ⟨H4,sb,q⟩=>k _ _ _ _ le (sh'.sub sb) rv q,fun _ _ _ _ _ _ _ z=>z,fun _ _ _ _ _ _ _ z=>z⟩
end
def Ends3.gone (D:Ends3) (i:Nat):Ends3:=⟨fun U H=>D.nx (U.set i none) H,D.rt,fun U H=>D.bk (U.set i none) H,fun U H=>D.ct (U.set i none) H⟩
theorem SimS.gone {K:Frag}{H:Hp}{U3:St3}{U:L2.St}(s:SimS K H U3 U) (i:Nat):SimS K H (U3.set i none) (U.set i none):=by
 refine⟨by simp [s.len],fun j t e=>?_⟩;by_cases hj:i=j
 ·subst hj;by_cases hl:i<U3.length
  ·rw[List.getElem?_set_self hl] at e;cases e
  rw[List.getElem?_eq_none (by simpa using hl)] at e;cases e
 rw[List.getElem?_set_ne hj] at e ⊢;exact s.at' j t e
section
variable {X:Cx}{R:Addr}{x n:Str}{np hpos pos:Pos}{body suite:List Stmt}{b₀:Stmt}{tb:(St3->YK3)->TS3}{th:TS3}{i:Nat}
end
end L3
namespace L2
section
variable {X:Cx}{o value:Expr}{f:Str}{pos pos':Pos}{ta tv:TE}
def sX1 (K:Frag) (ta tv:TE) (f:Str):TS:=fun D U H=>tv U H fun y H1=>ta U H1 fun x H2=>∃e C cd rd,x=.ref e/\H2 e=some (exO e C none rd)/\XSet K C cd/\findIn K (.ref C) f=some none /\
 ∀dx,H2 dx=none->dx≠e->D.nx U (upd (upd H2 dx (dxO dx [(f,y)])) e (exO e C (some dx) rd))
theorem zU (ha:PE X o ta) (hv:PE X value tv) (hs:swapsWith value (some (.Attribute o f pos')) pos.line X.env=pure false):PS X (.Assign [.Attribute o f pos'] value pos) (sX1 X.K ta tv f):=by
 intro pins s U H D I h;refine plainObj_wpAny_Assign_Attribute (thn (hv pins s U H _ I h) fun u s1 ⟨y,H1,I1,ry,q⟩=>thn (ha pins s1 U H1 _ I1 q) fun ov s2 ⟨x,H2,I2,rx,e,C,cd,rd,ex,ea,F,n,q2⟩=>?_) hs;subst ex;obtain rfl:ov=Value.ref e:=rx;exact OD F I2 ea n ry fun dx s3 h1 h2 I3=>⟨U,_,I3,q2 dx h1 h2⟩
end
def lE (K:Frag) (ns:List Str):Sp:=fun vs H Q _=>∃e ys C cd,vs=.ref e::ys/\ys.length=ns.length/\H e=some (exO e C none true)/\XSet K C cd/\(∀n∈ns,findIn K (.ref C) n=some none) /\
 ∀dx,H dx=none->dx≠e->Q .non (upd (upd H dx (dxO dx (ns.zip ys))) e (exO e C (some dx) true))
end L2
namespace L3
open L2
theorem rG {K:Frag}{H:Hp}:∀{ns:List Str}{ts:List T}{vs:List V},Reps K H ts vs->RepF K H (ns.zip ts) (ns.zip vs)
 |[],_,_,_=>.nil
 |_::_,[],_,r=>by rw[r.inv0];exact .nil
 |n::ns,t::ts,_,r=>by
  obtain⟨v,ur,rfl,rv,rr⟩:=r.inv
  exact .cons ⟨rfl,rv⟩ (rG rr)
section
variable {X:Cx}{k:Nat}{f C:Addr}{fd:FuncData}{ps ns:List Str}{E:St3->YK3}{bmB:List Value}{newId nid B Bn initId inN:String}{bmN:List Value}{x:Str}{np cpos pos:Pos}{e:Expr}{es:List Expr}{t:TA3}{cd:ClassData}
def pI (C:Addr) (ns:List Str) (E:St3->YK3) (t:TA3):TS3:=fun _ U H=>t U H fun vs H1=>vs.length=ns.length/\E U C (ns.zip vs) H1
theorem zV (hc:X.calm=true) (Fn:ExcBaseFacts Bn newId inN bmN) (hBn:bmB.contains (.type Bn)=true) (FB:ExcBaseFacts B nid initId bmB) (M:XMk X.K C f bmB newId) (S:XSet X.K C cd) (hns:∀n∈ns,findIn X.K (.ref C) n=some none) (hn8:ns.length<=100)
  (F:FnOk X.prog X.w X.K X.mg X.base CX0 k f fd ps (lE X.K ns)) (hr:Room (k+1) X.A) (hb:Binds X.K fd ps []) (hg:Gl X x) (hm:X.mg x=some (.ref C)) (hM:ni X E) (ha:PA3 X (e::es) t)
  (hdb:(x==("__debug__":Str))=false:=by decide) (he:starEach (e::es) X.env=(false,eval e X.env)::starEach es X.env:=by rfl) (hpl:(backTo cpos (starEach es X.env)).any (·.1)=false:=by rfl) :
  PS3 X (.Raise (some (.Call (.Name x np) (e::es) [] cpos)) none pos) (pI C ns E t):=by
 refine PS.imp (zO hc Fn hBn FB M F hr hb hg hm hM ha hdb he hpl) ?_;rintro D U H ⟨U3,H3,D3,ss,sh,h,_⟩;refine⟨U3,H3,_,ss,sh,h,fun vs H' ts H3' le sh' r ⟨hl,q⟩=>?_⟩;have hlen:=r.length;refine⟨by have:sizeLine=16777216:=rfl;omega,fun a ha0 Q hQ=>⟨a,vs,C,cd,rfl,by omega,bw,S,hns,fun dx hdx hne=>hQ _ dx bw ?_⟩⟩;have hdx':H' dx=none:=by rw[aH hne] at hdx;exact hdx
 have at':∀b,b≠a->b≠dx->rem (upd (upd (upd H' a (exO a C none true)) dx (dxO dx (ns.zip vs))) a (exO a C (some dx) true)) a b=H' b:=fun b n1 n2=>by rw[fc n1,aH n1,aH n2,aH n1]
 have nn:∀b u,H' b=some u->b≠a/\b≠dx:=fun b u z=>⟨fun w=>(by subst w;rw[ha0] at z;cases z),fun w=>(by subst w;rw[hdx'] at z;cases z)⟩;have le2:TupLe X.K H' (rem (upd (upd (upd H' a (exO a C none true)) dx (dxO dx (ns.zip vs))) a (exO a C (some dx) true)) a):=fun b xs z=>by
  rcases z with (z | ⟨o,z⟩) | z
  ·exact .inl (.inl ((at' b (nn b _ z).1 (nn b _ z).2).trans z))
  ·exact .inl (.inr ⟨o,(at' b (nn b _ z).1 (nn b _ z).2).trans z⟩)
  exact .inr z
 refine⟨C,dx,ns.zip vs,ns.zip ts,U3,H3',rfl,rfl,ss.mono (le.trans le2),fun b o z=>(sh' b o z).stay le2 fun u w=>(at' b (nn b _ w).1 (nn b _ w).2).trans w,?_,(rG r).mono le2,sh'.fresh hdx',q⟩;rw[fc hne,aH hne,bw]
end
section
variable {X:Cx}{C:Addr}{x f:Str}{p pos:Pos}{e:Expr}{te:TE3}
def G7 (C:Addr):TE3:=fun _ H Q=>Q (.ref C) H
theorem dC (hg:Gl X x) (hm:X.mg x=some (.ref C)) (hdb:(x==("__debug__":Str))=false:=by decide):PE3 X (.Name x p) (G7 C):=by
 rintro pins s U H Q I ⟨U3,H3,Q3,ss,sh,h,k⟩;exact dJ I hg hm ⟨.ref C,H,I,rfl,k _ _ _ _ .refl sh .ofRef h⟩ hdb
def Ka (K:Frag) (te:TE3) (f:Str):TE3:=fun U H Q=>te U H fun x H1=>∃a C dx fs t,x=.ref a/\H1 a=some (.exc C dx)/\H1 dx=some (.xdt fs)/\XGet K C/\findIn K (.ref C) f=some none/\fs.lookup f=some t/\Q t H1
theorem nj {K:Frag}{H:Hp}{f:Str}{t:T}:∀{fs:List (Str × T)}{vs:List (Str × V)},RepF K H fs vs->fs.lookup f=some t->∃v,vs.lookup f=some v/\Rep K H t v
 |[],_,.nil,h=>nomatch h
 | (g,u)::fs,(g',u')::vs,.cons ⟨e,r⟩ rr,h=>by
  cases e
  rw[List.lookup_cons] at h ⊢
  cases q:(f==g) with
  |true =>
   rw[q] at h
   cases h
   exact⟨u',rfl,r⟩
  |false =>
   rw[q] at h
   exact nj rr h
theorem O5 (he:PE3 X e te) (hb:attributeBase e f X.env (eval e X.env)=eval e X.env:=by rfl):PE3 X (.Attribute e f pos) (Ka X.K te f):=by
 refine PE.imp (O1 he hb) ?_;rintro U H Q ⟨U3,H3,Q3,ss,sh,h,k⟩;refine⟨U3,H3,_,ss,sh,h,fun v H' t H3' le sh' r q=>?_⟩;obtain⟨a,C,dx,fs,t',rfl,h1,h2,G,hn,l,q⟩:=q;have e1:H' a=some (exO a C (some dx) false):=sh' a _ h1;obtain⟨vs,e2,rf⟩:=sh' dx _ h2;obtain⟨v',hv,rv⟩:=nj rf l;exact⟨a,C,dx,false,vs,v',r.ref,e1,e2,G,hn,hv,k _ _ _ _ le sh' rv q⟩
end
def Kc:T->Option Value
 |.ref a=>some (.ref a)
 |.ty n=>some (.type n)
 |_=>none
def vB:List T->Option (List Value)
 |[]=>some []
 |t::r=>match Kc t,vB r with
  |some v,some vs=>some (v::vs)
  |_,_=>none
def TyX (K:Frag) (H:Hp3) (x:T) (t:Value):Prop:=(x=.non/\t=.type "NoneType")\/∃a C dx fs,x=.ref a/\H a=some (.exc C dx)/\H dx=some (.xdt fs)/\XIs K C/\t=.ref C
def G8 (K:Frag):List T->Hp3->VK3->Prop:=fun ts H Q=>∃x c t b,ts=[x,c]/\TyX K H x t/\((∃v,Kc c=some v/\kitOne K t v=some b)\/∃cs vs,c=.tup cs/\vB cs=some vs/\kitAny K t vs=some b)/\Q (.bl b) H
theorem rH {K:Frag}{H:Hp}{c:T}{v:V}{u w:Value}(r:Rep K H c v) (ru:RelV v u) (h:Kc c=some w):u=w:=by
 cases c with
 |ref a=>rw[r.ref] at ru;cases h;exact ru
 |ty n=>rw[r.ty] at ru;cases h;exact ru
 |_=>cases h
theorem nq {K:Frag}{H:Hp}:∀{cs:List T}{vs:List V}{us ws:List Value},Reps K H cs vs->Vals vs us->vB cs=some ws->us=ws
 |[],_,_,_,r,q,h=>by
  rw[r.inv0] at q
  cases q
  cases h
  rfl
 |c::cs,_,_,_,r,q,h=>by
  obtain⟨v,ur,rfl,rv,rr⟩:=r.inv
  cases q with
  |cons q1 q2 =>
   unfold vB at h
   split at h
   ·
    rename_i w ws e1 e2
    cases h
    rw[rH rv q1 e1,nq rr q2 e2]
   ·
    cases h
section
variable {X:Cx}
theorem Kd:cD X (.builtin "isinstance") (G8 X.K):=by
 intro pins s U H xs us Q I rv h;obtain⟨ts,H3,Q3,r,sh,⟨x,c,t,b,rfl,hT,hc,q⟩,k⟩:=h;obtain⟨v,w,rfl,r1,r2⟩:=r.two';obtain⟨u1,u2,rfl,q1,q2⟩:=vals2 rv;have fin:∀tk,EP X pins U Q (.bool b) { s with toks:=tk}:=fun tk=>⟨.bl b,H,I.tok _,rfl,k _ _ _ _ .refl sh .ofBl q⟩;have key:∃P:Heap->Prop,KitX X.K u1 t P/\P s.heap/\u1≠.builtin "__main__.__loader__#opaque":=by
  rcases hT with ⟨rfl,rfl⟩ | ⟨a,C,dx,fs,rfl,h1,h2,G,rfl⟩
  ·rw[r1.non] at q1;cases q1;exact⟨_,kitx_none,True.intro,fun z=>nomatch z⟩
  rw[r1.ref] at q1;cases q1;have e1:H a=some (exO a C (some dx) false):=sh a _ h1;obtain⟨vs,e2,rf⟩:=sh dx _ h2;obtain⟨ws,sl,ho,_⟩:=exO.of I.hok e1;obtain⟨mA,hns,_⟩:=dxO.of I.hok e2;obtain⟨od,hd,_⟩:=iV hns;exact⟨_,zP (ox:=⟨.ref C,some dx,.fields ws,sl⟩) (od:=od) G,⟨ho,rfl,rfl,hd⟩,fun z=>nomatch z⟩
 obtain⟨P,Z,hP,hne⟩:=key;rcases hc with ⟨cv,e1,e2⟩ | ⟨cs,vs,rfl,e1,e2⟩
 ·have:=rH r2 q2 e1;subst this;exact kia_one Z I.kIn hP e2 hne fin
 obtain⟨p,ys,rfl,sq,rs⟩:=r2.tup;cases q2;obtain⟨its,rvs,⟨o,ho,hcl,n,hd⟩,_⟩:=I.tuple sq;have:=nq rs rvs e1;subst this;obtain⟨oc,odd,oda,osl⟩:=o;simp only at hcl hd;subst hcl hd;exact PySem.W.kia_tup Z I.kIn hP ho e2 hne fin
end
end L3
namespace L2
def zW:List Value->Bool
 |.ref _::r=>zW r
 |l=>l==bmV
theorem nu (self:Value):∀(l:List Value),zW l=true->refuseLoop self "__setattr__" l=pure ()
 |[],h=>by cases (beq_iff_eq.mp (show (([]:List Value)==bmV)=true from h))
 |v::r,h=>by
  by_cases q:∃c,v=.ref c
  ·
   obtain⟨c,rfl⟩:=q
   rw[refuseLoop_ref]
   exact nu self r h
  ·
   have e:v::r=bmV:=by
    cases v with
    |ref c=>exact absurd ⟨c,rfl⟩ q
    |_=>exact beq_iff_eq.mp h
   rw[e]
   exact PySem.F.store_ValueError.passes self
def QC (K:Frag) (C:Addr):Bool:=(clsIn K C).any fun cd=>cd.hasDict&&zW cd.mro
theorem pJ {K:Frag}{C:Addr}(h:QC K C=true) (sa:findIn K (.ref C) "__setattr__"=some (some (.builtin "object.__setattr__"))) (ob:mroIn K C (.type "object")=some true):∃cd,XSet K C cd:=by
 obtain⟨cd,hc,q⟩:=any_some h;rw[Bool.and_eq_true] at q;exact⟨cd,hc,sa,fun self=>nu self _ q.2,ob,q.1⟩
end L2
namespace L3
open L2
structure CalX (P:Program) (w:World) (K:Frag) (mg:Str->Option Value) (base:Heap) (k:Nat) (x:Str) (st:Stmt) (ps:List Str) (sp:iG):Prop where
 ex:∃(f:Addr) (fd:FuncData),G3 K mg x st ps f fd/\zR P w K mg base k f fd ps sp
theorem dY {X:Cx}{k:Nat}{ps:List Str}{sp:iG}{E:St3->YK3}{st:Stmt}{x:Str}{p pos:Pos}{e:Expr}{es:List Expr}{t:TA3}(D:CalX X.prog X.w X.K X.mg X.base k x st ps sp) (hM:ni X E) (hr:Room k X.A) (hg:Gl X x)
  (ha:PA3 X (e::es) t) (hdb:(x==("__debug__":Str))=false:=by decide) (he:starEach (e::es) X.env=(false,eval e X.env)::starEach es X.env:=by rfl) (hpl:(backTo pos (starEach es X.env)).any (·.1)=false:=by rfl) :
  PE3 X (.Call (.Name x p) (e::es) [] pos) (pH sp E t):=by
 obtain⟨f,fd,g,F⟩:=D.ex;exact zT F hr hg g.m g.fn.kp g.b hM ha hdb he hpl
structure ExcC (P:Program) (w:World) (K:Frag) (mg:Str->Option Value) (base:Heap) (x:Str) (C:Addr) (ns:List Str):Prop where
 m:mg x=some (.ref C)
 ex:∃f fd ps cd,XMk K C f bmV "ValueError.__new__"/\XSet K C cd/\FnOk P w K mg base CX0 1 f fd ps (lE K ns)/\Binds K fd ps []
 nf:∀n∈ns,findIn K (.ref C) n=some none
 nl:ns.length<=100
theorem cg {X:Cx}{C:Addr}{ns:List Str}{E:St3->YK3}{x:Str}{np cpos pos:Pos}{e:Expr}{es:List Expr}{t:TA3}(D:ExcC X.prog X.w X.K X.mg X.base x C ns) (hM:ni X E) (hr:Room 2 X.A) (hc:X.calm=true) (hg:Gl X x)
  (ha:PA3 X (e::es) t) (hdb:(x==("__debug__":Str))=false:=by decide) (he:starEach (e::es) X.env=(false,eval e X.env)::starEach es X.env:=by rfl) (hpl:(backTo cpos (starEach es X.env)).any (·.1)=false:=by rfl) :
  PS3 X (.Raise (some (.Call (.Name x np) (e::es) [] cpos)) none pos) (pI C ns E t):=by
 obtain⟨f,fd,ps,cd,M,S,F,hb⟩:=D.ex;exact zV hc PySem.F.excBase_ValueError (by decide) PySem.F.excBase_ValueError M S D.nf D.nl F hr hb hg D.m hM ha hdb he hpl
structure AskC (K:Frag) (mg:Str->Option Value) (x:Str) (R:Addr):Prop where
 m:mg x=some (.ref R)
 a:XAsk K R
theorem lV:bootBuiltins "ValueError"=some (.type "ValueError"):=by decide +kernel
theorem uq {X:Cx}{K:Frag}{f:Str}{pos:Pos}{e:Expr}{te:TE3}(hK:X.K=K) (he:PE3 X e te) (hb:attributeBase e f X.env (eval e X.env)=eval e X.env:=by rfl):PE3 X (.Attribute e f pos) (Ka K te f):=by
 subst hK;exact O5 he hb
theorem iH {X:Cx}{K:Frag}(hK:X.K=K):cD X (.builtin "isinstance") (G8 K):=by
 subst hK;exact Kd
end L3
namespace L2
inductive Hds (X:Cx) (n:Str):List ExceptHandler->List (Addr × TS)->Prop
 |nil:Hds X n [] []
 |cons {x:Str} {np hpos:Pos} {b₀:Stmt} {suite:List Stmt} {R:Addr} {th:TS} {hs:List ExceptHandler} {rs:List (Addr × TS)} (a:XAsk X.K R) (hg:Gl X x) (hm:X.mg x=some (.ref R)) (hdb:(x==("__debug__":Str))=false)
   (hsuite:∀ea,PSs (X.inH ea) (b₀::suite) th) (r:Hds X n hs rs):Hds X n (.ExceptHandler (some (.Name x np)) (some n) (b₀::suite) hpos::hs) ((R,th)::rs)
def nA {α:Type}(K:Frag) (C:Addr) (k:α->Prop):List (Addr × α)->Prop
 |[]=>False
 | (R,th)::rs=>(mroIn K C (.ref R)=some true/\k th)\/(mroIn K C (.ref R)=some false/\nA K C k rs)
def G9 (K:Frag) (Ho:Hp) (rs:List (Addr × TS)) (i:Nat) (D:Ends):St->XK:=fun U cls dxo H=>∃C dx,cls=.ref C/\dxo=some dx /\
 nA K C (fun th=>(∀a xs,SqT K Ho a xs->SqT K H a xs)->∀ea,H ea=none->th (D.gone i) (U.set i (some (.ref ea))) (upd H ea (exO ea C (some dx) false))) rs
def O6 (K:Frag) (rs:List (Addr × TS)) (i:Nat) (tb:(St->XK)->TS):TS:=fun D U H=>tb (G9 K H rs i D) D U H
section
variable {X:Cx}{n:Str}{pos:Pos}{body:List Stmt}{tb:(St->XK)->TS}{i:Nat}{rs:List (Addr × TS)}{hds:List ExceptHandler}
theorem Eo (hs:X.stack=X.env::X.outer) (hf:X.env.frame=some X.env.locals) (hh:Hds X n hds rs) (hne:hds≠[]) (hN:X.N.Nodup) (hi:X.N[i]?=some n) (hl:X.env.scope.names.lookup n=some .local)
  (hbody:∀(xe:Value->Shared->Prop) (pn:List (Addr × Obj)) (H0:Hp) (Es:St->XK),Meet (X.atTry xe pn H0) Es->PSs (X.atTry xe pn H0) body (tb Es)) :
  PS X (.Try body hds [] [] pos) (O6 X.K rs i tb):=by
 intro pins s U H D I h;obtain⟨h0,hr,rfl⟩:∃h0 hr,hds=h0::hr:=by
  cases hds with
  |nil=>exact absurd rfl hne
  |cons a b=>exact⟨a,b,rfl⟩
 refine wpAny_Try_except ?_;refine wpAny_mono (hbody _ (X.pn++pins) (mrg X.H₀ H) (G9 X.K H rs i D) ?_ [] s U H D I.atTry h) (fun f s1 q=>?_) (fun _ _ z=>z)
 ·intro pins' U' H' s' ea C dx Fl he;obtain⟨C',dx',e1,e2,hpick⟩:=he;cases e1;cases e2;have I0:Inv X pins U' H' s':=I.offTry Fl.inv;have free:=Fl.free;have new:X.s₀.heap.objs.size<=ea/\ea≠X.env.locals/\(∀x c,X.env.cells.lookup x=some c->c≠ea)/\∀p∈X.pn++pins,p.1≠ea:=⟨Fl.new.1,Fl.new.2.1,Fl.new.2.2.1,fun p hp=>Fl.new.2.2.2 p (List.mem_append_left _ hp)⟩;have fly:Rsd s'.heap ea (.ref C) (some dx)\/Ntd s'.heap (SX X pins H') ea (.ref C) (some dx) .none\/Ntd s'.heap (SX X pins H') ea (.ref C) (some dx) (rawInt X.env.locals):=by
   rcases Fl.fly with q | q
   ·exact .inl q
   refine .inr (.inl (q.mono fun b hb=>?_));rcases hb with hb | ⟨p,hp,e⟩ | hb
   ·exact .inl hb
   ·exact .inr (.inl ⟨p,List.mem_append_left _ hp,e⟩)
   exact .inr (.inr hb)
  have hfr:=I0.ok.frames;have hl0:=I0.stack;have hfs:∀{h'':Heap},h''.FunFrames X.base X.stack->∀b∈fra X.stack,∃o,h''.get? b=some o/\∀vs,o.data≠.fields vs:=fun z b mb=>(z.mem mb).2;have sq:∀a xs,SqT X.K H a xs->SqT X.K H' a xs:=fun a xs z=>Inv.sqt Fl.inv (J6 z);show wpAny (model X.prog X.w) X.A (noteFrame (.ref ea) X.env) _ _ s';refine note (L:=X.env.locals) (base:=X.base) (outer:=X.outer) (by rw[<- hs];exact hfr) (by rw[<- hs];exact hl0) hf fly (fun b hb=>I0.sx hb) fun h1 n1 k1=>?_;rw[<- hs] at k1;have I1:=I0.kpx hs hf k1 free new;refine zK (fs:=fra X.stack) n1 (hfs I1.stack) fun h2 n2 k2=>?_;have I2:=I1.kpx hs hf k2 free new;clear fly k1 k2 hne h;show wpAny _ _ (handleBy (.ref ea) X.env (h0::hr)) _ _ _;generalize h0::hr=hds at hh;induction hh with
  |nil=>exact hpick.elim
  |cons a hg hm hdb hsuite r ih =>
  refine wpAny_handleBy_cons (codeAny_handlers_test (dJ (X:=X.inH ea) I2.inH hg hm ?_ hdb)) (by intro q;cases q);obtain⟨vs,sl,T,oT,ts,ho,_⟩:=id n2;rcases hpick with ⟨hmro,hth⟩ | ⟨hmro,hrest⟩
  ·refine m9 a I2.kIn ho rfl hmro ?_;replace hth:=hth sq;show codeAny _ _ _ _ _;refine codeAny_handlers_suite_as ?_;refine zK (fs:=fra X.stack) n2 (hfs I2.stack) fun h3 n3 k3=>?_;have I3:=I2.kpx hs hf k3 free new;obtain⟨vs,sl,T,oT,ts,ho,_⟩:=id n3;have I4:=I3.track (φ:=exP ea C (some dx) false) free new (exO.ok ⟨vs,sl,ho,(fun z=>nomatch z)⟩);refine fB (v:=.ref ea) (u:=.ref ea) I4 hN hi (.inl hl) rfl (fun s4 I5 _=>?_) (.inr hl);refine wpAny_mono (hsuite ea pins s4 _ _ (D.gone i) I5.inH (hth ea free)) (fun f s5 q=>?_) fun _ _ z=>z.elim;cases f with
   |next=>obtain⟨U5,H5,I6,q⟩:=q;exact name_goes (I6.outH I0.ok) hN hi hl fun s6 I7=>⟨_,H5,I7,q⟩
   |brk=>obtain⟨U5,H5,I6,q⟩:=q;exact name_goes (I6.outH I0.ok) hN hi hl fun s6 I7=>⟨_,H5,I7,q⟩
   |cont=>obtain⟨U5,H5,I6,q⟩:=q;exact name_goes (I6.outH I0.ok) hN hi hl fun s6 I7=>⟨_,H5,I7,q⟩
   |ret u=>obtain⟨v,U5,H5,I6,r,q⟩:=q;exact name_goes (I6.outH I0.ok) hN hi hl fun s6 I7=>⟨v,_,H5,I7,r,q⟩
  refine m9 a I2.kIn ho rfl hmro ?_;exact ih hrest
 cases f with
 |next=>exact wpAny_execs_nil (SP.offTry I q)
 |brk=>exact (SP.offTry I q)
 |cont=>exact (SP.offTry I q)
 |ret u=>exact (SP.offTry I q)
end
end L2
namespace L3
open L2
def ut (K:Frag) (rs:List (Addr × TS3)) (i:Nat) (D:Ends3):St3->YK3:=fun U C fs H=>nA K C (fun th=>∀ea dx,H ea=none->H dx=none->ea≠dx->th (D.gone i) (U.set i (some (.ref ea))) (up3 (up3 H dx (.xdt fs)) ea (.exc C dx))) rs
def zX (K:Frag) (rs:List (Addr × TS3)) (i:Nat) (tb:(St3->YK3)->TS3):TS3:=fun D U H=>tb (ut K rs i D) D U H
inductive Hds3 (X:Cx) (n:Str):List ExceptHandler->List (Addr × TS3)->Prop
 |nil:Hds3 X n [] []
 |cons {x:Str} {np hpos:Pos} {b₀:Stmt} {suite:List Stmt} {R:Addr} {th:TS3} {hs:List ExceptHandler} {rs:List (Addr × TS3)} (D:AskC X.K X.mg x R) (hg:Gl X x) (hsuite:∀ea,jc (X.inH ea) (b₀::suite) th) (r:Hds3 X n hs rs) (hdb:(x==("__debug__":Str))=false:=by decide) :
   Hds3 X n (.ExceptHandler (some (.Name x np)) (some n) (b₀::suite) hpos::hs) ((R,th)::rs)
theorem Hds3.low {X:Cx}{n:Str}{hs:List ExceptHandler}{rs:List (Addr × TS3)}(h:Hds3 X n hs rs):Hds X n hs (rs.map fun r=>(r.1,Di X.K r.2)):=by
 induction h with
 |nil=>exact .nil
 |cons D hg hsuite r hdb ih=>exact .cons D.a hg D.m hdb hsuite ih
theorem nF {α β:Type}{K:Frag}{C:Addr}{f:α->β}{k:α->Prop}{k':β->Prop}(h:∀th,k th->k' (f th)):∀{rs:List (Addr × α)},nA K C k rs->nA K C k' (rs.map fun r=>(r.1,f r.2))
 |[],z=>z.elim
 | (R,th)::rs,z=>z.elim (fun ⟨a,b⟩=>.inl ⟨a,h th b⟩) fun ⟨a,b⟩=>.inr ⟨a,nF h b⟩
section
variable {X:Cx}{n:Str}{pos:Pos}{body:List Stmt}{tb:(St3->YK3)->TS3}{i:Nat}{rs:List (Addr × TS3)}{hds:List ExceptHandler}
theorem Ep (i:Nat) (hh:Hds3 X n hds rs) (hne:hds≠[]) (hN:X.N.Nodup) (hs:X.stack=X.env::X.outer) (hf:X.env.frame=some X.env.locals) (hi:X.N[i]?=some n) (hl:X.env.scope.names.lookup n=some .local)
  (hbody:∀(xe:Value->Shared->Prop) (pn:List (Addr × Obj)) (H0:Hp) (E3:St3->YK3),ni (X.atTry xe pn H0) E3->jc (X.atTry xe pn H0) body (tb E3)) :
  PS3 X (.Try body hds [] [] pos) (zX X.K rs i tb):=by
 refine PS.imp (Eo (i:=i) (tb:=fun Es D U H=>∃E3:St3->YK3,(∀U cls dxo H,O4 X.K E3 U cls dxo H->Es U cls dxo H)/\Di X.K (tb E3) D U H) hs hf hh.low hne hN hi hl (fun xe pn H0 Es hM=>?_)) ?_
 ·rintro pins s U H D I ⟨E3,imp,h⟩;exact hbody xe pn H0 E3 (fun pins U H s ea C dx Fl he=>hM pins U H s ea C dx Fl (imp _ _ _ _ he)) pins s U H D I h
 rintro D U H ⟨U3,H3,D3,ss,sh,h,k1,k2,k3,k4⟩;refine⟨ut X.K rs i D3,?_,U3,H3,D3,ss,sh,h,k1,k2,k3,k4⟩;rintro U' cls dxo H' ⟨C,dx,vs,fs,U3',H3',rfl,rfl,ss',sh',hd,rf,hn,hp⟩;refine⟨C,dx,rfl,rfl,nF (fun th hh le0 ea free=>?_) hp⟩;have ne:ea≠dx:=fun z=>by subst z;rw[free] at hd;cases hd
 have le:TupLe X.K H' (upd H' ea (exO ea C (some dx) false)):=aO free;have le1:TupLe X.K H (upd H' ea (exO ea C (some dx) false)):=TupLe.trans (fun a xs z=>le0 a xs z) le;refine⟨U3'.set i (some (.ref ea)),_,D3.gone i,(ss'.mono le).set .ofRef,fun b o e=>?_,hh ea dx (sh'.fresh free) hn ne,fun U1 H1 U31 H31 l a b c=>k1 _ _ _ _ (le1.trans l) (a.gone i) b c,k2.at le1,fun U1 H1 U31 H31 l a b c=>k3 _ _ _ _ (le1.trans l) (a.gone i) b c,fun U1 H1 U31 H31 l a b c=>k4 _ _ _ _ (le1.trans l) (a.gone i) b c⟩;by_cases w:b=ea
 ·subst w;rw[aA] at e;cases e;exact bw
 rw[aC w] at e;by_cases w2:b=dx
 ·subst w2;rw[aA] at e;cases e;exact⟨vs,(aH w).trans hd,rf.mono le⟩
 rw[aC w2] at e;exact (sh' b o e).stay le fun u z=>(aH w).trans z
end
end L3
namespace L2
def iI (A:Around):Around:={ A with handled:=none}
def Cx.hush (X:Cx):Cx:={ X with calm:=false}
theorem uv {CX:CXT}{P:Program}{w:World}{K:Frag}{mg:Str->Option Value}{base:Heap}{N ps:List Str}{qual:Str}{scope:Scope}{f:Addr}{cd:Value}{A:Around}{outer:List Env}{s s1:Shared}{H:Hp}{E:XK}{us:List Value}{vs:List V}
  (S:FnScope N ps scope) (e0:Env0 P w K mg base A outer s H) (hl:vs.length=ps.length) (r:Vals vs us)
  (x:InCallC s s.heap.objs.size (bindL (envOfC qual scope s.heap.objs.size f cd).kindOf (ps.zip us) fun _=>none) (cellsFrom (s.heap.objs.size+1) scope.names []) (bindC (envOfC qual scope s.heap.objs.size f cd).kindOf (ps.zip us) fun _=>none) s1) :
  Inv (eU CX P w K mg base N qual scope f cd A outer s H E).hush [] (start N vs) H s1:=by
 have e1:Env0 P w K mg base (iI A) outer s H:=⟨e0.frames,e0.mod,e0.bs,e0.bsz,e0.funs,e0.frf,e0.hok,e0.bare⟩;have I:=mG (CX:=CX) (E:=E) S rfl e1 hl r x;obtain⟨ok,os,bare,base,loc,cell,fr,freeC,pin,hok,len⟩:=I;exact⟨⟨ok.mod,ok.kind,ok.glob,ok.blt,ok.above,ok.inj,ok.has,ok.cab,(fun z=>nomatch z),ok.frames,ok.stk,ok.exf,ok.bs,ok.bsz,ok.noex,ok.exfs,ok.funs,ok.frf⟩,os,bare,base,loc,cell,fr,freeC,pin,hok,len⟩
structure FnOkH (P:Program) (w:World) (K:Frag) (mg:Str->Option Value) (base:Heap) (CX:CXT) (k:Nat) (f:Addr) (fd:FuncData) (ps:List Str) (sp:Sp):Prop where
 len:∀vs H Q E,sp vs H Q E->vs.length=ps.length
 run:∀(A:Around) (outer:List Env) (s:Shared) (H:Hp) (args:Args) (us:List Value) (vs:List V) (Q:VK) (E:XK),Room k (iI A)->Env0 P w K mg base A outer s H->BindsTo s fd args (ps.zip us)->Vals vs us->sp vs H Q E ->
  codeAny (model P w) A (.call (.ref f) args) (CR CX outer P w H s Q E) s
theorem Ke {CX:CXT}{P:Program}{w:World}{K:Frag}{mg:Str->Option Value}{base:Heap}{k:Nat}{f:Addr}{name qual:Str}{params:Arguments}{body:List Stmt}{scope:Scope}{dV kV doc pm cdv ct oc:Value}{an od:Option Addr}
  {osl:Array (Option Value)} {N ps:List Str} {sp:Sp} (lk:K.lookup f=some ⟨oc,od,.func (fnOf name qual params body scope dV kV doc pm an cdv ct),osl⟩) (hcd:codeIn K cdv qual=true) (S:FnScope N ps scope)
  (len:∀vs H Q E,sp vs H Q E->vs.length=ps.length)
  (hbody:∀(A:Around) (outer:List Env) (s:Shared) (H:Hp) (vs:List V) (Q:VK) (E:XK),Room k ((iI A).deeper (envOfC qual scope s.heap.objs.size f cdv))->sp vs H Q E ->
   ∃t,PSs (eU CX P w K mg base N qual scope f cdv A outer s H E).hush body t/\t { nx:=fun _ H'=>Q .non H',rt:=Q} (start N vs) H) :
  FnOkH P w K mg base CX (k+1) f (fnOf name qual params body scope dV kV doc pm an cdv ct) ps sp:=by
 refine⟨len,fun A outer s H args us vs Q E hr e0 hb r hsp=>?_⟩;have hl:=len _ _ _ _ hsp;have KX:K.In s.heap:=e0.mod.kin.keeps fun b o e=>(e0.bs b o e).1;have lim:s.heap.NoLimit:=e0.mod.nolimit.keeps fun b o e=>(e0.bs b o e).1;have hkind:∀y∈ps.zip us,scope.names.lookup y.1=some .local\/(scope.names.lookup y.1=some .cell/\((cellsFrom (s.heap.objs.size+1) scope.names []).lookup y.1).isSome=true):=fun ⟨n,v⟩ hy=>by
  rcases S.par n (List.of_mem_zip hy).1 with q | q
  ·exact .inl q
  exact .inr ⟨q,cellsFrom_some _ _ _ (.inl q)⟩
 refine codeAny_call_function hr.depth (KX _ _ lk) rfl S.co S.gen rfl (codeRec_of KX hcd) (hb _ _ _ _ ?_);refine wpAny_newFunctionEnv_cells S.kind hkind fun env he s1 x=>?_;subst he;refine⟨lim.keeps x.toInCall.keep,codeAny_func ?_⟩;obtain⟨t,ht,hq⟩:=hbody A outer s H vs Q E (hr.deeper _) hsp;have I:Inv (eU CX P w K mg base N qual scope f cdv A outer s H E).hush [] (start N vs) H s1:=uv S e0 hl r x;refine wpAny_mono (ht [] s1 (start N vs) H _ I hq) (fun fl s' hs=>?_) fun e s' hs=>hs;have fin:∀{U':St} {H':Hp} {v:V} {u:Value},Inv (eU CX P w K mg base N qual scope f cdv A outer s H E).hush [] U' H' s'->RelV v u->Q v H'->CE outer P w H s Q u s' :=
  fun {U' H' v u} J rv q=>⟨v,H',J.os,J.bare,J.base,J.hok,rv,q⟩
 cases fl with
 |ret u=>obtain⟨v,U',H',J,rv,q⟩:=hs;exact fin J rv q
 |next=>obtain⟨U',H',J,q⟩:=hs;exact fin (v:=V.non) (u:=Value.none) J rfl q
 |brk=>obtain⟨U',H',J,q⟩:=hs;exact q.elim
 |cont =>
 obtain⟨U',H',J,q⟩:=hs;exact q.elim
section
variable {X:Cx}{CX:CXT}{k:Nat}{f:Addr}{fd:FuncData}{ps:List Str}{sp:Sp}{ds:List Value}{dvs:List V}{E:XK}{x:Str}{p pos:Pos}{e:Expr}{es:List Expr}{t:TA}
theorem Er {pins:List (Addr × Obj)}{U:St}{H:Hp}{s:Shared}{Q:VK}{us:List Value}{vs:List V}(F:FnOkH X.prog X.w X.K X.mg X.base CX k f fd ps sp) (hr:Room k (iI X.A)) (hb:Binds X.K fd ps ds) (hd:Vals dvs ds) (hx:j8 CX X E)
  (I:Inv X pins U H s) (r:Vals vs us) (h:sp (vs++dvs) H Q E):wpAny (model X.prog X.w) X.A (call (.ref f) us) (EP X pins U Q) X.xe s:=by
 have r2:Vals (vs++dvs) (us++ds):=r.append hd;have hl:(us++ds).length=ps.length:=by rw[<- r2.length];exact F.len _ _ _ _ h
 refine wpAny_call (codeAny_mono (F.run X.A X.stack s H ⟨us,[]⟩ (us++ds) (vs++dvs) Q E hr I.env0 (hb s us I.kIn hl) r2 h) fun r s' hq=>?_);cases r with
 |error e=>exact hx pins U H s e s' I hq
 |ok fl =>
 cases fl with
 |ret u=>exact I.after hq
 |next=>exact False.elim hq
 |brk=>exact False.elim hq
 |cont=>exact False.elim hq
theorem zY (F:FnOkH X.prog X.w X.K X.mg X.base CX k f fd ps sp) (hr:Room k (iI X.A)) (hg:Gl X x) (hm:X.mg x=some (.ref f)) (hk:keepIn X.K (.ref f)=true) (hb:Binds X.K fd ps ds) (hd:Vals dvs ds) (hx:j8 CX X E)
  (ha:PA X (e::es) t) (hdb:(x==("__debug__":Str))=false:=by decide) (he:starEach (e::es) X.env=(false,eval e X.env)::starEach es X.env:=by rfl) (hpl:(backTo pos (starEach es X.env)).any (·.1)=false:=by rfl) :
  PE X (.Call (.Name x p) (e::es) [] pos) (Gb sp dvs E t):=by
 intro pins s U H Q I h;refine wpAny_Call_Name_kw (dJ I hg hm ?_ hdb);refine callWith_K (h₀:=X.base) I.ok.mod.kin hk (thn (ha pos pins s U H _ I h) fun us s1 ⟨vs,H1,I1,r,q⟩=>⟨I1.kIn,?_⟩) he hpl;exact Er F hr hb hd hx I1 r q
variable {P:Program}{w:World}{K:Frag}{mg:Str->Option Value}{base:Heap}
theorem Fun.okH {x qual:Str}{st:Stmt}{f:Addr}{fd:FuncData}{N ps:List Str}{k:Nat}{sp:Sp}(F:Fun K x qual st f fd) (S:FnScope N ps (au st)) (len:∀vs H Q E,sp vs H Q E->vs.length=ps.length)
  (hbody:∀(cdv:Value) (A:Around) (outer:List Env) (s:Shared) (H:Hp) (vs:List V) (Q:VK) (E:XK),Room k ((iI A).deeper (envOfC qual (au st) s.heap.objs.size f cdv))->sp vs H Q E ->
   ∃t,PSs (eU CX0 P w K mg base N qual (au st) f cdv A outer s H E).hush.nox (bj st) t/\t { nx:=fun _ H'=>Q .non H',rt:=Q} (start N vs) H):FnOkH P w K mg base CX0 (k+1) f fd ps sp:=by
 obtain⟨oc,od,kV,doc,pm,an,cdv,ct,osl,rfl,lk,hcd⟩:=F.ex;refine Ke lk hcd S len fun A outer s H vs Q E hr hsp=>?_;obtain⟨t,h,q⟩:=hbody cdv A outer s H vs Q E hr hsp;exact⟨t,h.nox,q⟩
theorem zZ {X:Cx}{k j:Nat}{ea:Addr}(hr:Room j X.A) (h:k<=j):Room k (iI (X.inH ea).A):=by
 have:=hr.mono h;exact⟨rfl,this.dp,this.un,this.gd⟩
end
end L2
namespace L3
open L2
structure CalH (P:Program) (w:World) (K:Frag) (mg:Str->Option Value) (base:Heap) (k:Nat) (x:Str) (st:Stmt) (ps:List Str) (sp:Sp3):Prop where
 ex:∃(f:Addr) (fd:FuncData),G3 K mg x st ps f fd/\FnOkH P w K mg base CX0 k f fd ps (mR K sp)
theorem uw {X:Cx}{k:Nat}{ps:List Str}{sp:Sp3}{st:Stmt}{x:Str}{p pos:Pos}{e:Expr}{es:List Expr}{t:TA3}(D:CalH X.prog X.w X.K X.mg X.base k x st ps sp) (hr:Room k (iI X.A)) (hg:Gl X x)
  (ha:PA3 X (e::es) t) (hdb:(x==("__debug__":Str))=false:=by decide) (he:starEach (e::es) X.env=(false,eval e X.env)::starEach es X.env:=by rfl) (hpl:(backTo pos (starEach es X.env)).any (·.1)=false:=by rfl) :
  PE3 X (.Call (.Name x p) (e::es) [] pos) (kE sp t):=by
 obtain⟨f,fd,g,F⟩:=D.ex;refine PE.imp (zY (dvs:=[]) (E:=E0) F hr hg g.m g.fn.kp g.b .nil Gh ha hdb he hpl) ?_;rintro U H Q ⟨U3,H3,Q3,ss,sh,h,k⟩;refine⟨U3,H3,_,ss,sh,h,fun vs H' ts H3' le sh' r q=>?_⟩;show mR X.K sp (vs++[]) H' Q E0;rw[List.append_nil];exact⟨ts,H3',Q3,r,sh',q,k.at le⟩
theorem QD {P:Program}{w:World}{K:Frag}{mg:Str->Option Value}{base:Heap}{k:Nat}{f:Addr}{fd:FuncData}{ps:List Str}{sp:Sp3}{x qual:Str}{st:Stmt}{N:List Str}(F:Fun K x qual st f fd) (S:FnScope N ps (au st)) (len:∀ts H Q,sp ts H Q->ts.length=ps.length)
  (hbody:∀(cdv:Value) (A:Around) (outer:List Env) (s:Shared) (H:Hp) (E:XK) (ts:List T) (H3:Hp3) (Q:VK3),Room k ((iI A).deeper (envOfC qual (au st) s.heap.objs.size f cdv))->sp ts H3 Q ->
   ∃t,jc (eU CX0 P w K mg base N qual (au st) f cdv A outer s H E).hush.nox (bj st) t/\t { nx:=fun _ H'=>Fin3 Q .non H',rt:=Fin3 Q} (aU N ts) H3):FnOkH P w K mg base CX0 (k+1) f fd ps (mR K sp):=by
 refine F.okH S (fun vs H Q E ⟨ts,H3,Q3,r,sh,q,k⟩=>by rw[<- r.length];exact len _ _ _ q) fun cdv A outer s H vs Q E hr ⟨ts,H3,Q3,r,sh,q,k⟩=>?_;obtain⟨t,ht,hq⟩:=hbody cdv A outer s H E ts H3 Q3 hr q;exact⟨_,ht,aU N ts,H3,_,je r,sh,hq,fun U' H' U3' H3' le ss' sh' ⟨H4,sb,q⟩=>k _ _ _ _ le (sh'.sub sb) .ofNon q,fun v H' t H3' le sh' rv ⟨H4,sb,q⟩=>k _ _ _ _ le (sh'.sub sb) rv q,fun _ _ _ _ _ _ _ z=>z,fun _ _ _ _ _ _ _ z=>z⟩
section
variable {prog:Program}{w:World}{A:Around}{E:Value->Shared->Prop}{s:Shared}
variable {X:Cx}{e:Expr}{te:TE}{p1 p2 pos pos':Pos}
end
def Et (o:Option O3) (H:Hp3) (Q:VK3):Prop:=match o with
 |some (.lst ts)=>oq (fX ts) fun xs=>xs.length+1<scanBound/\Q (.int (bF xs).length) H
 |_=>False
def lsl (x:T) (H:Hp3) (Q:VK3):Prop:=match x with
 |.ref a=>Et (H a) H Q
 |_=>False
def xu (te:TE3):TE3:=fun U H Q=>te U H fun x H1=>lsl x H1 Q
theorem xx (te:TE3) {U:St3}{H:Hp3}{Q:VK3}:xu te U H Q=te U H fun x H1=>lsl x H1 Q:=rfl
theorem O7 (a:Addr) {H:Hp3}{Q:VK3}:lsl (.ref a) H Q=Et (H a) H Q:=rfl
theorem Kf (xs:List Str) {H:Hp3}{Q:VK3}:Et (some (.lst (xs.map T.str))) H Q=(xs.length+1<scanBound/\Q (.int (bF xs).length) H):=by
 unfold Et;simp only[rC];rfl
section
variable {X:Cx}{e:Expr}{p1 p2 pos pos':Pos}
end
end L3
namespace L2
section
variable {prog:Program}{w:World}{A:Around}{E:Value->Shared->Prop}
variable {X:Cx}{pos:Pos}
end
end L2
namespace L3
open L2
section
variable {X:Cx}{pos:Pos}
def gLH (o:Option O3) (n:Nat) (g:iu) (U:St3) (H:Hp3) (Q:St3->Hp3->Prop):Prop:=match o with
 |some (.lst ts)=>ts.length=n/\g ts U H Q
 |_=>False
def O8 (n:Nat) (g:iu):TG3:=fun t U H Q=>match t with
 |.ref a=>gLH (H a) n g U H Q
 |_=>False
theorem Kg (n:Nat) (g:iu) (a:Addr) (U:St3) (H:Hp3) (Q:St3->Hp3->Prop):O8 n g (.ref a) U H Q=gLH (H a) n g U H Q:=rfl
theorem O9 (n:Nat) (g:iu) (ts:List T) (U:St3) (H:Hp3) (Q:St3->Hp3->Prop):gLH (some (.lst ts)) n g U H Q=(ts.length=n/\g ts U H Q):=rfl
def Kh:R3:=fun x y H Q=>match x,y with
 |.str z,.int n=>(0<=n/\n<=1000/\z.length<=1000)/\∀r:Str,r.length=z.length*n.toNat->Q (.str r) H
 |_,_=>False
theorem Kl (z:Str) (n:Int) (H:Hp3) (Q:VK3):Kh (.str z) (.int n) H Q=((0<=n/\n<=1000/\z.length<=1000)/\∀r:Str,r.length=z.length*n.toNat->Q (.str r) H):=rfl
variable {H:Hp3}{Q:VK3}{U:St3}
variable {o i k value:Expr}{es:List Expr}{td ti tk tv:TE3}{ta:TA3}{pos' p2:Pos}{x1:Nat}
end
theorem rJ {α:Type}(enc:α->T) (xs:List α) {g:TG3}{tb:TS3}{D:Ends3}{still:Hp3->Prop}{U:St3}{H:Hp3}(I:List α->St3->Hp3->Prop) (h0:I [] U H) (hn:∀U H,I xs U H->still H/\D.nx U H)
  (hs:∀A x B U H (N:St3->Hp3->Prop),xs=A++x::B->I A U H->(∀U' H',I (A++[x]) U' H'->N U' H')->still H/\g (enc x) U H fun U2 H2=>tb { D with nx:=N,ct:=N,bk:=D.nx} U2 H2):iter3 g tb D still (xs.map enc) U H:=by
 have:∀(B A:List α) (U:St3) (H:Hp3),xs=A++B->I A U H->iter3 g tb D still (B.map enc) U H:=by
  intro B;induction B with
  |nil=>intro A U H e h;rw[List.append_nil] at e;subst e;exact hn U H h
  |cons x B ih =>
  intro A U H e h;exact hs A x B U H (iter3 g tb D still (B.map enc)) e h fun U' H' h'=>ih (A++[x]) U' H' (by rw[e];simp) h'
 exact this xs [] U H rfl h0
end L3
set_option maxHeartbeats 4000000
namespace M
open L2 L3
local macro_rules | `(tactic| walk_at "c") => `(tactic| try dsimp only [jL,List.replicate,List.map_cons,List.map_nil,List.cons_append,List.nil_append,List.getElem?_cons_zero,List.getElem?_cons_succ,Option.getD_some])
local macro_rules | `(tactic| walk_at "n") => `(tactic| (obtain ⟨e⟩:=‹Shut (_ = _)›; subst e; try dsimp only))
def nm0 : String := "ne_eq not_false_eq_true aC iy qG tC3 eX Gu tD yu yz Jf iw Gn Gi MP Gj Jk Jm yx yw Gq kE Gk Gm Qs Jj kO uT M6 GJ Qv Jp Dv Jq M7 Jr eF q_I Qw tQ oW yW jg jh M8 M9 Nb Nf Ng GK Nh Ni Nj Nk GP fW Nm Np Js Nq Jt Ju Nr yZ Jv Nt za q_D Nu Jw Nv Nx Jx Ny Jy zc Dw Nz Dy Jz NB JB JC JD JF JG NK NP NQ NT NZ GQ N5 N6 N7 Oa Dz Ob DG DK Oc Od Oe Og JH Oh DN Oi Oj zf oX JK aA QF QG QH QJ QK QL QM QQ Kv Kw yR JM JN Ku Qx at0 at1 at2 at3 List.eraseIdx_cons_zero Int.toNat_natCast Dh List.length_map List.length_cons List.length_nil Nat.zero_add Bool.false_eq_true if_false if_true List.getElem?_cons_zero List.getElem?_cons_succ List.set_cons_zero List.set_cons_succ yK mQ JS Ol Om mX JT tW tX tY wU tZ JV t7 ud ue wV uf DW qP qQ qR ug qT zx o5 o6 o7 qU o8 DX qW qX qY uh qZ DY decide_true decide_false Bool.not_true Bool.not_false JZ Ot zF Ou Eb Eh Oq G5 Ow Ox J1 List.map_cons List.map_nil KZ K1 K3 pI pH zX ut nA G7 Ka xx O7 Kf Kg O9 Kl"
local macro_rules | `(tactic| walk_at "") => do
 let ls <- ((nm0.splitOn " ").toArray.map String.toName).filterM fun n => do return !(<- Lean.Macro.resolveGlobalName n).isEmpty
 let ls <- ls.mapM fun n => let i:=Lean.mkIdent n; `(Lean.Parser.Tactic.simpLemma| $i:ident)
 `(tactic| ((try dsimp only [$[$ls:simpLemma],*]); try simp only [*,$[$ls:simpLemma],*]))
def dkL (c l a s m:T):List (Str × T):=[("cells",c),("left",l),("at",a),("seed",s),("mixed",m)]
theorem Km:¬(("cells":Str)="left"):=by decide +kernel
theorem Ko:¬(("cells":Str)="at"):=by decide +kernel
theorem Kp:¬(("cells":Str)="seed"):=by decide +kernel
theorem Pa:¬(("cells":Str)="mixed"):=by decide +kernel
theorem z6:¬(("left":Str)="at"):=by decide +kernel
theorem Eu:¬(("left":Str)="seed"):=by decide +kernel
theorem Kq:¬(("left":Str)="mixed"):=by decide +kernel
theorem Ew:¬(("at":Str)="seed"):=by decide +kernel
theorem Kr:¬(("at":Str)="mixed"):=by decide +kernel
theorem Ks:¬(("seed":Str)="mixed"):=by decide +kernel
theorem QF (c l a s m:T):cB "cells" (dkL c l a s m)=some c:=by simp only[dkL,cB,if_true]
theorem QG (c l a s m:T):cB "left" (dkL c l a s m)=some l:=by simp only[dkL,cB,Km,if_false,if_true]
theorem QH (c l a s m:T):cB "at" (dkL c l a s m)=some a:=by simp only[dkL,cB,Ko,z6,if_false,if_true]
theorem QJ (c l a s m:T):cB "seed" (dkL c l a s m)=some s:=by simp only[dkL,cB,Kp,Eu,Ew,if_false,if_true]
theorem QK (c l a s m:T):cB "mixed" (dkL c l a s m)=some m:=by simp only[dkL,cB,Pa,Kq,Kr,Ks,if_false,if_true]
theorem QL (c l a s m v:T):put3 "left" v (dkL c l a s m)=dkL c v a s m:=by
 simp [dkL,put3,Km,z6,Ne.symm z6,Ne.symm Eu,Ne.symm Kq]
theorem QM (c l a s m v:T):put3 "at" v (dkL c l a s m)=dkL c l v s m:=by
 simp [dkL,put3,Ko,z6,Ne.symm Ew,Ne.symm Kr]
theorem QQ (c l a s m v:T):put3 "seed" v (dkL c l a s m)=dkL c l a v m:=by
 simp [dkL,put3,Kp,Eu,Ew,Ne.symm Ks]
theorem Ku (c l a s m:T):yQ [] [("cells",c),("left",l),("at",a),("seed",s),("mixed",m)]=dkL c l a s m:=by
 simp [yQ,put3,dkL,Km,Ko,Kp,Pa,z6,Eu,Kq,Ew,Kr,Ks]
theorem Kv (c l a s m:T):(dkL c l a s m).length=5:=rfl
structure Deck (H:Hp3) (d c:Addr):Prop where
 dk:∃(l a s:Int) (m:Bool),H d=some (.dct (dkL (.ref c) (.int l) (.int a) (.int s) (.bl m)))/\0<=s/\s<2^32
 cs:∃ns:List Int,H c=some (.lst (ns.map T.int))/\ns≠[]/\ns.length<=64
structure Drew (d c:Addr) (H H':Hp3):Prop where
 deck:Deck H' d c
 off:∀b,b≠d->b≠c->H' b=H b
theorem Deck.ne {H:Hp3}{d c:Addr}(D:Deck H d c):d≠c:=by
 obtain⟨⟨l,a,s,m,h,_⟩,ns,h2,_⟩:=D;exact ne3 h h2 (by intro z;cases z)
theorem Drew.trans {d c:Addr}{H H1 H2:Hp3}(a:Drew d c H H1) (b:Drew d c H1 H2):Drew d c H H2:=⟨b.deck,fun x h1 h2=>(b.off x h1 h2).trans (a.off x h1 h2)⟩
theorem Deck.refl {H:Hp3}{d c:Addr}(D:Deck H d c):Drew d c H H:=⟨D,fun _ _ _=>rfl⟩
theorem Kw (a b c:T):cj [a,b,c] (some 1) none=[b,c]:=rfl
def Keep (d c:Addr) (H H':Hp3):Prop:=∀b o,H b=some o->b≠d->b≠c->H' b=some o
theorem Keep.refl {d c:Addr}{H:Hp3}:Keep d c H H:=fun _ _ h _ _=>h
theorem Keep.drew {d c:Addr}{H H1 H2:Hp3}(a:Keep d c H H1) (b:Drew d c H1 H2):Keep d c H H2:=fun x o h h1 h2=>by rw[b.off x h1 h2];exact a x o h h1 h2
theorem Keep.new {d c:Addr}{H H1:Hp3}{p:Addr}{u:O3}(a:Keep d c H H1) (hp:H1 p=none):Keep d c H (up3 H1 p u):=fun x o h h1 h2=>by
 have:=a x o h h1 h2;rw[aC (bN this hp)];exact this
theorem Deck.new {d c:Addr}{H:Hp3}{p:Addr}{u:O3}(D:Deck H d c) (h1:p≠d) (h2:p≠c):Deck (up3 H p u) d c:=by
 obtain⟨⟨l,a,sd,m,hd,s0,s1⟩,ns,hc,hne,hlen⟩:=D;exact⟨⟨l,a,sd,m,by rw[aC (Ne.symm h1)];exact hd,s0,s1⟩,ns,by rw[aC (Ne.symm h2)];exact hc,hne,hlen⟩
theorem Deck.nd {d c p:Addr}{H:Hp3}(D:Deck H d c) (hp:H p=none):p≠d:=fun e=>by obtain⟨⟨_,_,_,_,h,_⟩,_⟩:=D;rw[<- e,hp] at h;cases h
theorem Deck.nc {d c p:Addr}{H:Hp3}(D:Deck H d c) (hp:H p=none):p≠c:=fun e=>by obtain⟨_,_,h,_⟩:=D;rw[<- e,hp] at h;cases h
theorem z7 {d c:Addr}{H H':Hp3}{Q:VK3}{v:T}(D:Deck H' d c) (k:Keep d c H H') (q:∀H'',Drew d c H H''->Q v H''):Fin3 Q v H':=by
 refine⟨fun b=>if b=d\/b=c then H' b else H b,fun b o hb=>?_,q _ ⟨?_,fun b h1 h2=>?_⟩⟩
 ·by_cases h:b=d\/b=c
  ·simp only[h,if_true] at hb;exact hb
  simp only[h,if_false] at hb;exact k b o hb (fun e=>h (.inl e)) (fun e=>h (.inr e))
 ·obtain⟨⟨l,a,sd,m,hd,s0,s1⟩,ns,hc,hne,hlen⟩:=D;exact⟨⟨l,a,sd,m,by simp only[true_or,if_true];exact hd,s0,s1⟩,ns,by simp only[or_true,if_true];exact hc,hne,hlen⟩
 simp only[h1,h2,or_self,if_false]
structure isNm (x:Str):Prop where
 lo:1<=x.length
 hi:x.length<=8
 az:∀c∈x.cps.toList,97<=c/\c<=122
structure Nms (ws:List Str):Prop where
 nm:∀x∈ws,isNm x
 nd:ws.Nodup
theorem Nms.nil:Nms []:=⟨fun _ h=>(nomatch h),List.nodup_nil⟩
theorem Nms.snoc {ws:List Str}{x:Str}(n:Nms ws) (h:isNm x) (hx:x∉ws):Nms (ws++[x]) :=
 ⟨fun y hy=>(List.mem_append.mp hy).elim (n.nm y) fun z=>by rw[List.mem_singleton.mp z];exact h,fC n.nd hx⟩
structure Wk where
 tasks:List (Str × Int × List Str)
 orders:List (Str × Str)
 pairs:List (Str × Str × Str)
 row:List Str
def sT (xs:List Str):T:=.tup (xs.map T.str)
def tkT (t:Str × Int × List Str):T:=.tup [.str t.1,.int t.2.1,sT t.2.2]
def orT (o:Str × Str):T:=.tup [.str o.1,.str o.2]
def prT (p:Str × Str × Str):T:=.tup [.str p.1,.str p.2.1,.str p.2.2]
def Wk.enc (W:Wk):T:=.tup [.tup (W.tasks.map tkT),.tup (W.orders.map orT),.tup (W.pairs.map prT),sT W.row]
structure tkOk (t:Str × Int × List Str):Prop where
 nm:isNm t.1
 lo:1<=t.2.1
 hi:t.2.1<10^60
 ks:Nms t.2.2
 kl:t.2.2.length<=4
structure WkOk (W:Wk):Prop where
 t1:1<=W.tasks.length
 t8:W.tasks.length<=8
 tk:∀t∈W.tasks,tkOk t
 nd:(W.tasks.map (·.1)).Nodup
 os:W.orders.length<=28
 od:W.orders.Nodup
 oo:∀o∈W.orders,o.1≠o.2/\o.1∈W.tasks.map (·.1)/\o.2∈W.tasks.map (·.1)
 ps:W.pairs.length<=12
 pd:W.pairs.Nodup
 pp:∀p∈W.pairs,(p.1="with"\/p.1="apart")/\p.2.1≠p.2.2/\p.2.1∈W.tasks.map (·.1)/\p.2.2∈W.tasks.map (·.1)
 r1:1<=W.row.length
 r8:W.row.length<=8
 rn:∀x∈W.row,isNm x
theorem Ex {a b:Str × Str}(h:orT a=orT b):a=b:=by
 obtain⟨a1,a2⟩:=a;obtain⟨b1,b2⟩:=b;simp only[orT,T.tup.injEq,List.cons.injEq,T.str.injEq,and_true] at h;rw[h.1,h.2]
theorem Ey {a b:Str × Str × Str}(h:prT a=prT b):a=b:=by
 obtain⟨a1,a2,a3⟩:=a;obtain⟨b1,b2,b3⟩:=b;simp only[prT,T.tup.injEq,List.cons.injEq,T.str.injEq,and_true] at h;rw[h.1,h.2.1,h.2.2]
theorem cN {α:Type}{f:α->T}(hf:∀{a b},f a=f b->a=b) {x:α}{xs:List α}:f x∈xs.map f↔x∈xs:=by
 rw[List.mem_map];exact⟨fun ⟨y,hy,e⟩=>hf e▸hy,fun h=>⟨x,h,rfl⟩⟩
theorem jV {a b:Str}(h:T.str a=T.str b):a=b:=by injection h
theorem Pb {α:Type}{f:α->T}(hf:∀{a b},f a=f b->a=b) {x:α}{xs:List α}:cV false (f x) (xs.map f)=true↔x∈xs:=by
 unfold cV;simp [cN hf]
theorem Ky (x:Str):pl 20 (.str x)=true:=rfl
theorem jW (xs:List Str):(xs.map T.str).all (pl 20)=true:=by rw[List.all_eq_true];intro t ht;obtain⟨x,_,rfl⟩:=List.mem_map.mp ht;rfl
theorem Kz (xs:List (Str × Str)):(xs.map orT).all (pl 20)=true:=by rw[List.all_eq_true];intro t ht;obtain⟨x,_,rfl⟩:=List.mem_map.mp ht;rfl
theorem KD (xs:List (Str × Str × Str)):(xs.map prT).all (pl 20)=true:=by rw[List.all_eq_true];intro t ht;obtain⟨x,_,rfl⟩:=List.mem_map.mp ht;rfl
def mkS (l:List Nat):Str:=⟨l.toArray⟩
theorem bY (l:List Nat):(mkS l).cps.toList=l:=rfl
theorem cW (l:List Nat):(mkS l).length=l.length:=by show (l.toArray).size=_;simp
theorem ux (x:Str):∃l,x=mkS l:=⟨x.cps.toList,by cases x;rfl⟩
theorem pK (a b:List Nat):mkS a++mkS b=mkS (a++b):=by
 show (⟨a.toArray++b.toArray⟩:Str)=⟨(a++b).toArray⟩;simp
theorem Pg (l:List Nat) (k:Nat) (h:k<=l.length):Txt.slice (mkS l) none (some (k:Int))=mkS (l.take k):=by
 have e:=StrLaws.sliceText_to (x:=mkS l) (j:=(k:Int)) ⟨Int.natCast_nonneg k,by rw[bY];omega⟩;rw[bY,List.drop_zero,Int.sub_zero,Int.toNat_natCast] at e;exact e
theorem vC (l:List Nat) (k:Nat) (h:k<=l.length):Txt.slice (mkS l) (some (k:Int)) none=mkS (l.drop k):=by
 have e:=StrLaws.sliceText_from (x:=mkS l) (i:=(k:Int)) ⟨Int.natCast_nonneg k,by rw[bY];omega⟩;rw[bY,Int.toNat_natCast,List.take_of_length_le (by rw[List.length_drop];omega)] at e;exact e
def lW:List Nat:=[97,98,99,100,101,102,103,104,105,106,107,108,109,110,111,112,113,114,115,116,117,118,119,120,121,122]
theorem KH:("abcdefghijklmnopqrstuvwxyz":Str)=mkS lW:=by decide +kernel
theorem Ez:∀i:_root_.Fin 26,lW[i.val]?=some (97+i.val):=by decide
theorem z8 (i:Int) (h0:0<=i) (h1:i<26):atI lW i=some (97+i.toNat):=by
 obtain⟨j,rfl⟩:=Int.eq_ofNat_of_zero_le h0;have hj:j<26:=by omega
 have:=Ez ⟨j,hj⟩;exact cI (by simpa using this)
theorem EY:∀i:_root_.Fin 26,Builtin.Str.occurrences (mkS lW) (mkS [97+i.val]) 0 26 1=[i.val]:=by decide +kernel
theorem KJ (c:Nat) (h0:97<=c) (h1:c<=122):Builtin.Str.occurrences (mkS lW) (mkS [c]) 0 (mkS lW).length 1=[c - 97]:=by
 have:=EY ⟨c - 97,by omega⟩;rw[show 97+(c - 97)=c by omega] at this;exact this
theorem Ph {l:List Nat}(h1:1<=l.length) (h8:l.length<=8) (h:∀c∈l,97<=c/\c<=122):isNm (mkS l):=⟨by rw[cW];exact h1,by rw[cW];exact h8,by rw[bY];exact h⟩
theorem z9:∀(n:Nat) (l:List Nat),l.length<n->∃m,m<n/\m∉l
 |0,l,h=>by omega
 |n+1,l,h=>by
  by_cases hn:n∈l
  ·
   have hl:=List.length_erase_of_mem hn
   have:0<l.length:=List.length_pos_of_mem hn
   obtain⟨m,hm,hx⟩:=z9 n (l.erase n) (by omega)
   exact⟨m,by omega,fun z=>hx ((List.mem_erase_of_ne (by omega)).mpr z)⟩
  ·
   exact⟨n,by omega,hn⟩
def tkW (t:Str × Int × List Str):List Str:=([("task":Str),t.1,(toString t.2.1:String)]:List Str)++t.2.2
def tkR (t:Str × Int × List Str):Str:=Txt.join " " (tkW t)
def orR (o:Str × Str):Str:=Txt.join " " ["order",o.1,o.2]
def prR (p:Str × Str × Str):Str:=Txt.join " " [p.1,p.2.1,p.2.2]
def rwR (xs:List Str):Str:=Txt.join " " (([("row":Str)]:List Str)++xs)
def aL (W:Wk):List Str:=W.tasks.map tkR++W.orders.map orR++W.pairs.map prR++[rwR W.row]
def jD (W:Wk):Str:=Txt.join "\n" (aL W)
theorem uA {B:Nat}:∀{ys:List Str},(∀y∈ys,y.length<=B)->(ys.map (·.length)).sum<=ys.length*B
 |[],_=>by simp
 |y::r,h=>by
  have h1:=h y List.mem_cons_self
  have h2:=uA (ys:=r) fun z hz=>h z (List.mem_cons_of_mem _ hz)
  simp only[List.map_cons,List.sum_cons,List.length_cons,Nat.succ_mul]
  omega
theorem KN (z:Str) (ys:List Str):(Txt.join z ys).length=(ys.map (·.length)).sum+(ys.length - 1)*z.length:=size_glued z ys
theorem cR:(" ":Str).length=1:=by decide +kernel
theorem lF:("\n":Str).length=1:=by decide +kernel
theorem nG {z:Str}{ys:List Str}{B n:Nat}(hz:z.length=1) (hn:ys.length<=n) (h:∀y∈ys,y.length<=B) (hb:n*B+n<=16777216):jOk z ys:=by
 unfold jOk;have h1:=uA h;have h2:ys.length*B<=n*B:=Nat.mul_le_mul_right B hn;rw[hz];omega
theorem fj {z:Str}{ys:List Str}{B n:Nat}(hz:z.length=1) (hn:ys.length<=n) (h:∀y∈ys,y.length<=B):(Txt.join z ys).length<=n*B+n:=by
 rw[KN,hz];have h1:=uA h;have h2:ys.length*B<=n*B:=Nat.mul_le_mul_right B hn;omega
theorem Fb:("task":Str).length=4:=by decide +kernel
theorem Aa:("order":Str).length=5:=by decide +kernel
theorem Fd:("with":Str).length=4:=by decide +kernel
theorem Ab:("apart":Str).length=5:=by decide +kernel
theorem KQ:("row":Str).length=3:=by decide +kernel
theorem iJ {n:Int}(h1:1<=n) (h:n<10^60):((toString n:String):Str).length<=60:=toString_length_le (by omega) (by decide) h
theorem vD {n:Int}(h1:1<=n) (h:n<10^60):n.natAbs.log2<1920:=by
 have hp:n.natAbs<2^1920:=by
  have e:n.natAbs<10^60:=by omega
  exact Nat.lt_of_lt_of_le e (by decide +kernel)
 exact (Nat.log2_lt (by omega)).mpr hp
theorem uB {t:Str × Int × List Str}(h:tkOk t):(tkW t).length<=7/\∀y∈tkW t,y.length<=60:=by
 unfold tkW;refine⟨by have:=h.kl;simp only[List.length_append,List.length_cons,List.length_nil];omega,fun y hy=>?_⟩;rcases List.mem_append.mp hy with hy | hy
 ·simp only[List.mem_cons,List.not_mem_nil,or_false] at hy;rcases hy with rfl | rfl | rfl
  ·rw[Fb];decide
  ·exact Nat.le_trans h.nm.hi (by decide)
  exact iJ h.lo h.hi
 exact Nat.le_trans (h.ks.nm y hy).hi (by decide)
theorem Ac {t:Str × Int × List Str}(h:tkOk t):(tkR t).length<=500:=Nat.le_trans (fj cR (uB h).1 (uB h).2) (by decide)
theorem Ad {o:Str × Str}(h1:isNm o.1) (h2:isNm o.2):∀y∈(["order",o.1,o.2]:List Str),y.length<=8:=fun y hy=>by
 simp only[List.mem_cons,List.not_mem_nil,or_false] at hy;rcases hy with rfl | rfl | rfl
 ·rw[Aa];decide
 ·exact h1.hi
 exact h2.hi
theorem Ae {o:Str × Str × Str}(h0:o.1="with"\/o.1="apart") (h1:isNm o.2.1) (h2:isNm o.2.2):∀y∈([o.1,o.2.1,o.2.2]:List Str),y.length<=8:=fun y hy=>by
 simp only[List.mem_cons,List.not_mem_nil,or_false] at hy;rcases hy with rfl | rfl | rfl
 ·rcases h0 with h0 | h0
  ·rw[h0,Fd];decide
  rw[h0,Ab];decide
 ·exact h1.hi
 exact h2.hi
theorem Af {xs:List Str}(h:∀x∈xs,isNm x):∀y∈(([("row":Str)]:List Str)++xs),y.length<=8:=fun y hy=>by
 rcases List.mem_append.mp hy with hy | hy
 ·rw[List.mem_singleton.mp hy,KQ];decide
 exact (h y hy).hi
theorem WkOk.nm1 {W:Wk}(h:WkOk W) {x:Str}(hx:x∈W.tasks.map (·.1)):isNm x:=by
 obtain⟨t,ht,rfl⟩:=List.mem_map.mp hx;exact (h.tk t ht).nm
theorem fK {W:Wk}(h:WkOk W):(aL W).length<=49/\∀y∈aL W,y.length<=500:=by
 unfold aL;refine⟨by have:=h.t8;have:=h.os;have:=h.ps;simp only[List.length_append,List.length_map,List.length_singleton];omega,fun y hy=>?_⟩;rcases List.mem_append.mp hy with hy | hy
 ·rcases List.mem_append.mp hy with hy | hy
  ·rcases List.mem_append.mp hy with hy | hy
   ·obtain⟨t,ht,rfl⟩:=List.mem_map.mp hy;exact Ac (h.tk t ht)
   obtain⟨o,ho,rfl⟩:=List.mem_map.mp hy;obtain⟨_,h1,h2⟩:=h.oo o ho;exact Nat.le_trans (fj cR (n:=3) (by simp) (Ad (h.nm1 h1) (h.nm1 h2))) (by decide)
  obtain⟨o,ho,rfl⟩:=List.mem_map.mp hy;obtain⟨h0,_,h1,h2⟩:=h.pp o ho;exact Nat.le_trans (fj cR (n:=3) (by simp) (Ae h0 (h.nm1 h1) (h.nm1 h2))) (by decide)
 rw[List.mem_singleton.mp hy];exact Nat.le_trans (fj cR (n:=9) (by have:=h.r8;simp only[List.length_append,List.length_singleton];omega) (Af h.rn)) (by decide)
theorem Fe {W:Wk}(h:WkOk W):jOk "\n" (aL W):=nG lF (fK h).1 (fK h).2 (by decide)
def glue (c:Nat):List (List Nat)->List Nat
 |[]=>[]
 |[x]=>x
 |x::y::r=>x++c::glue c (y::r)
theorem Ag {c:Nat}:∀{x y A B:List Nat},c∉x->c∉y->x++c::A=y++c::B->x=y/\A=B
 |[],[],A,B,_,_,h=>by simp at h;exact⟨rfl,h⟩
 |[],b::y,A,B,_,hy,h=>by
  simp at h
  exact absurd h.1 (fun e=>hy (e▸List.mem_cons_self))
 |a::x,[],A,B,hx,_,h=>by
  simp at h
  exact absurd h.1.symm (fun e=>hx (e▸List.mem_cons_self))
 |a::x,b::y,A,B,hx,hy,h=>by
  simp only[List.cons_append,List.cons.injEq] at h
  obtain⟨e,h⟩:=h
  have:=Ag (fun z=>hx (List.mem_cons_of_mem _ z)) (fun z=>hy (List.mem_cons_of_mem _ z)) h
  exact⟨by rw[e,this.1],this.2⟩
theorem rK {c:Nat}:∀{xs ys:List (List Nat)},xs≠[]->ys≠[]->(∀x∈xs,c∉x)->(∀y∈ys,c∉y)->glue c xs=glue c ys->xs=ys
 |[],_,h,_,_,_,_=>absurd rfl h
 |_,[],_,h,_,_,_=>absurd rfl h
 |[x],[y],_,_,_,_,h=>by rw[show x=y from h]
 |[x],y::y2::r,_,_,hx,_,h=>by
  have h':x=y++c::glue c (y2::r):=h
  exact absurd (show c∈x by rw[h'];simp) (hx x List.mem_cons_self)
 |x::x2::r,[y],_,_,_,hy,h=>by
  have h':x++c::glue c (x2::r)=y:=h
  exact absurd (show c∈y by rw[<- h'];simp) (hy y List.mem_cons_self)
 |x::x2::r,y::y2::r',_,_,hx,hy,h=>by
  obtain⟨e,h⟩:=Ag (hx x List.mem_cons_self) (hy y List.mem_cons_self) h
  rw[e,rK (by simp) (by simp) (fun z hz=>hx z (List.mem_cons_of_mem _ hz)) (fun z hz=>hy z (List.mem_cons_of_mem _ hz)) h]
theorem dZ (a b:Str):(a++b).cps.toList=a.cps.toList++b.cps.toList:=by
 show (a.cps++b.cps).toList=_;simp
theorem cZ (c:Nat):∀xs:List Str,(Str.join ⟨#[c]⟩ xs).cps.toList=glue c (xs.map fun x=>x.cps.toList)
 |[]=>rfl
 |[x]=>rfl
 |x::y::r=>by
  show (x++⟨#[c]⟩++Str.join ⟨#[c]⟩ (y::r)).cps.toList=_
  rw[dZ,dZ,cZ c (y::r)]
  simp [glue]
theorem jX {a b:Str}(h:a.cps.toList=b.cps.toList):a=b:=by
 obtain⟨l,rfl⟩:=ux a;obtain⟨m,rfl⟩:=ux b;rw[bY,bY] at h;rw[h]
theorem jE:∀{xs ys:List Str},xs.map (fun x=>x.cps.toList)=ys.map (fun x=>x.cps.toList)->xs=ys
 |[],[],_=>rfl
 |[],_::_,h=>by cases h
 |_::_,[],h=>by cases h
 |x::xs,y::ys,h=>by
  simp only[List.map_cons,List.cons.injEq] at h
  rw[jX h.1,jE h.2]
theorem Ah (x y:Str):Txt.split x y≠[]:=by
 unfold Txt.split;split
 ·simp
 split
 ·simp
 intro h;have:=congrArg List.length h;rw[length_partsBetween] at this;simp at this
theorem lG {c:Nat}{ws:List Str}(hn:ws≠[]) (hc:∀w∈ws,c∉w.cps.toList):Txt.split (Str.join ⟨#[c]⟩ ws) ⟨#[c]⟩=ws:=by
 have h1:=StrLaws.join_split (Str.join ⟨#[c]⟩ ws) ⟨#[c]⟩;have h2:=StrLaws.split_free (Str.join ⟨#[c]⟩ ws) c;have h3:=congrArg (fun z:Str=>z.cps.toList) h1;simp only[cZ] at h3;refine jE (rK (c:=c) (by simp [Ah]) (by simp [hn]) ?_ ?_ h3)
 ·intro x hx;obtain⟨p,hp,rfl⟩:=List.mem_map.mp hx;exact h2 p hp
 intro x hx;obtain⟨p,hp,rfl⟩:=List.mem_map.mp hx;exact hc p hp
theorem vG:(" ":Str)=⟨#[32]⟩:=by decide +kernel
theorem Pj:("\n":Str)=⟨#[10]⟩:=by decide +kernel
theorem nH (z:Str) (ys:List Str):Txt.join z ys=Str.join z ys:=by
 exact PySem.StrLaws.glued_eq_join z ys
theorem rM {ws:List Str}(hn:ws≠[]) (hc:∀w∈ws,32∉w.cps.toList):Txt.split (Txt.join " " ws) " "=ws:=by
 rw[nH,vG];exact lG hn hc
theorem rN {ws:List Str}(hn:ws≠[]) (hc:∀w∈ws,10∉w.cps.toList):Txt.split (Txt.join "\n" ws) "\n"=ws:=by
 rw[nH,Pj];exact lG hn hc
theorem rO {c d:Nat}:∀{xs:List (List Nat)},d∈glue c xs->d=c\/∃x∈xs,d∈x
 |[],h=>by cases h
 |[x],h=>.inr ⟨x,by simp,h⟩
 |x::y::r,h=>by
  have h':d∈x++c::glue c (y::r):=h
  rw[List.mem_append,List.mem_cons] at h'
  rcases h' with h' | h' | h'
  ·
   exact .inr ⟨x,by simp,h'⟩
  ·
   exact .inl h'
  ·
   rcases rO h' with e | ⟨z,hz,e⟩
   ·
    exact .inl e
   ·
    exact .inr ⟨z,List.mem_cons_of_mem _ hz,e⟩
theorem vH {ws:List Str}(hc:∀w∈ws,10∉w.cps.toList):10∉(Txt.join " " ws).cps.toList:=by
 rw[nH,vG,cZ];intro h;rcases rO h with e | ⟨x,hx,e⟩
 ·exact absurd e (by decide)
 obtain⟨p,hp,rfl⟩:=List.mem_map.mp hx;exact hc p hp e
def cleanS (w:Str):Prop:=∀c∈w.cps.toList,48<=c
theorem isNm.clean {x:Str}(h:isNm x):cleanS x:=fun c hc=>by have:=h.az c hc;omega
theorem cleanS.no {w:Str}(h:cleanS w) {c:Nat}(hc:c<48):c∉w.cps.toList:=fun z=>by have:=h c z;omega
theorem vI:cleanS "task":=by unfold cleanS;decide +kernel
theorem rP:cleanS "order":=by unfold cleanS;decide +kernel
theorem Ff:cleanS "with":=by unfold cleanS;decide +kernel
theorem rQ:cleanS "apart":=by unfold cleanS;decide +kernel
theorem KR:cleanS "row":=by unfold cleanS;decide +kernel
theorem jY {n:Int}(h1:1<=n):∃m:Nat,n=m/\1<=m:=⟨n.toNat,by omega,by omega⟩
theorem c7 (m:Nat):(((toString ((m:Nat):Int):String):Str)).cps.toList=(Nat.toDigits 10 m).map Char.toNat:=PySem.W.KIN.signs_num m
theorem pL {m c:Nat}(h:c∈(Nat.toDigits 10 m).map Char.toNat):48<=c/\c<=57:=by
 obtain⟨ch,hch,e⟩:=List.mem_map.mp h;have r:=PyProof.Rows.digit_range (Nat.isDigit_of_mem_toDigits (by decide) (by decide) hch);rw[<- e];exact r
theorem Ai {n:Int}(h1:1<=n):cleanS ((toString n:String):Str):=by
 obtain⟨m,rfl,_⟩:=jY h1;intro c hc;rw[c7] at hc;exact (pL hc).1
theorem KY (m:Nat):Nat.toDigits 10 m≠[]:=fun e=>by
 have h:=toDigits_len_ge 10 m;rw[e] at h;exact absurd h (by decide)
theorem rR:∀(m:Nat),1<=m->∃a r,(Nat.toDigits 10 m).map Char.toNat=a::r/\a≠48:=by
 intro m;induction m using Nat.strongRecOn with
 |_ m ih =>
 intro h1;by_cases h:m<10
 ·rw[Nat.toDigits_of_lt_base h];refine⟨(Nat.digitChar m).toNat,[],rfl,?_⟩;have:∀d:Nat,d<10->1<=d->(Nat.digitChar d).toNat≠48:=by decide
  exact this m h h1
 have hm:m%10<10:=Nat.mod_lt m (by decide);have t:Nat.toDigits 10 (m / 10)++Nat.toDigits 10 (m%10)=Nat.toDigits 10 (10*(m / 10)+m%10):=Nat.toDigits_append_toDigits (by decide) (by omega) hm;rw[Nat.div_add_mod] at t;obtain⟨a,r,e,ne⟩:=ih (m / 10) (by omega) (by omega);rw[<- t,List.map_append,e];exact⟨a,_,rfl,ne⟩
theorem num_reads {n:Int}(h1:1<=n) (h:n<10^60):intText? ((toString n:String):Str)=some n:=by
 have hl:=iJ h1 h;obtain⟨m,rfl,_⟩:=jY h1;have hd:NumText.AllDigits (((toString ((m:Nat):Int):String):Str)).cps.toList:=fun c hc=>by rw[c7] at hc;exact pL hc
 have hne:(((toString ((m:Nat):Int):String):Str)).cps.toList≠[]:=by rw[c7];intro e;exact KY m (List.map_eq_nil_iff.mp e)
 have e:=intText_digits hd hne (Nat.le_trans hl (by decide));rw[c7,PySem.W.KIN.val_back] at e;exact e
theorem Aj {n:Int}(h1:1<=n):1<=(((toString n:String):Str)).length:=by
 obtain⟨m,rfl,h⟩:=jY h1;obtain⟨a,r,e,_⟩:=rR m h;have q:(((toString ((m:Nat):Int):String):Str)).cps.toList.length=(((toString ((m:Nat):Int):String):Str)).length:=Array.length_toList;rw[c7,e,List.length_cons] at q;rw[<- q];omega
theorem Ak:∀i:_root_.Fin 10,occ false (mkS [48+i.val]) ("0123456789":Str)=true:=by decide +kernel
theorem Fg {c:Nat}(h:48<=c/\c<=57):occ false (⟨#[c]⟩:Str) ("0123456789":Str)=true:=by
 have:=Ak ⟨c - 48,by omega⟩;rw[show 48+(c - 48)=c by omega] at this;exact this
theorem Al:∀i:_root_.Fin 26,occ false (mkS [97+i.val]) ("abcdefghijklmnopqrstuvwxyz":Str)=true:=by decide +kernel
theorem Fi {c:Nat}(h:97<=c/\c<=122):occ false (⟨#[c]⟩:Str) ("abcdefghijklmnopqrstuvwxyz":Str)=true:=by
 have:=Al ⟨c - 97,by omega⟩;rw[show 97+(c - 97)=c by omega] at this;exact this
def az (c:Nat):Bool:=occ false (⟨#[c]⟩:Str) ("abcdefghijklmnopqrstuvwxyz":Str)
def fg (c:Nat):Bool:=occ false (⟨#[c]⟩:Str) ("0123456789":Str)
def nmB (x:Str):Bool:=decide (1<=x.length)&&(decide (x.length<=8)&&x.cps.toList.all az)
def hd0 (x:Str):Bool:=decide (x.cps.toList.head?=some 48)
def lnB (x:Str):Bool:=decide (1<=x.length)&&(decide (x.length<=60)&&(!hd0 x&&x.cps.toList.all fg))
def tkB:List Str->Bool
 |n::l::ks=>decide (ks.length<=4)&&(nmB n&&(lnB l&&ks.all nmB))
 |_=>false
def rwB:List Str->Bool
 |[]=>false
 |w::b=>if w=("task":Str) then tkB b else if w=("row":Str) then decide (1<=b.length)&&(decide (b.length<=8)&&b.all nmB) else if w=("order":Str)\/w=("with":Str)\/w=("apart":Str) then decide (b.length=2)&&b.all nmB else false
structure RS where
 tks:List (Str × Int × List Str)
 ors:List (Str × Str)
 prs:List (Str × Str × Str)
 sts:List Str
def RS.wk (s:RS):Wk:=⟨s.tks,s.ors,s.prs,s.sts⟩
inductive Flt
 |row
 |twice
 |task
def jj (x:Str):Int:=(intText? x).getD 0
def pM (ks:List Str):Bool:=decide ((bF ks).length<ks.length)
def nmd (s:RS) (a b:Str):Bool:=decide (a=b)||(!decide (a∈s.tks.map (·.1))||!decide (b∈s.tks.map (·.1)))
def lH (s:RS) (n l:Str) (ks:List Str):Flt ⊕ RS:=if 8<=s.tks.length then .inl .row else if decide (n∈s.tks.map (·.1))||pM ks then .inl .twice else .inr { s with tks:=s.tks++[(n,jj l,ks)]}
def jM (s:RS) (a b:Str):Flt ⊕ RS:=if 28<=s.ors.length then .inl .row else if (a,b)∈s.ors then .inl .twice else if nmd s a b then .inl .task else .inr { s with ors:=s.ors++[(a,b)]}
def jN (s:RS) (w a b:Str):Flt ⊕ RS:=if 12<=s.prs.length then .inl .row else if (w,a,b)∈s.prs then .inl .twice else if nmd s a b then .inl .task else .inr { s with prs:=s.prs++[(w,a,b)]}
def stp (s:RS) (ws:List Str):Flt ⊕ RS:=if decide (s.sts≠[])||!rwB ws then .inl .row else match ws with
 |w::a::b::ks=>if w=("task":Str) then lH s a b ks else if w=("order":Str) then jM s a b else if w=("row":Str) then .inr { s with sts:=a::b::ks} else jN s w a b
 |[_,a]=>.inr { s with sts:=[a]}
 |_=>.inl .row
def goR:RS->Nat->List (List Str)->(Flt × Nat) ⊕ RS
 |s,_,[]=>.inr s
 |s,n,ws::r=>match stp s ws with
  |.inl f=>.inl (f,n)
  |.inr s'=>goR s' (n+1) r
def rdW (rows:List Str):(Flt × Nat) ⊕ RS:=match goR ⟨[],[],[],[]⟩ 1 (rows.map fun r=>Txt.split r (" ":Str)) with
 |.inl f=>.inl f
 |.inr s=>if s.tks=[]\/s.sts=[] then .inl (.row,rows.length+1) else .inr s
open PySem.Builtin.Str in
theorem rT (x y:Str):1<=(Txt.split x y).length/\(Txt.split x y).length<=x.length+2/\∀w∈Txt.split x y,w.length<=x.length:=by
 unfold Txt.split;split
 ·exact⟨Nat.le_refl _,by simp,fun w hw=>by rw[List.mem_singleton.mp hw];exact Nat.le_refl _⟩
 split
 ·exact⟨Nat.le_refl _,by simp,fun w hw=>by rw[List.mem_singleton.mp hw];exact Nat.le_refl _⟩
 have hl:=PySem.StrLaws.occ_length_le x y 0 x.length (x.length+1);generalize occurrences x y 0 x.length (x.length+1)=cuts at hl;unfold partsBetween;dsimp only;refine⟨?_,?_,fun w hw=>?_⟩
 ·rw[List.length_map,List.length_zip,List.length_cons,List.length_map,List.length_append,List.length_singleton];omega
 ·rw[List.length_map,List.length_zip,List.length_cons,List.length_map,List.length_append,List.length_singleton];omega
 obtain⟨q,_,rfl⟩:=List.mem_map.mp hw;show (strSub x q.1 q.2).cps.size<=x.cps.size;unfold strSub;simp;omega
open L2 L3
section
variable {P:Program}{w:World}{K:Frag}{mg:Str->Option Value}{base:Heap}
def lJ:Sp3:=fun ts H Q=>∃d c,ts=[.ref d]/\Deck H d c/\∀(n:Int) (H':Hp3),0<=n->n<10^12->Drew d c H H'->Q (.int n) H'
abbrev Am:List Str:=["_law_deck_here","_law_cells","_law_cell","_law_number"]
theorem sc_next:FnScope Am ["_law_deck_here"] (au (top 37)):=bG
theorem Fj {f:Addr}{fd:FuncData}(g:G3 K mg "_law_next" (top 37) ["_law_deck_here"] f fd) (B:Bl mg):Cal P w K mg base 1 "_law_next" (top 37) ["_law_deck_here"] lJ:=by
 refine⟨f,fd,g,?_⟩;refine fn3 g.fn sc_next (fun ts H Q h=>?_) (fun cdv A outer s H E ts H3 Q hr h=>?_)
 ·obtain⟨d,c,rfl,_⟩:=h;rfl
 have hu30:=Room.u30 hr;have hu1:=Room.u1 hr;obtain⟨d,c,rfl,D,k⟩:=h;have hdc:=D.ne;obtain⟨⟨l,a,sd,m,hd,s0,s1⟩,ns,hc,hne,hlen⟩:=D;refine⟨_,(aq (aJ (i:=1) sc_next.nd (cz hu1 (v3 0) aF))
   (aq (bO (dO (cz hu1 (v3 0) aF)) (aq (jT hu1 (v3 0) aF (aD aM (cz hu1 (v3 0) aF) ao))
    (aq (aJ (i:=2) sc_next.nd (aN ix3 (v3 1) (aD bR (cz hu1 (v3 0) aF) (aK bV rfl B.len_ bW (aj (v3 1) ak)))))
    (aq (jT hu1 (v3 0) aF (aD bR (aD aM (aD aM (aD jf (cz hu1 (v3 0) aF) ao) (v3 2)) (cz hu1 (v3 0) aF)) ao))
    (aq (aJ (i:=3) sc_next.nd (aD bR (aD aM (aD jf (cz hu1 (v3 0) aF) (cz hu1 (v3 0) aF)) (aD jf ao (cz hu1 (v3 0) aF))) ao))
    (aB (aP (aD bR (aD jf (v3 3) (aD aM (v3 3) ao)) ao))))))) bh)
   (aq (aJ (i:=3) sc_next.nd (aD bR (aN ix3 (v3 1) ao) (aD kJ ao ao)))
   (aq (tE (aD fH (aN ix3 (v3 1) ao) (aD kJ ao ao)) (yE (v3 1) ao mV))
   (aq (jT hu1 (v3 0) aF (aD yM (cz hu1 (v3 0) aF) ao))
   (aq (bO (PW3.pt (yq (bu (cM hu30) (cz hu1 (v3 0) aF) ao) (uQ (bu Gw (aK bV rfl B.len_ bW (aj (v3 1) ak)) ao)))) (aq (cJ (cU PySem.F.plainAttrs_list PySem.F.slot_list_pop PySem.F.type_list_pop yU (v3 1) (aj ao ak)))
    (aB (jT hu1 (v3 0) aF ao))) bh)
   (aB (aP (v3 3))))))))),?_⟩
 rw[show aU Am [T.ref d]=[some (T.ref d),none,none,none] from rfl];have hcd:=Ne.symm hdc;have hpos:(0:Int)<ns.length:=by
  cases ns with
  |nil=>exact absurd rfl hne
  |cons n r=>simp only[List.length_cons];omega
 cases m with
 |true =>
  obtain⟨z,hz⟩:=JL ns ((a+1)%(ns.length:Int)) (Int.emod_nonneg _ (by omega)) (Int.emod_lt_of_pos _ hpos);walk_at "";clear hz;generalize hs':(sd*48271+z+(a+1))%2147483647=s';have b0:0<=s':=by rw[<- hs'];exact Int.emod_nonneg _ (by decide)
  have b1:s'<2147483647:=by rw[<- hs'];exact Int.emod_lt_of_pos _ (by decide)
  generalize hn':(s'*s'+7919*(a+1))%2147483629=n';have c0:0<=n':=by rw[<- hn'];exact Int.emod_nonneg _ (by decide)
  have c1:n'<2147483629:=by rw[<- hn'];exact Int.emod_lt_of_pos _ (by decide)
  refine⟨by decide,True.intro,.inr ⟨by decide,by decide⟩,by decide,by decide,.inl ⟨by omega,by omega⟩,.inl ⟨by decide,by decide⟩,by decide,.inl ⟨by omega,by omega⟩,by decide,?_⟩;refine Fin3.of Sub3.refl (k _ _ (Int.emod_nonneg _ (by decide)) (Int.lt_trans (Int.emod_lt_of_pos _ (by decide)) (by decide)) ⟨⟨⟨l,a+1,s',true,aA,b0,by omega⟩,ns,by rw[aC hcd];exact hc,hne,hlen⟩,fun b h1 h2=>aC h1⟩)
 |false =>
 cases ns with
 |nil=>exact absurd rfl hne
 |cons n0 r =>
  have tn:(10:Int)^Int.toNat 12=1000000000000:=by decide
  have fin:∀(l':Int) (ms:List Int),ms≠[]->ms.length<=64->Fin3 Q (T.int (n0%1000000000000)) (up3 (up3 H3 c (O3.lst (ms.map T.int))) d (O3.dct (dkL (T.ref c) (T.int l') (T.int a) (T.int sd) (T.bl false)))):=fun l' ms h1 h2=>by
   refine Fin3.of Sub3.refl (k _ _ (Int.emod_nonneg _ (by decide)) (Int.lt_of_lt_of_le (Int.emod_lt_of_pos _ (by decide)) (by decide)) ⟨⟨⟨l',a,sd,false,aA,s0,s1⟩,ms,by rw[aC hcd,aA],h1,h2⟩,fun b h1 h2=>by rw[aC h1,aC h2]⟩)
  simp only[List.map_cons] at hc
  walk_at ""
  refine⟨⟨by decide,by decide,by decide⟩,by decide,⟨by decide,by decide,by decide⟩,⟨by decide,by decide +kernel⟩,by decide,?_⟩
  split
  ·
   split
   ·
    rename_i h1 h2
    refine⟨⟨True.intro,True.intro⟩,by decide,?_⟩
    have e:up3 (up3 (up3 (up3 H3 c (O3.lst (T.int (n0 / 1000000000000)::List.map T.int r))) d (O3.dct (dkL (T.ref c) (T.int (l - 1)) (T.int a) (T.int sd) (T.bl false)))) c (O3.lst (r.map T.int))) d (O3.dct (dkL (T.ref c) (T.int 12) (T.int a) (T.int sd) (T.bl false)))=up3 (up3 H3 c (O3.lst (r.map T.int))) d (O3.dct (dkL (T.ref c) (T.int 12) (T.int a) (T.int sd) (T.bl false))):=by
     funext b
     by_cases h1:b=d
     ·
      subst h1;rw[aA,aA]
     ·
      rw[aC h1,aC h1]
      by_cases h2:b=c
      ·
       subst h2;rw[aA,aA]
      ·
       rw[aC h2,aC h1,aC h2,aC h2]
    rw[e]
    exact fin 12 r (by rintro rfl;simp at h2) (by simp at hlen;omega)
   ·
    exact fin (l - 1) (n0 / 1000000000000::r) (by simp) (by simpa using hlen)
  ·
   exact fin (l - 1) (n0 / 1000000000000::r) (by simp) (by simpa using hlen)
end
end M
namespace L3
open L2
theorem KZ (a:T) (r:List T):cj (a::r) (some 1) none=r:=dH (k:=1)
theorem K1 (a b:T) (r:List T):cj (a::b::r) (some 2) none=r:=dH (k:=2)
theorem K3 (a b c:T) (r:List T):cj (a::b::c::r) (some 3) none=r:=dH (k:=3)
structure Shut (p:Prop):Prop where
 out:p
theorem aG {t u:TS3}{D:Ends3}{U:St3}{H:Hp3}(h:∀R,Shut (R=u)->(iy t R) D U H):(iy t u) D U H:=h u ⟨rfl⟩
end L3
namespace M
open L2 L3
local macro_rules | `(tactic| walk_at "c") => `(tactic| try dsimp only [jL,List.replicate,List.map_cons,List.map_nil,List.cons_append,List.nil_append,List.getElem?_cons_zero,List.getElem?_cons_succ,Option.getD_some])
local macro_rules | `(tactic| walk_at "n") => `(tactic| (obtain ⟨e⟩:=‹Shut (_ = _)›; subst e; try dsimp only))
local macro_rules | `(tactic| walk_at "") => do
 let ls <- ((nm0.splitOn " ").toArray.map String.toName).filterM fun n => do return !(<- Lean.Macro.resolveGlobalName n).isEmpty
 let ls <- ls.mapM fun n => let i:=Lean.mkIdent n; `(Lean.Parser.Tactic.simpLemma| $i:ident)
 `(tactic| ((try dsimp only [$[$ls:simpLemma],*]); try simp only [*,$[$ls:simpLemma],*]))
inductive Rw where
 |tk (t:Str × Int × List Str) | od (o:Str × Str) | pr (p:Str × Str × Str)
def Rw.words:Rw->List Str
 |.tk t=>tkW t
 |.od o=>["order",o.1,o.2]
 |.pr p=>[p.1,p.2.1,p.2.2]
def Rw.txt (r:Rw):Str:=Txt.join " " r.words
def tks:List Rw->List (Str × Int × List Str)
 |[]=>[]
 |.tk t::r=>t::tks r
 |_::r=>tks r
def ods:List Rw->List (Str × Str)
 |[]=>[]
 |.od o::r=>o::ods r
 |_::r=>ods r
def prs:List Rw->List (Str × Str × Str)
 |[]=>[]
 |.pr p::r=>p::prs r
 |_::r=>prs r
theorem b7:∀a b:List Rw,tks (a++b)=tks a++tks b
 |[],b=>rfl
 |.tk t::a,b=>by simp [tks,b7 a b]
 |.od t::a,b=>by simp [tks,b7 a b]
 |.pr t::a,b=>by simp [tks,b7 a b]
theorem cL:∀a b:List Rw,ods (a++b)=ods a++ods b
 |[],b=>rfl
 |.tk t::a,b=>by simp [ods,cL a b]
 |.od t::a,b=>by simp [ods,cL a b]
 |.pr t::a,b=>by simp [ods,cL a b]
theorem cX:∀a b:List Rw,prs (a++b)=prs a++prs b
 |[],b=>rfl
 |.tk t::a,b=>by simp [prs,cX a b]
 |.od t::a,b=>by simp [prs,cX a b]
 |.pr t::a,b=>by simp [prs,cX a b]
def fits (L:List Rw):Rw->Prop
 |.tk _=>True
 |.od o=>o.1∈(tks L).map (·.1)/\o.2∈(tks L).map (·.1)
 |.pr p=>p.2.1∈(tks L).map (·.1)/\p.2.2∈(tks L).map (·.1)
def Timely:List Rw->List Rw->Prop
 |_,[]=>True
 |L,r::R=>fits L r/\Timely (L++[r]) R
structure Goes (L:List Rw) (W:Wk):Prop where
 ok:WkOk W
 t:tks L=W.tasks
 o:ods L=W.orders
 p:prs L=W.pairs
 tm:Timely [] L
theorem Timely.snoc:∀{R L:List Rw}{r:Rw},Timely L R->fits (L++R) r->Timely L (R++[r])
 |[],L,r,_,h=>by rw[List.append_nil] at h;exact⟨h,trivial⟩
 |x::R,L,r,h,h'=>⟨h.1,Timely.snoc (R:=R) (L:=L++[x]) h.2 (by simpa using h')⟩
inductive RowW:List Str->Prop
 |tk {t:Str × Int × List Str} (h:tkOk t):RowW (tkW t)
 |od {a b:Str} (h1:isNm a) (h2:isNm b):RowW ["order",a,b]
 |pr {z a b:Str} (h0:z="with"\/z="apart") (h1:isNm a) (h2:isNm b):RowW [z,a,b]
 |row {xs:List Str} (h1:1<=xs.length) (h8:xs.length<=8) (h:∀x∈xs,isNm x):RowW (([("row":Str)]:List Str)++xs)
theorem RowW.ne {ws:List Str}(h:RowW ws):ws≠[]:=by cases h <;> simp [tkW]
theorem RowW.clean {ws:List Str}(h:RowW ws):∀w∈ws,cleanS w:=by
 intro w hw;cases h with
 |tk h =>
  rcases List.mem_append.mp hw with hw | hw
  ·simp only[List.mem_cons,List.not_mem_nil,or_false] at hw;rcases hw with rfl | rfl | rfl
   ·exact vI
   ·exact h.nm.clean
   exact Ai h.lo
  exact (h.ks.nm w hw).clean
 |od h1 h2 =>
  simp only[List.mem_cons,List.not_mem_nil,or_false] at hw;rcases hw with rfl | rfl | rfl
  ·exact rP
  ·exact h1.clean
  exact h2.clean
 |pr h0 h1 h2 =>
  simp only[List.mem_cons,List.not_mem_nil,or_false] at hw;rcases hw with rfl | rfl | rfl
  ·rcases h0 with rfl | rfl
   ·exact Ff
   exact rQ
  ·exact h1.clean
  exact h2.clean
 |row h1 h8 h =>
 rcases List.mem_append.mp hw with hw | hw
 ·rw[List.mem_singleton.mp hw];exact KR
 exact (h w hw).clean
theorem RowW.split {ws:List Str}(h:RowW ws):Txt.split (Txt.join " " ws) " "=ws:=rM h.ne fun w hw=>(h.clean w hw).no (by decide)
theorem RowW.len {ws:List Str}(h:RowW ws):(Txt.join " " ws).length<=500:=by
 cases h with
 |tk h=>exact Ac h
 |od h1 h2=>exact Nat.le_trans (fj cR (n:=3) (by simp) (Ad (o:=(_,_)) h1 h2)) (by decide)
 |pr h0 h1 h2=>exact Nat.le_trans (fj cR (n:=3) (by simp) (Ae (o:=(_,_,_)) h0 h1 h2)) (by decide)
 |row h1 h8 h=>exact Nat.le_trans (fj cR (n:=9) (by simp only[List.length_append,List.length_singleton];omega) (Af h)) (by decide)
theorem RowW.free {ws:List Str}(h:RowW ws):10∉(Txt.join " " ws).cps.toList:=vH fun w hw=>(h.clean w hw).no (by decide)
theorem Goes.row {L:List Rw}{W:Wk}(g:Goes L W) {r:Rw}(hr:r∈L):RowW r.words:=by
 have key:∀(L:List Rw) (r:Rw),r∈L->match r with
   |.tk t=>t∈tks L
   |.od o=>o∈ods L
   |.pr p=>p∈prs L:=by
  intro L
  induction L with
  |nil=>intro r h;cases h
  |cons x L ih =>
   intro r h
   rcases List.mem_cons.mp h with rfl | h
   ·
    cases r <;> simp [tks,ods,prs]
   ·
    have:=ih r h
    cases r <;> cases x <;> simp_all [tks,ods,prs]
 have h:=key L r hr;cases r with
 |tk t=>exact .tk (g.ok.tk t (g.t▸h))
 |od o =>
  have h':o∈W.orders:=g.o▸h
  obtain⟨_,h1,h2⟩:=g.ok.oo o h'
  exact .od (g.ok.nm1 h1) (g.ok.nm1 h2)
 |pr p =>
  have h':p∈W.pairs:=g.p▸h
  obtain⟨h0,_,h1,h2⟩:=g.ok.pp p h'
  exact .pr h0 (g.ok.nm1 h1) (g.ok.nm1 h2)
theorem Goes.last {L:List Rw}{W:Wk}(g:Goes L W):RowW (([("row":Str)]:List Str)++W.row):=.row g.ok.r1 g.ok.r8 g.ok.rn
def d7 (L:List Rw) (W:Wk):List Str:=L.map Rw.txt++[rwR W.row]
theorem Fo:∀L:List Rw,L.length=(tks L).length+(ods L).length+(prs L).length
 |[]=>rfl
 |.tk _::r=>by simp only[List.length_cons,tks,ods,prs,Fo r];omega
 |.od _::r=>by simp only[List.length_cons,tks,ods,prs,Fo r];omega
 |.pr _::r=>by simp only[List.length_cons,tks,ods,prs,Fo r];omega
theorem Goes.many {L:List Rw}{W:Wk}(g:Goes L W):(d7 L W).length<=49:=by
 have:=Fo L;have:=g.ok.t8;have:=g.ok.os;have:=g.ok.ps;rw[g.t,g.o,g.p] at *;simp only[d7,List.length_append,List.length_map,List.length_singleton];omega
theorem Goes.each {L:List Rw}{W:Wk}(g:Goes L W) {y:Str}(hy:y∈d7 L W):y.length<=500/\10∉y.cps.toList:=by
 rcases List.mem_append.mp hy with hy | hy
 ·obtain⟨r,hr,rfl⟩:=List.mem_map.mp hy;exact⟨(g.row hr).len,(g.row hr).free⟩
 rw[List.mem_singleton.mp hy];exact⟨g.last.len,g.last.free⟩
theorem Goes.split {L:List Rw}{W:Wk}(g:Goes L W):Txt.split (Txt.join "\n" (d7 L W)) "\n"=d7 L W:=rN (by simp [d7]) fun y hy=>(g.each hy).2
theorem Goes.size {L:List Rw}{W:Wk}(g:Goes L W):(Txt.join "\n" (d7 L W)).length<=49*500+49:=fj lF g.many fun y hy=>(g.each hy).1
def bA (W:Wk):List Rw:=W.tasks.map .tk++W.orders.map .od++W.pairs.map .pr
theorem dB (W:Wk):d7 (bA W) W=aL W:=by
 simp only[d7,bA,aL,List.map_append,List.map_map];rfl
theorem gW {W:Wk}(h:WkOk W):Goes (bA W) W:=by
 have a1:∀xs:List (Str × Int × List Str),tks (xs.map .tk)=xs/\ods (xs.map .tk)=[]/\prs (xs.map .tk)=[]:=fun xs=>by induction xs <;> simp_all [tks,ods,prs]
 have a2:∀xs:List (Str × Str),tks (xs.map .od)=[]/\ods (xs.map .od)=xs/\prs (xs.map .od)=[]:=fun xs=>by induction xs <;> simp_all [tks,ods,prs]
 have a3:∀xs:List (Str × Str × Str),tks (xs.map .pr)=[]/\ods (xs.map .pr)=[]/\prs (xs.map .pr)=xs:=fun xs=>by induction xs <;> simp_all [tks,ods,prs]
 have b1:∀(xs:List (Str × Int × List Str)) (L:List Rw),Timely L (xs.map .tk):=fun xs=>by
  induction xs with
  |nil=>intro L;trivial
  |cons x xs ih=>intro L;exact⟨trivial,ih _⟩
 have b2:∀(R L M:List Rw),Timely L R->Timely (L++R) M->Timely L (R++M):=fun R=>by
  induction R with
  |nil=>intro L M _ h;simpa using h
  |cons x R ih=>intro L M h h';exact⟨h.1,ih _ _ h.2 (by simpa using h')⟩
 have b3:∀(xs:List (Str × Str)) (L:List Rw),(∀o∈xs,o.1∈(tks L).map (·.1)/\o.2∈(tks L).map (·.1))->Timely L (xs.map .od):=fun xs=>by
  induction xs with
  |nil=>intro L _;trivial
  |cons x xs ih=>intro L h;exact⟨h x (by simp),ih _ fun o ho=>by rw[b7];simpa [tks] using h o (List.mem_cons_of_mem _ ho)⟩
 have b4:∀(xs:List (Str × Str × Str)) (L:List Rw),(∀o∈xs,o.2.1∈(tks L).map (·.1)/\o.2.2∈(tks L).map (·.1))->Timely L (xs.map .pr):=fun xs=>by
  induction xs with
  |nil=>intro L _;trivial
  |cons x xs ih=>intro L h;exact⟨h x (by simp),ih _ fun o ho=>by rw[b7];simpa [tks] using h o (List.mem_cons_of_mem _ ho)⟩
 refine⟨h,?_,?_,?_,?_⟩
 ·simp [bA,b7,(a1 _).1,(a2 _).1,(a3 _).1]
 ·simp [bA,cL,(a1 _).2.1,(a2 _).2.1,(a3 _).2.1]
 ·simp [bA,cX,(a1 _).2.2,(a2 _).2.2,(a3 _).2.2]
 unfold bA;refine b2 _ _ _ (b2 _ _ _ (b1 _ _) (b3 _ _ fun o ho=>?_)) (b4 _ _ fun o ho=>?_)
 ·rw[List.nil_append,(a1 _).1];exact⟨(h.oo o ho).2.1,(h.oo o ho).2.2⟩
 rw[List.nil_append,b7,(a1 _).1,(a2 _).1,List.append_nil];exact⟨(h.pp o ho).2.2.1,(h.pp o ho).2.2.2⟩
theorem Timely.at:∀{L1 L0 L2:List Rw}{x:Rw},Timely L0 (L1++x::L2)->fits (L0++L1) x
 |[],L0,L2,x,h=>by rw[List.append_nil];exact h.1
 |y::L1,L0,L2,x,h=>by
  have:=Timely.at (L1:=L1) (L0:=L0++[y]) h.2
  simpa using this
theorem d8 {α:Type}{a:α}{xs ys:List α}(h:(xs++a::ys).Nodup):a∉xs:=fun hm=>by
 rw[List.nodup_append] at h;exact h.2.2 a hm a (by simp) rfl
theorem Goes.tk {L1 L2:List Rw}{t:Str × Int × List Str}{W:Wk}(g:Goes (L1++.tk t::L2) W):tkOk t/\(tks L1).length<8/\t.1∉(tks L1).map (·.1):=by
 have e:W.tasks=tks L1++t::tks L2:=by rw[<- g.t,b7];rfl
 refine⟨g.ok.tk t (by rw[e];simp),?_,?_⟩
 ·have:=g.ok.t8;rw[e] at this;simp at this;omega
 have:=g.ok.nd;rw[e,List.map_append,List.map_cons] at this;exact d8 this
theorem Goes.od {L1 L2:List Rw}{o:Str × Str}{W:Wk}(g:Goes (L1++.od o::L2) W):(ods L1).length<28/\o∉ods L1/\o.1≠o.2/\o.1∈(tks L1).map (·.1)/\o.2∈(tks L1).map (·.1):=by
 have e:W.orders=ods L1++o::ods L2:=by rw[<- g.o,cL];rfl
 have f:fits ([]++L1) (.od o):=g.tm.at
 refine⟨?_,?_,(g.ok.oo o (by rw[e];simp)).1,f.1,f.2⟩
 ·have:=g.ok.os;rw[e] at this;simp at this;omega
 have:=g.ok.od;rw[e] at this;exact d8 this
theorem Goes.pr {L1 L2:List Rw}{o:Str × Str × Str}{W:Wk}(g:Goes (L1++.pr o::L2) W):(prs L1).length<12/\o∉prs L1/\o.2.1≠o.2.2/\o.2.1∈(tks L1).map (·.1)/\o.2.2∈(tks L1).map (·.1)/\(o.1="with"\/o.1="apart"):=by
 have e:W.pairs=prs L1++o::prs L2:=by rw[<- g.p,cX];rfl
 have f:fits ([]++L1) (.pr o):=g.tm.at
 have q:=g.ok.pp o (by rw[e];simp);refine⟨?_,?_,q.2.1,f.1,f.2,q.1⟩
 ·have:=g.ok.ps;rw[e] at this;simp at this;omega
 have:=g.ok.pd;rw[e] at this;exact d8 this
structure Apart4 (H0:Hp3) (a pt po pp:Addr):Prop where
 a1:a≠pt
 a2:a≠po
 a3:a≠pp
 b1:pt≠po
 b2:pt≠pp
 c1:po≠pp
 t:H0 pt=none
 o:H0 po=none
 p:H0 pp=none
theorem jk {H0 H:Hp3}{p:Addr}{o:O3}(h0:H0 p=none) (s:Sub3 H0 H):Sub3 H0 (up3 H p o):=fun b u e=>by rw[aC (bN e h0)];exact s b u e
section
variable {P:Program}{w:World}{K:Frag}{mg:Str->Option Value}{base:Heap}
structure Box (p:Prop):Prop where
 out:p
theorem uC {α:Type}(g:α->Bool) (xs:List α):(xs.map fun x=>T.bl (g x))=(xs.map g).map T.bl:=by rw[List.map_map];rfl
theorem Pk {w:Str}:cV false (T.str w) [T.str "with",T.str "apart"]=true↔w=("with":Str)\/w=("apart":Str):=by
 unfold cV;simp
def An:Sp3:=fun ts H Q=>∃x:Str,ts=[.str x]/\x.length<=1000000/\Q (.bl (nmB x)) H
def pN:Sp3:=fun ts H Q=>∃(a:Addr) (ws:List Str),ts=[.ref a]/\H a=some (.lst (ws.map T.str))/\ws.length<=1000000/\(∀w∈ws,w.length<=1000000)/\Q (.bl (ws.all nmB)) H
def Ha:Sp3:=fun ts H Q=>∃x:Str,ts=[.str x]/\x.length<=1000000/\Q (.bl (lnB x)) H
def Hb:Sp3:=fun ts H Q=>∃(a:Addr) (ws:List Str),ts=[.ref a]/\H a=some (.lst (ws.map T.str))/\ws.length<=1000000/\(∀w∈ws,w.length<=1000000)/\Q (.bl (tkB ws)) H
def Hc:Sp3:=fun ts H Q=>∃(a:Addr) (ws:List Str),ts=[.ref a]/\H a=some (.lst (ws.map T.str))/\1<=ws.length/\ws.length<=1000000/\(∀w∈ws,w.length<=1000000)/\Q (.bl (rwB ws)) H
def Ao:Sp3:=fun ts H Q=>∃(a:Addr) (tk:List (Str × Int × List Str)),ts=[.ref a]/\H a=some (.lst (tk.map tkT))/\tk.length<=8/\∀p,H p=none->Q (.ref p) (up3 H p (.lst ((tk.map (·.1)).map T.str)))
theorem uD:FnScope ["word"] ["word"] (au (top 19)):=bG
theorem uE {f:Addr}{fd:FuncData}(g:G3 K mg "is_name" (top 19) ["word"] f fd) (B:Bl mg) (C:Cs K mg):Cal P w K mg base 1 "is_name" (top 19) ["word"] An:=by
 refine⟨f,fd,g,?_⟩;refine fn3 g.fn uD (fun ts H Q h=>?_) (fun cdv A outer s H E ts H3 Q hr h=>?_)
 ·obtain⟨x,rfl,_⟩:=h;rfl
 have hu31:=Room.u31 hr;obtain⟨x,rfl,hx,k⟩:=h;refine⟨_,(aB (aP (cF (qD jy jy ao (aK bV rfl B.len_ bW (aj (v3 0) ak)) (g3c rfl C.MOST_LETTERS)) (dm (aK (oZ rfl) rfl B.all_ oV (aj (dU rfl (dq (n0:=(au (top 19)).names) (N:=["word"]) (N':=["sign"]) (nt:=1) (cap:=[]) rfl rfl (by decide +kernel)) (zE (v3 0)) (fun cl pins s H C0 fp=>⟨(aR (i:=0) (show List.Nodup [("sign":Str)] by decide +kernel)),cu,(gh (mU hu31) (v3 0) (g3c rfl C.LETTERS) rfl)⟩)) ak)))))),?_⟩;rw[show aU ["word"] [T.str x]=[some (T.str x)] from rfl];have hsz:sizeLine=16777216:=rfl;have k':=Box.mk k;clear k;have h0:x.length<=16777216:=by omega
 unfold nmB at k';walk_at "";refine⟨trivial,?_⟩;by_cases c1:1<=x.length
 ·rw[if_pos (decide_eq_true (by omega))];by_cases c2:x.length<=8
  ·rw[if_pos (decide_eq_true (by omega))];rw[decide_eq_true c1,decide_eq_true c2,Bool.true_and,Bool.true_and] at k';rw[show jL 1 [] [some (T.str x)]=[none] from rfl];unfold gU;refine cH (fun c:Nat=>T.str ⟨#[c]⟩) (fun c=>T.bl (az c)) x.cps.toList [] trivial (by rw[show x.cps.toList.length=x.length from Array.length_toList];omega) (fun c hc Q' hq=>?_) (fun p hp=>?_)
   ·unfold az at hq;clear k';walk_at "";try exact hq
   rw[uC az,dX,eF,List.all_map];exact Fin3.of (Sub3.new hp) k'.out
  rw[if_neg (fls (by omega))];rw[decide_eq_true c1,decide_eq_false c2] at k';exact Fin3.of Sub3.refl k'.out
 rw[if_neg (fls (by omega))];rw[decide_eq_false c1] at k';exact Fin3.of Sub3.refl k'.out
theorem pO:FnScope ["words"] ["words"] (au (top 23)):=bG
theorem pP {f:Addr}{fd:FuncData}(g:G3 K mg "are_names" (top 23) ["words"] f fd) (B:Bl mg) (C:Cs K mg) (F_is_name:Cal P w K mg base 1 "is_name" (top 19) ["word"] An):Cal P w K mg base 2 "are_names" (top 23) ["words"] pN:=by
 refine⟨f,fd,g,?_⟩;refine fn3 g.fn pO (fun ts H Q h=>?_) (fun cdv A outer s H E ts H3 Q hr h=>?_)
 ·obtain⟨a,ws,rfl,_⟩:=h;rfl
 obtain⟨a,ws,rfl,ha,hl,hx,k⟩:=h;refine⟨_,(aB (aP (aK (oZ rfl) rfl B.all_ oV (aj (dU rfl (dq (n0:=(au (top 23)).names) (N:=["words"]) (N':=["word"]) (nt:=1) (cap:=[]) rfl rfl (by decide +kernel)) (jQ (v3 0)) (fun cl pins s H C0 fp=>⟨(aR (i:=0) (show List.Nodup [("word":Str)] by decide +kernel)),cu,(bC F_is_name hr rfl (aj (v3 0) ak))⟩)) ak)))),?_⟩;rw[show aU ["words"] [T.ref a]=[some (T.ref a)] from rfl];have hsz:sizeLine=16777216:=rfl;have k':=Box.mk k;clear k;walk_at "";rw[show jL 1 [] [some (T.ref a)]=[none] from rfl];refine cH T.str (fun w=>T.bl (nmB w)) ws [] (.inl ha) (by omega) (fun w hw Q' hq=>?_) (fun p hp=>?_)
 ·walk_at "";exact⟨w,rfl,hx w hw,hq⟩
 rw[uC nmB,dX,eF,List.all_map];exact Fin3.of (Sub3.new hp) k'.out
theorem rU:FnScope ["tasks"] ["tasks"] (au (top 27)):=bG
theorem rW {f:Addr}{fd:FuncData}(g:G3 K mg "names_of" (top 27) ["tasks"] f fd) (B:Bl mg) (C:Cs K mg):Cal P w K mg base 1 "names_of" (top 27) ["tasks"] Ao:=by
 refine⟨f,fd,g,?_⟩;refine fn3 g.fn rU (fun ts H Q h=>?_) (fun cdv A outer s H E ts H3 Q hr h=>?_)
 ·obtain⟨a,ws,rfl,_⟩:=h;rfl
 obtain⟨a,tk,rfl,ha,hl,k⟩:=h;refine⟨_,(aB (aP (dU rfl (dq (n0:=(au (top 27)).names) (N:=["tasks"]) (N':=["task"]) (nt:=1) (cap:=[]) rfl rfl (by decide +kernel)) (jQ (v3 0)) (fun cl pins s H C0 fp=>⟨(aR (i:=0) (show List.Nodup [("task":Str)] by decide +kernel)),cu,(aN ix3 (v3 0) ao)⟩)))),?_⟩;rw[show aU ["tasks"] [T.ref a]=[some (T.ref a)] from rfl];have hsz:sizeLine=16777216:=rfl;walk_at "";rw[show jL 1 [] [some (T.ref a)]=[none] from rfl];refine cH tkT (fun t=>T.str t.1) tk [] (.inl ha) (by omega) (fun t ht Q' hq=>?_) (fun p hp=>?_)
 ·simp only[tkT];walk_at "";try exact hq
 have:=k p hp;rw[List.map_map] at this;exact Fin3.of Sub3.refl this
def fs1 (i:Int):List (Str × T):=[(("row":Str),.int i)]
def Hd (CN CT:Addr):iG:=fun ts H Q E=>∃(a b:Addr) (w n l:Str) (ks:List Str) (s:RS) (i:Int),ts=[.ref a,.ref b,.int i]/\H a=some (.lst ((w::n::l::ks).map T.str))/\H b=some (.lst (s.tks.map tkT))/\s.tks.length<=8/\ks.length<=4/\lnB l=true /\
 (lH s n l ks=.inl .row->E CN (fs1 i) H)/\(lH s n l ks=.inl .twice->E CT (fs1 i) H)/\∀s',lH s n l ks=.inr s'->Q (tkT (n,jj l,ks)) H
def Aq (CN CT:Addr):iG:=fun ts H Q E=>∃(x:T) (b:Addr) (us:List T) (m i:Int),ts=[x,.ref b,.int m,.int i]/\H b=some (.lst us)/\pl 20 x=true/\us.all (pl 20)=true/\(m<=(us.length:Int)->E CN (fs1 i) H)/\((us.length:Int)<m->x∈us->E CT (fs1 i) H)/\((us.length:Int)<m->x∉us->Q .non H)
def Ar (CK:Addr):iG:=fun ts H Q E=>∃(x y:Str) (b:Addr) (s:RS) (i:Int),ts=[.str x,.str y,.ref b,.int i]/\H b=some (.lst (s.tks.map tkT))/\s.tks.length<=8/\(nmd s x y=true->E CK (fs1 i) H)/\(nmd s x y=false->Q .non H)
abbrev cP:List Str:=["told","ahead","most","number"]
theorem pQ:FnScope cP cP (au (top 29)):=bG
theorem pR {f:Addr}{fd:FuncData}(g:G3 K mg "check_new" (top 29) cP f fd) (B:Bl mg) (C:Cs K mg) {C_NoRow:Addr}(X_NoRow:ExcC P w K mg base "NoRow" C_NoRow ["row"]) {C_Twice:Addr}(X_Twice:ExcC P w K mg base "Twice" C_Twice ["row"]):CalX P w K mg base 3 "check_new" (top 29) cP (Aq C_NoRow C_Twice):=by
 refine⟨f,fd,g,?_⟩;refine fnX g.fn pQ (fun ts H Q E h=>?_) (fun cdv A outer s H E ts H3 Q E3 hr h hM=>?_)
 ·obtain⟨x,b,us,m,i,rfl,_⟩:=h;rfl
 have hu31:=Room.u31 hr;obtain⟨x,b,us,m,i,rfl,hb,px,pu,k1,k2,k3⟩:=h;refine⟨_,(aq (bO (bu Gx (aK bV rfl B.len_ bW (aj (v3 1) ak)) (v3 2)) (aB (cg X_NoRow hM (hr.mono (by decide)) rfl rfl (aj (v3 3) ak))) bh)
   (aB (bO (bu (mU hu31) (v3 0) (v3 1) rfl) (aB (cg X_Twice hM (hr.mono (by decide)) rfl rfl (aj (v3 3) ak))) bh))),?_⟩
 rw[show aU cP [x,T.ref b,T.int m,T.int i]=[some (x),some (T.ref b),some (T.int m),some (T.int i)] from rfl];have k1':=Box.mk k1;have k2':=Box.mk k2;have k3':=Box.mk k3;clear k1 k2 k3;have hsz:sizeLine=16777216:=rfl;have m1:cV false x us=decide (x∈us):=by unfold cV;simp
 clear hsz;refine aG fun R0 hR0=>?_;walk_at "";by_cases c1:m<=(us.length:Int)
 ·rw[if_pos (decide_eq_true c1)];exact⟨trivial,H3,Sub3.refl,k1'.out c1⟩
 rw[if_neg (fls c1)];walk_at "n";walk_at "";refine⟨trivial,trivial,?_⟩;by_cases c2:x∈us
 ·rw[if_pos (decide_eq_true c2)];exact⟨trivial,H3,Sub3.refl,k2'.out (by omega) c2⟩
 rw[if_neg (fls c2)];exact Fin3.of Sub3.refl (k3'.out (by omega) c2)
abbrev iK:List Str:=["one","other","tasks","number","names"]
theorem sc_check_ends:FnScope iK ["one","other","tasks","number"] (au (top 30)):=bG
theorem lY {f:Addr}{fd:FuncData}(g:G3 K mg "check_ends" (top 30) ["one","other","tasks","number"] f fd) (B:Bl mg) (C:Cs K mg) {C_NoTask:Addr}(X_NoTask:ExcC P w K mg base "NoTask" C_NoTask ["row"]) (F_names_of:Cal P w K mg base 1 "names_of" (top 27) ["tasks"] Ao):CalX P w K mg base 3 "check_ends" (top 30) ["one","other","tasks","number"] (Ar C_NoTask):=by
 refine⟨f,fd,g,?_⟩;refine fnX g.fn sc_check_ends (fun ts H Q E h=>?_) (fun cdv A outer s H E ts H3 Q E3 hr h hM=>?_)
 ·obtain⟨x,y,b,s,i,rfl,_⟩:=h;rfl
 have hu30:=Room.u30 hr;have hu31:=Room.u31 hr;obtain⟨x,y,b,s,i,rfl,hb,hd,k1,k2⟩:=h;refine⟨_,(aq (aJ (i:=4) sc_check_ends.nd (bC F_names_of hr rfl (aj (v3 2) ak)))
   (aB (bO (PW3.pt (jw (bu (cM hu30) (v3 0) (v3 1)) (jw (bu (qJ hu31) (v3 0) (v3 4) rfl) (gj (bu (qJ hu31) (v3 1) (v3 4) rfl))))) (aB (cg X_NoTask hM (hr.mono (by decide)) rfl rfl (aj (v3 3) ak))) bh))),?_⟩
 rw[show aU iK [T.str x,T.str y,T.ref b,T.int i]=[some (T.str x),some (T.str y),some (T.ref b),some (T.int i),none] from rfl];have k1':=Box.mk k1;have k2':=Box.mk k2;clear k1 k2;have mm:∀z:Str,cV true (T.str z) ((s.tks.map (·.1)).map T.str)=!decide (z∈s.tks.map (·.1)):=fun z=>by have:(T.str z∈(s.tks.map (·.1)).map T.str)↔z∈s.tks.map (·.1):=cN jV;unfold cV;simp only[this];simp
 have m1:=mm x;have m2:=mm y;have m3:pl 20 (T.str x)=true:=rfl;have m4:pl 20 (T.str y)=true:=rfl;have m5:((s.tks.map (·.1)).map T.str).all (pl 20)=true:=jW _;clear mm;refine aG fun R0 hR0=>?_;walk_at "";refine⟨b,s.tks,rfl,hb,hd,fun p hp=>?_⟩;have hS:Sub3 H3 (up3 H3 p (.lst ((s.tks.map (·.1)).map T.str))):=Sub3.new hp;have g2:up3 H3 p (.lst ((s.tks.map (·.1)).map T.str)) p=some (.lst ((s.tks.map (·.1)).map T.str)):=aA;generalize up3 H3 p (.lst ((s.tks.map (·.1)).map T.str))=H4 at hS g2;walk_at "n";unfold nmd at k1' k2';generalize hz1:decide (x∈s.tks.map (·.1))=z1 at m1 k1' k2';generalize hz2:decide (y∈s.tks.map (·.1))=z2 at m2 k1' k2';clear hz1 hz2;generalize (s.tks.map (·.1)).map T.str=ns at *;walk_at "";by_cases c1:x=y
 ·rw[if_pos (decide_eq_true c1)];exact⟨trivial,H3,hS,k1'.out (by rw[decide_eq_true c1];rfl)⟩
 rw[if_neg (fls c1)];rw[decide_eq_false c1] at k1' k2';refine⟨trivial,trivial,?_⟩;cases z1 with
 |false=>rw[if_pos (by decide)];exact⟨trivial,H3,hS,k1'.out rfl⟩
 |true =>
 rw[if_neg (by decide)];refine⟨trivial,trivial,?_⟩;cases z2 with
 |false=>rw[if_pos (by decide)];exact⟨trivial,H3,hS,k1'.out rfl⟩
 |true=>rw[if_neg (by decide)];exact Fin3.of hS (k2'.out rfl)
theorem Av {c:Nat}(h:fg c=true):48<=c/\c<=57:=by
 unfold fg at h;have e:occ false (⟨#[c]⟩:Str) ("0123456789":Str)=decide (c∈("0123456789":Str).cps.toList):=PySem.StrLaws.found_one _ c;rw[e,decide_eq_true_iff] at h;have e2:("0123456789":Str).cps.toList=[48,49,50,51,52,53,54,55,56,57]:=by decide +kernel
 rw[e2] at h;simp only[List.mem_cons,List.not_mem_nil,or_false] at h;omega
theorem K4 {l:Str}(h:lnB l=true):l.length<=60/\intText? l=some (jj l):=by
 unfold lnB at h;simp only[Bool.and_eq_true,decide_eq_true_iff] at h;obtain⟨h1,h2,_,h4⟩:=h;have el:l.cps.toList.length=l.length:=Array.length_toList;have hd:NumText.AllDigits l.cps.toList:=fun c hc=>Av (List.all_eq_true.mp h4 c hc);have hne:l.cps.toList≠[]:=fun e=>by rw[e] at el;simp at el;omega
 have e:=intText_digits hd hne (Nat.le_trans h2 (by decide));refine⟨h2,?_⟩;unfold jj;rw[e];rfl
def Hf (CN CT CK:Addr):iG:=fun ts H Q E=>∃(a b c:Addr) (w x y:Str) (s:RS) (i:Int),ts=[.ref a,.ref b,.ref c,.int i]/\H a=some (.lst ([w,x,y].map T.str))/\H b=some (.lst (s.tks.map tkT))/\s.tks.length<=8/\H c=some (.lst (s.ors.map orT)) /\
 (jM s x y=.inl .row->E CN (fs1 i) H)/\(jM s x y=.inl .twice->E CT (fs1 i) H)/\(jM s x y=.inl .task->E CK (fs1 i) H)/\∀s',jM s x y=.inr s'->Q (orT (x,y)) H
def Hg (CN CT CK:Addr):iG:=fun ts H Q E=>∃(a b c:Addr) (w x y:Str) (s:RS) (i:Int),ts=[.ref a,.ref b,.ref c,.int i]/\H a=some (.lst ([w,x,y].map T.str))/\H b=some (.lst (s.tks.map tkT))/\s.tks.length<=8/\H c=some (.lst (s.prs.map prT)) /\
 (jN s w x y=.inl .row->E CN (fs1 i) H)/\(jN s w x y=.inl .twice->E CT (fs1 i) H)/\(jN s w x y=.inl .task->E CK (fs1 i) H)/\∀s',jN s w x y=.inr s'->Q (prT (w,x,y)) H
abbrev jF:List Str:=["words","tasks","number","kinds"]
theorem sc_read_task:FnScope jF ["words","tasks","number"] (au (top 28)):=bG
theorem pU {f:Addr}{fd:FuncData}(g:G3 K mg "read_task" (top 28) ["words","tasks","number"] f fd) (B:Bl mg) (C:Cs K mg) {C_NoRow:Addr}(X_NoRow:ExcC P w K mg base "NoRow" C_NoRow ["row"]) {C_Twice:Addr}(X_Twice:ExcC P w K mg base "Twice" C_Twice ["row"]) (F_names_of:Cal P w K mg base 1 "names_of" (top 27) ["tasks"] Ao):CalX P w K mg base 3 "read_task" (top 28) ["words","tasks","number"] (Hd C_NoRow C_Twice):=by
 refine⟨f,fd,g,?_⟩;refine fnX g.fn sc_read_task (fun ts H Q E h=>?_) (fun cdv A outer s H E ts H3 Q E3 hr h hM=>?_)
 ·obtain⟨a,b,w,n,l,ks,s,i,rfl,_⟩:=h;rfl
 have hu31:=Room.u31 hr;obtain⟨a,b,w0,n,l,ks,s,i,rfl,ha,hb,ht,hk,hl,k1,k2,k3⟩:=h;refine⟨_,(aq (bO (bu Gx (aK bV rfl B.len_ bW (aj (v3 1) ak)) (g3c rfl C.MOST_TASKS)) (aB (cg X_NoRow hM (hr.mono (by decide)) rfl rfl (aj (v3 2) ak))) bh)
   (aq (aJ (i:=3) sc_read_task.nd (aV bZ rfl B.tuple_ bQ (aj (aY (v3 0) (aX ao) bf) ak)))
   (aq (bO (PW3.pt (jw (bu (mU hu31) (aN ix3 (v3 0) ao) (bC F_names_of hr rfl (aj (v3 1) ak)) rfl) (gj (bu M3 (xf rfl rfl B.len_ rfl B.set_ (v3 3)) (aK bV rfl B.len_ bW (aj (v3 3) ak)))))) (aB (cg X_Twice hM (hr.mono (by decide)) rfl rfl (aj (v3 2) ak))) bh)
   (aB (aP (aZ (aj (aN ix3 (v3 0) ao) (aj (aV El rfl B.int_ lq (aj (aN ix3 (v3 0) ao) ak)) (aj (v3 3) ak))))))))),?_⟩
 rw[show aU jF [T.ref a,T.ref b,T.int i]=[some (T.ref a),some (T.ref b),some (T.int i),none] from rfl];have hsz:sizeLine=16777216:=rfl;have k1':=Box.mk k1;have k2':=Box.mk k2;have k3':=Box.mk k3;clear k1 k2 k3;obtain⟨l60,en⟩:=K4 hl;have el:l.length<=640:=by omega
 have hsb:ks.length+1<scanBound:=by unfold scanBound;omega
 unfold lH at k1' k2' k3';simp only[List.map_cons] at ha;clear hsz hl l60;refine aG fun R0 hR0=>?_;walk_at "";by_cases c1:8<=s.tks.length
 ·rw[if_pos (decide_eq_true (by omega))];rw[if_pos c1] at k1';exact⟨trivial,H3,Sub3.refl,k1'.out rfl⟩
 rw[if_neg (fls (by omega))];rw[if_neg c1] at k2' k3';clear k1';walk_at "n";refine aG fun R0 hR0=>?_;walk_at "";intro p hp;have n1:a≠p:=bN ha hp;have n2:b≠p:=bN hb hp;have hS:Sub3 H3 (up3 H3 p (.lst (ks.map T.str))):=Sub3.new hp;have ga:up3 H3 p (.lst (ks.map T.str)) a=some (.lst (T.str w0::T.str n::T.str l::ks.map T.str)):=by rw[aC n1];exact ha
 have gb:up3 H3 p (.lst (ks.map T.str)) b=some (.lst (s.tks.map tkT)):=by rw[aC n2];exact hb
 try rw[aA]
 generalize up3 H3 p (.lst (ks.map T.str))=H4 at hS ga gb;clear ha hb hp n1 n2;walk_at "";walk_at "n";refine aG fun R0 hR0=>?_;walk_at "";refine⟨b,s.tks,rfl,gb,ht,fun q hq=>?_⟩;have m1:cV false (T.str n) ((s.tks.map (·.1)).map T.str)=decide (n∈s.tks.map (·.1)):=by have:(T.str n∈(s.tks.map (·.1)).map T.str)↔n∈s.tks.map (·.1):=cN jV;unfold cV;simp only[this];simp
 have m2:pl 20 (T.str n)=true:=rfl;have m3:((s.tks.map (·.1)).map T.str).all (pl 20)=true:=jW _;have hS2:=hS.trans (Sub3.new (o:=.lst ((s.tks.map (·.1)).map T.str)) hq);have g3:up3 H4 q (.lst ((s.tks.map (·.1)).map T.str)) q=some (.lst ((s.tks.map (·.1)).map T.str)):=aA;have g4:up3 H4 q (.lst ((s.tks.map (·.1)).map T.str)) a=_ := upa ga hq;generalize up3 H4 q (.lst ((s.tks.map (·.1)).map T.str))=H5 at hS2 g3 g4;generalize hz:decide (n∈s.tks.map (·.1))=z at m1 k2' k3';have hdup:decide (((bF ks).length:Int)<(ks.length:Int))=pM ks:=by unfold pM;rw[Bool.eq_iff_iff,decide_eq_true_iff,decide_eq_true_iff];omega
 clear hz ga gb hq hS;generalize (s.tks.map (·.1)).map T.str=ns at *;walk_at "";refine⟨trivial,trivial,?_⟩;cases z with
 |true=>rw[if_pos rfl];rw[if_pos (by rfl)] at k2';exact⟨trivial,H3,hS2,k2'.out rfl⟩
 |false =>
 rw[if_neg Bool.false_ne_true];simp only[Bool.false_or] at k2' k3';refine⟨trivial,?_⟩;cases hb2:pM ks with
 |true=>rw[if_pos rfl];rw[if_pos hb2] at k2';exact⟨trivial,H3,hS2,k2'.out rfl⟩
 |false =>
 rw[if_neg Bool.false_ne_true];rw[if_neg (by rw[hb2];exact Bool.false_ne_true)] at k3';have kq:=k3'.out _ rfl;clear k2' k3' hdup hb2;walk_at "n";simp only[tkT,sT] at kq;walk_at "";exact⟨trivial,by decide,Fin3.of hS2 kq⟩
abbrev iM:List Str:=["words","tasks","orders","number","order"]
theorem sc_read_order:FnScope iM ["words","tasks","orders","number"] (au (top 31)):=bG
theorem lZ {f:Addr}{fd:FuncData}(g:G3 K mg "read_order" (top 31) ["words","tasks","orders","number"] f fd) (B:Bl mg) {C_NoRow C_Twice C_NoTask:Addr}(C:Cs K mg) (F_check_ends:CalX P w K mg base 3 "check_ends" (top 30) ["one","other","tasks","number"] (Ar C_NoTask)) (F_check_new:CalX P w K mg base 3 "check_new" (top 29) ["told","ahead","most","number"] (Aq C_NoRow C_Twice)):CalX P w K mg base 4 "read_order" (top 31) ["words","tasks","orders","number"] (Hf C_NoRow C_Twice C_NoTask):=by
 refine⟨f,fd,g,?_⟩;refine fnX g.fn sc_read_order (fun ts H Q E h=>?_) (fun cdv A outer s H E ts H3 Q E3 hr h hM=>?_)
 ·obtain⟨a,b,c,w,x,y,s,i,rfl,_⟩:=h;rfl
 obtain⟨a,b,c,w0,x,y,s,i,rfl,ha,hb,hd,hc,k1,k2,k3,k4⟩:=h;refine⟨_,(aq (aJ (i:=4) sc_read_order.nd (aZ (aj (aN ix3 (v3 0) ao) (aj (aN ix3 (v3 0) ao) ak))))
   (aq (cJ (dY F_check_new hM (hr.mono (by decide)) rfl (aj (v3 4) (aj (v3 2) (aj (g3c rfl C.MOST_ORDERS) (aj (v3 3) ak))))))
   (aq (cJ (dY F_check_ends hM (hr.mono (by decide)) rfl (aj (aN ix3 (v3 0) ao) (aj (aN ix3 (v3 0) ao) (aj (v3 1) (aj (v3 3) ak))))))
   (aB (aP (v3 4)))))),?_⟩
 rw[show aU iM [T.ref a,T.ref b,T.ref c,T.int i]=[some (T.ref a),some (T.ref b),some (T.ref c),some (T.int i),none] from rfl];have k1':=Box.mk k1;have k2':=Box.mk k2;have k3':=Box.mk k3;have k4':=Box.mk k4;clear k1 k2 k3 k4;unfold jM at k1' k2' k3' k4';simp only[List.map_cons,List.map_nil] at ha;refine aG fun R1 hR1=>?_;walk_at "";refine⟨by decide,?_⟩;walk_at "n";refine aG fun R1 hR1=>?_;walk_at "";have hin:((orT (x,y))∈s.ors.map orT)↔(x,y)∈s.ors:=cN Ex;refine⟨(orT (x,y)),c,s.ors.map orT,28,i,rfl,hc,rfl,Kz _,fun h=>⟨H3,Sub3.refl,?_⟩,fun h hm=>⟨H3,Sub3.refl,?_⟩,fun h hm=>?_⟩
 ·rw[List.length_map] at h;rw[if_pos (by omega)] at k1';exact k1'.out rfl
 ·rw[List.length_map] at h;rw[if_neg (by omega),if_pos (hin.mp hm)] at k2';exact k2'.out rfl
 rw[List.length_map] at h;rw[if_neg (by omega),if_neg (fun z=>hm (hin.mpr z))] at k3' k4';clear k1' k2' hm hin;walk_at "n";walk_at "";refine⟨x,y,b,s,i,rfl,hb,hd,fun z=>⟨H3,Sub3.refl,?_⟩,fun z=>?_⟩
 ·rw[if_pos z] at k3';exact k3'.out rfl
 rw[if_neg (by rw[z];exact Bool.false_ne_true)] at k4';have kq:=k4'.out _ rfl;clear k3' k4';walk_at "";exact Fin3.of Sub3.refl kq
abbrev jG:List Str:=["words","tasks","pairs","number","pair"]
theorem sc_read_pair:FnScope jG ["words","tasks","pairs","number"] (au (top 32)):=bG
theorem pW {f:Addr}{fd:FuncData}(g:G3 K mg "read_pair" (top 32) ["words","tasks","pairs","number"] f fd) (B:Bl mg) {C_NoRow C_Twice C_NoTask:Addr}(C:Cs K mg) (F_check_ends:CalX P w K mg base 3 "check_ends" (top 30) ["one","other","tasks","number"] (Ar C_NoTask)) (F_check_new:CalX P w K mg base 3 "check_new" (top 29) ["told","ahead","most","number"] (Aq C_NoRow C_Twice)):CalX P w K mg base 4 "read_pair" (top 32) ["words","tasks","pairs","number"] (Hg C_NoRow C_Twice C_NoTask):=by
 refine⟨f,fd,g,?_⟩;refine fnX g.fn sc_read_pair (fun ts H Q E h=>?_) (fun cdv A outer s H E ts H3 Q E3 hr h hM=>?_)
 ·obtain⟨a,b,c,w,x,y,s,i,rfl,_⟩:=h;rfl
 obtain⟨a,b,c,w0,x,y,s,i,rfl,ha,hb,hd,hc,k1,k2,k3,k4⟩:=h;refine⟨_,(aq (aJ (i:=4) sc_read_pair.nd (aZ (aj (aN ix3 (v3 0) ao) (aj (aN ix3 (v3 0) ao) (aj (aN ix3 (v3 0) ao) ak)))))
   (aq (cJ (dY F_check_new hM (hr.mono (by decide)) rfl (aj (v3 4) (aj (v3 2) (aj (g3c rfl C.MOST_PAIRS) (aj (v3 3) ak))))))
   (aq (cJ (dY F_check_ends hM (hr.mono (by decide)) rfl (aj (aN ix3 (v3 0) ao) (aj (aN ix3 (v3 0) ao) (aj (v3 1) (aj (v3 3) ak))))))
   (aB (aP (v3 4)))))),?_⟩
 rw[show aU jG [T.ref a,T.ref b,T.ref c,T.int i]=[some (T.ref a),some (T.ref b),some (T.ref c),some (T.int i),none] from rfl];have k1':=Box.mk k1;have k2':=Box.mk k2;have k3':=Box.mk k3;have k4':=Box.mk k4;clear k1 k2 k3 k4;unfold jN at k1' k2' k3' k4';simp only[List.map_cons,List.map_nil] at ha;refine aG fun R1 hR1=>?_;walk_at "";refine⟨by decide,?_⟩;walk_at "n";refine aG fun R1 hR1=>?_;walk_at "";have hin:((prT (w0,x,y))∈s.prs.map prT)↔(w0,x,y)∈s.prs:=cN Ey;refine⟨(prT (w0,x,y)),c,s.prs.map prT,12,i,rfl,hc,rfl,KD _,fun h=>⟨H3,Sub3.refl,?_⟩,fun h hm=>⟨H3,Sub3.refl,?_⟩,fun h hm=>?_⟩
 ·rw[List.length_map] at h;rw[if_pos (by omega)] at k1';exact k1'.out rfl
 ·rw[List.length_map] at h;rw[if_neg (by omega),if_pos (hin.mp hm)] at k2';exact k2'.out rfl
 rw[List.length_map] at h;rw[if_neg (by omega),if_neg (fun z=>hm (hin.mpr z))] at k3' k4';clear k1' k2' hm hin;walk_at "n";walk_at "";refine⟨x,y,b,s,i,rfl,hb,hd,fun z=>⟨H3,Sub3.refl,?_⟩,fun z=>?_⟩
 ·rw[if_pos z] at k3';exact k3'.out rfl
 rw[if_neg (by rw[z];exact Bool.false_ne_true)] at k4';have kq:=k4'.out _ rfl;clear k3' k4';walk_at "";exact Fin3.of Sub3.refl kq
theorem pX:FnScope ["word"] ["word"] (au (top 24)):=bG
theorem pY {f:Addr}{fd:FuncData}(g:G3 K mg "is_length" (top 24) ["word"] f fd) (B:Bl mg) (C:Cs K mg):Cal P w K mg base 1 "is_length" (top 24) ["word"] Ha:=by
 refine⟨f,fd,g,?_⟩;refine fn3 g.fn pX (fun ts H Q h=>?_) (fun cdv A outer s H E ts H3 Q hr h=>?_)
 ·obtain⟨x,rfl,_⟩:=h;rfl
 have hu30:=Room.u30 hr;have hu31:=Room.u31 hr;obtain⟨x,rfl,hx,k⟩:=h;refine⟨_,(aq (bO (PW3.pt (jw (dR (qF jy jy ao (aK bV rfl B.len_ bW (aj (v3 0) ak)) (g3c rfl C.MOST_FIGURES))) (gj (bu (cM hu30) (aN ix3 (v3 0) ao) aF)))) (aB (aP ju)) bh)
   (aB (aP (aK (oZ rfl) rfl B.all_ oV (aj (dU rfl (dq (n0:=(au (top 24)).names) (N:=["word"]) (N':=["sign"]) (nt:=1) (cap:=[]) rfl rfl (by decide +kernel)) (zE (v3 0)) (fun cl pins s H C0 fp=>⟨(aR (i:=0) (show List.Nodup [("sign":Str)] by decide +kernel)),cu,(gh (mU hu31) (v3 0) (g3c rfl C.FIGURES) rfl)⟩)) ak))))),?_⟩
 rw[show aU ["word"] [T.str x]=[some (T.str x)] from rfl];have hsz:sizeLine=16777216:=rfl;have k':=Box.mk k;clear k;have h0:x.length<=16777216:=by omega
 unfold lnB at k';have el:x.cps.toList.length=x.length:=Array.length_toList;by_cases c1:1<=x.length
 ·by_cases c2:x.length<=60
  ·rw[decide_eq_true c1,decide_eq_true c2,Bool.true_and,Bool.true_and] at k';have g1:(1:Int)<=(x.length:Int):=by omega
   have g2:(x.length:Int)<=60:=by omega
   obtain⟨d,r,e1⟩:∃d r,x.cps.toList=d::r:=by
    cases hl:x.cps.toList with
    |nil=>rw[hl] at el;simp at el;omega
    |cons d r=>exact⟨d,r,rfl⟩
   have e5:atI x.cps.toList 0=some d:=by rw[e1];exact at0 d r
   have e0:((⟨#[d]⟩:Str)="0")↔hd0 x=true:=by
    unfold hd0;rw[e1,decide_eq_true_iff,List.head?_cons];constructor
    ·intro z;have:=congrArg (fun q:Str=>q.cps.toList) z;have e:("0":Str).cps.toList=[48]:=by decide +kernel
     rw[e] at this;simpa using this
    intro z;cases z;decide +kernel
   clear c1 c2 hsz e1;walk_at "";refine⟨h0,h0,?_⟩;cases hb:hd0 x with
   |true=>rw[hb] at k';rw[if_pos (by simp)];exact Fin3.of Sub3.refl k'.out
   |false =>
   rw[hb] at k';simp only[Bool.not_false,Bool.true_and] at k';rw[if_neg (by simp)];rw[show jL 1 [] [some (T.str x)]=[none] from rfl];unfold gU;refine cH (fun c:Nat=>T.str ⟨#[c]⟩) (fun c=>T.bl (fg c)) x.cps.toList [] trivial (by rw[el];exact h0) (fun c hc Q' hq=>?_) (fun p hp=>?_)
   ·unfold fg at hq;clear k' e0 e5;walk_at "";try exact hq
   rw[uC fg,dX,eF,List.all_map];exact Fin3.of (Sub3.new hp) k'.out
  have g2:¬((x.length:Int)<=60):=by omega
  have g1:(1:Int)<=(x.length:Int):=by omega
  rw[decide_eq_true c1,decide_eq_false c2] at k';clear c1 c2 hsz;walk_at "";exact⟨h0,Fin3.of Sub3.refl k'.out⟩
 have g1:¬((1:Int)<=(x.length:Int)):=by omega
 rw[decide_eq_false c1] at k';clear c1 hsz;walk_at "";exact⟨h0,Fin3.of Sub3.refl k'.out⟩
theorem gY:FnScope ["words"] ["words"] (au (top 25)):=bG
theorem gZ {f:Addr}{fd:FuncData}(g:G3 K mg "is_task_written" (top 25) ["words"] f fd) (B:Bl mg) (C:Cs K mg) (F_are_names:Cal P w K mg base 2 "are_names" (top 23) ["words"] pN) (F_is_length:Cal P w K mg base 1 "is_length" (top 24) ["word"] Ha) (F_is_name:Cal P w K mg base 1 "is_name" (top 19) ["word"] An):Cal P w K mg base 3 "is_task_written" (top 25) ["words"] Hb:=by
 refine⟨f,fd,g,?_⟩;refine fn3 g.fn gY (fun ts H Q h=>?_) (fun cdv A outer s H E ts H3 Q hr h=>?_)
 ·obtain⟨a,ws,rfl,_⟩:=h;rfl
 obtain⟨a,ws,rfl,ha,hl,hx,k⟩:=h;refine⟨_,(aq (bO (dR (qF jy jy ao (aK bV rfl B.len_ bW (aj (v3 0) ak)) (aD aM ao (g3c rfl C.MOST_KINDS)))) (aB (aP ju)) bh)
   (aB (aP (cF (bC F_is_name hr rfl (aj (aN ix3 (v3 0) ao) ak)) (cF (bC F_is_length hr rfl (aj (aN ix3 (v3 0) ao) ak)) (dm (bC F_are_names hr rfl (aj (aY (v3 0) (aX ao) bf) ak)))))))),?_⟩
 rw[show aU ["words"] [T.ref a]=[some (T.ref a)] from rfl];have hsz:sizeLine=16777216:=rfl;have k':=Box.mk k;clear k;clear hsz;walk_at "";rcases ws with _ | ⟨n,_ | ⟨l,ks⟩⟩
 ·rw[if_neg (by decide)];exact Fin3.of Sub3.refl k'.out
 ·rw[if_neg (fls (by simp))];exact Fin3.of Sub3.refl k'.out
 simp only[List.map_cons,List.length_cons] at ha hl ⊢;rw[if_pos (decide_eq_true (by omega))];have e:tkB (n::l::ks)=(decide (ks.length<=4)&&(nmB n&&(lnB l&&ks.all nmB))):=rfl;rw[e] at k';have x1:=hx n (by simp);have x2:=hx l (by simp);have x3:∀w∈ks,w.length<=1000000:=fun w hw=>hx w (by simp [hw]);clear hx e;by_cases c1:ks.length<=4
 ·rw[if_neg (by rw[decide_eq_true (by omega)];decide)];rw[decide_eq_true c1,Bool.true_and] at k';rw[at0,eF];refine⟨n,rfl,x1,?_⟩;cases hn:nmB n with
  |false=>rw[hn] at k';clear hn;walk_at "";exact Fin3.of Sub3.refl k'.out
  |true =>
  rw[hn,Bool.true_and] at k';clear hn;walk_at "";refine⟨l,rfl,x2,?_⟩;cases hm:lnB l with
  |false=>rw[hm] at k';clear hm;walk_at "";exact Fin3.of Sub3.refl k'.out
  |true =>
  rw[hm,Bool.true_and] at k';clear hm;walk_at "";intro p hp;exact⟨p,ks,rfl,aA,by omega,x3,Fin3.of (Sub3.new hp) k'.out⟩
 rw[if_pos (by rw[decide_eq_false (by omega)];rfl)];rw[decide_eq_false c1] at k';exact Fin3.of Sub3.refl k'.out
abbrev dI:List Str:=["words","behind"]
theorem sc_is_row_written:FnScope dI ["words"] (au (top 26)):=bG
theorem iQ {f:Addr}{fd:FuncData}(g:G3 K mg "is_row_written" (top 26) ["words"] f fd) (B:Bl mg) (C:Cs K mg) (F_are_names:Cal P w K mg base 2 "are_names" (top 23) ["words"] pN) (F_is_task_written:Cal P w K mg base 3 "is_task_written" (top 25) ["words"] Hb):Cal P w K mg base 4 "is_row_written" (top 26) ["words"] Hc:=by
 refine⟨f,fd,g,?_⟩;refine fn3 g.fn sc_is_row_written (fun ts H Q h=>?_) (fun cdv A outer s H E ts H3 Q hr h=>?_)
 ·obtain⟨a,ws,rfl,_⟩:=h;rfl
 have hu30:=Room.u30 hr;have hu31:=Room.u31 hr;obtain⟨a,ws,rfl,ha,h1,hl,hx,k⟩:=h;refine⟨_,(aq (aJ (i:=1) sc_is_row_written.nd (aY (v3 0) (aX ao) bf))
   (aq (bO (bu (cM hu30) (aN ix3 (v3 0) ao) aF) (aB (aP (bC F_is_task_written hr rfl (aj (v3 1) ak)))) bh)
   (aq (bO (bu (cM hu30) (aN ix3 (v3 0) ao) aF) (aB (aP (cF (qD jy jy ao (aK bV rfl B.len_ bW (aj (v3 1) ak)) (g3c rfl C.MOST_STANDS)) (dm (bC F_are_names hr rfl (aj (v3 1) ak)))))) bh)
   (aq (bO (PW3.pt (jw (bu (cM hu30) (aN ix3 (v3 0) ao) aF) (gj (bu (mU hu31) (aN ix3 (v3 0) ao) (g3c rfl C.PAIR_WORDS) rfl)))) (aB (aP (cF (gh (cM hu30) (aK bV rfl B.len_ bW (aj (v3 1) ak)) ao) (dm (bC F_are_names hr rfl (aj (v3 1) ak)))))) bh)
   (aB (aP ju)))))),?_⟩
 rw[show aU dI [T.ref a]=[some (T.ref a),none] from rfl];have hsz:sizeLine=16777216:=rfl;have k':=Box.mk k;clear k;obtain⟨w0,b,rfl⟩:∃w0 b,ws=w0::b:=by
  cases ws with
  |nil=>exact absurd h1 (by decide)
  |cons w0 b=>exact⟨w0,b,rfl⟩
 simp only[List.map_cons,List.length_cons] at ha hl;have hxb:∀w∈b,w.length<=1000000:=fun w hw=>hx w (by simp [hw]);have hbl:b.length<=1000000:=by omega
 have e:rwB (w0::b)=(if w0=("task":Str) then tkB b else if w0=("row":Str) then decide (1<=b.length)&&(decide (b.length<=8)&&b.all nmB) else if w0=("order":Str)\/w0=("with":Str)\/w0=("apart":Str) then decide (b.length=2)&&b.all nmB else false):=rfl;rw[e] at k';clear hsz e hx h1 hl;refine aG fun R1 hR1=>?_;walk_at "";intro p hp;have ne:a≠p:=bN ha hp;have g1:up3 H3 p (.lst (b.map T.str)) a=some (.lst (T.str w0::b.map T.str)):=by rw[aC ne];exact ha
 have g2:up3 H3 p (.lst (b.map T.str)) p=some (.lst (b.map T.str)):=aA;have hS:Sub3 H3 (up3 H3 p (.lst (b.map T.str))):=Sub3.new hp;generalize up3 H3 p (.lst (b.map T.str))=H4 at g1 g2 hS;clear ha hp;walk_at "n";refine aG fun R1 hR1=>?_;walk_at "";by_cases c1:w0=("task":Str)
 ·rw[if_pos (decide_eq_true c1)];rw[if_pos c1] at k';exact⟨p,b,rfl,g2,hbl,hxb,Fin3.of hS k'.out⟩
 rw[if_neg (fls c1)];rw[if_neg c1] at k';walk_at "n";clear c1;refine aG fun R1 hR1=>?_;walk_at "";by_cases c2:w0=("row":Str)
 ·rw[if_pos (decide_eq_true c2)];rw[if_pos c2] at k';by_cases d1:1<=b.length
  ·rw[if_pos (decide_eq_true (by omega))];rw[decide_eq_true d1,Bool.true_and] at k';by_cases d2:b.length<=8
   ·rw[if_pos (decide_eq_true (by omega))];rw[decide_eq_true d2,Bool.true_and] at k';exact⟨p,b,rfl,g2,hbl,hxb,Fin3.of hS k'.out⟩
   rw[if_neg (fls (by omega))];rw[decide_eq_false d2] at k';exact Fin3.of hS k'.out
  rw[if_neg (fls (by omega))];rw[decide_eq_false d1] at k';exact Fin3.of hS k'.out
 rw[if_neg (fls c2)];rw[if_neg c2] at k';walk_at "n";clear c2;have m1:cV false (T.str w0) [T.str "with",T.str "apart"]=decide (w0=("with":Str)\/w0=("apart":Str)):=by rw[Bool.eq_iff_iff,decide_eq_true_iff];exact Pk
 have m2:pl 20 (T.str w0)=true:=rfl;have m3:[T.str "with",T.str "apart"].all (pl 20)=true:=rfl;have two:(w0=("order":Str)\/w0=("with":Str)\/w0=("apart":Str))->(if decide ((b.length:Int)=2)=true then pN [T.ref p] H4 (Fin3 Q) else Fin3 Q (T.bl false) H4):=fun ho=>by
  rw[if_pos ho] at k';by_cases d1:b.length=2
  ·rw[if_pos (decide_eq_true (by omega))];rw[decide_eq_true d1,Bool.true_and] at k';exact⟨p,b,rfl,g2,hbl,hxb,Fin3.of hS k'.out⟩
  rw[if_neg (fls (by omega))];rw[decide_eq_false d1] at k';exact Fin3.of hS k'.out
 have two':=Box.mk two;clear two;refine aG fun R1 hR1=>?_;walk_at "";by_cases c3:w0=("order":Str)
 ·rw[if_pos (decide_eq_true c3)];exact two'.out (.inl c3)
 rw[if_neg (fls c3)];refine⟨trivial,trivial,?_⟩;by_cases c4:w0=("with":Str)\/w0=("apart":Str)
 ·rw[if_pos (decide_eq_true c4)];exact two'.out (.inr c4)
 rw[if_neg (fls c4)];rw[if_neg (fun z=>z.elim c3 c4)] at k';walk_at "n";clear two' c3 c4;walk_at "";exact Fin3.of hS k'.out
theorem lK (i:Nat) (v:T) (U:St3) (H:Hp3) (Q:St3->Hp3->Prop):eX i v U H Q=Q (U.set i (some v)) H:=rfl
def K5 (CN CT CK:Addr):Flt->Addr
 |.row=>CN
 |.twice=>CT
 |.task=>CK
abbrev spl (r:Str):List Str:=Txt.split r (" ":Str)
theorem rY:∀{ws:List Str},rwB ws=true->(∃n l ks,ws=("task":Str)::n::l::ks/\ks.length<=4/\lnB l=true)\/(∃x y,ws=[("order":Str),x,y])\/(∃c b,ws=("row":Str)::c::b)\/(∃w x y,ws=[w,x,y]/\(w=("with":Str)\/w=("apart":Str)))
 |w::b,h=>by
  have e:rwB (w::b)=(if w=("task":Str) then tkB b else if w=("row":Str) then decide (1<=b.length)&&(decide (b.length<=8)&&b.all nmB) else if w=("order":Str)\/w=("with":Str)\/w=("apart":Str) then decide (b.length=2)&&b.all nmB else false):=rfl
  rw[e] at h
  by_cases c1:w=("task":Str)
  ·
   rw[if_pos c1] at h
   rcases b with _ | ⟨n,_ | ⟨l,ks⟩⟩
   ·
    cases h
   ·
    cases h
   ·
    have e2:tkB (n::l::ks)=(decide (ks.length<=4)&&(nmB n&&(lnB l&&ks.all nmB))):=rfl
    rw[e2] at h
    simp only[Bool.and_eq_true,decide_eq_true_iff] at h
    exact .inl ⟨n,l,ks,by rw[c1],h.1,h.2.2.1⟩
  rw[if_neg c1] at h
  by_cases c2:w=("row":Str)
  ·
   rw[if_pos c2] at h
   rcases b with _ | ⟨c,b⟩
   ·
    cases h
   ·
    exact .inr (.inr (.inl ⟨c,b,by rw[c2]⟩))
  rw[if_neg c2] at h
  by_cases c3:w=("order":Str)\/w=("with":Str)\/w=("apart":Str)
  ·
   rw[if_pos c3,Bool.and_eq_true,decide_eq_true_iff] at h
   rcases b with _ | ⟨x,_ | ⟨y,_ | ⟨z,b⟩⟩⟩
   ·
    cases h.1
   ·
    cases h.1
   ·
    rcases c3 with c3 | c3
    ·
     exact .inr (.inl ⟨x,y,by rw[c3]⟩)
    ·
     exact .inr (.inr (.inr ⟨w,x,y,rfl,c3⟩))
   ·
    have:=h.1
    simp at this
  ·
   rw[if_neg c3] at h
   cases h
theorem du {s:RS}{ws:List Str}(h:s.sts≠[]\/rwB ws=false):stp s ws=.inl .row:=by
 unfold stp;rw[if_pos];rcases h with h | h
 ·rw[decide_eq_true h];rfl
 rw[h];simp
theorem pZ {s:RS}{n l:Str}{ks:List Str}(h1:s.sts=[]) (h2:rwB (("task":Str)::n::l::ks)=true):stp s (("task":Str)::n::l::ks)=lH s n l ks:=by
 unfold stp;rw[if_neg (by rw[h1,h2];decide)];exact if_pos rfl
theorem p7 {s:RS}{x y:Str}(h1:s.sts=[]) (h2:rwB [("order":Str),x,y]=true):stp s [("order":Str),x,y]=jM s x y:=by
 unfold stp;rw[if_neg (by rw[h1,h2];decide)];exact (if_neg (by decide +kernel)).trans (if_pos rfl)
theorem p8 {s:RS}{c:Str}{b:List Str}(h1:s.sts=[]) (h2:rwB (("row":Str)::c::b)=true):stp s (("row":Str)::c::b)=.inr { s with sts:=c::b}:=by
 unfold stp;rw[if_neg (by rw[h1,h2];decide)];cases b with
 |nil=>rfl
 |cons d b=>exact (if_neg (by decide +kernel)).trans ((if_neg (by decide +kernel)).trans (if_pos rfl))
theorem qb {s:RS}{w x y:Str}(h1:s.sts=[]) (h2:rwB [w,x,y]=true) (hw:w=("with":Str)\/w=("apart":Str)):stp s [w,x,y]=jN s w x y:=by
 unfold stp;rw[if_neg (by rw[h1,h2];decide)];refine (if_neg ?_).trans ((if_neg ?_).trans (if_neg ?_)) <;> (rcases hw with rfl | rfl <;> decide +kernel)
theorem vJ {s s':RS}{n l:Str}{ks:List Str}(h:lH s n l ks=.inr s'):s.tks.length<8/\s'={ s with tks:=s.tks++[(n,jj l,ks)]}:=by
 unfold lH at h;split at h
 ·cases h
 split at h
 ·cases h
 exact⟨by omega,(Sum.inr.inj h).symm⟩
theorem vK {s s':RS}{x y:Str}(h:jM s x y=.inr s'):s.ors.length<28/\s'={ s with ors:=s.ors++[(x,y)]}:=by
 unfold jM at h;split at h
 ·cases h
 split at h
 ·cases h
 split at h
 ·cases h
 exact⟨by omega,(Sum.inr.inj h).symm⟩
theorem vL {s s':RS}{w x y:Str}(h:jN s w x y=.inr s'):s.prs.length<12/\s'={ s with prs:=s.prs++[(w,x,y)]}:=by
 unfold jN at h;split at h
 ·cases h
 split at h
 ·cases h
 split at h
 ·cases h
 exact⟨by omega,(Sum.inr.inj h).symm⟩
structure HeldX (H0:Hp3) (a pt po pp:Addr) (rows:List T) (s:RS) (H:Hp3):Prop where
 r:H a=some (.lst rows)
 t:H pt=some (.lst (s.tks.map tkT))
 o:H po=some (.lst (s.ors.map orT))
 p:H pp=some (.lst (s.prs.map prT))
 sub:Sub3 H0 H
 t8:s.tks.length<=8
 o28:s.ors.length<=28
 p12:s.prs.length<=12
theorem HeldX.new {H0:Hp3}{a pt po pp q:Addr}{rows:List T}{s:RS}{H:Hp3}{o:O3}(h:HeldX H0 a pt po pp rows s H) (hq:H q=none):HeldX H0 a pt po pp rows s (up3 H q o) :=
 ⟨by rw[aC (bN h.r hq)];exact h.r,by rw[aC (bN h.t hq)];exact h.t,by rw[aC (bN h.o hq)];exact h.o,by rw[aC (bN h.p hq)];exact h.p,h.sub.trans (Sub3.new hq),h.t8,h.o28,h.p12⟩
theorem HeldX.tk {H0:Hp3}{a pt po pp:Addr}{rows:List T}{s:RS}{H:Hp3}{t:Str × Int × List Str}(A:Apart4 H0 a pt po pp) (h:HeldX H0 a pt po pp rows s H) (hl:s.tks.length<8):HeldX H0 a pt po pp rows { s with tks:=s.tks++[t]} (up3 H pt (.lst (s.tks.map tkT++[tkT t]))) :=
 ⟨by rw[aC A.a1];exact h.r,by rw[aA,List.map_append];rfl,by rw[aC (Ne.symm A.b1)];exact h.o,by rw[aC (Ne.symm A.b2)];exact h.p,jk A.t h.sub,by show (s.tks++[t]).length<=8;rw[List.length_append,List.length_singleton];omega,h.o28,h.p12⟩
theorem HeldX.od {H0:Hp3}{a pt po pp:Addr}{rows:List T}{s:RS}{H:Hp3}{t:Str × Str}(A:Apart4 H0 a pt po pp) (h:HeldX H0 a pt po pp rows s H) (hl:s.ors.length<28):HeldX H0 a pt po pp rows { s with ors:=s.ors++[t]} (up3 H po (.lst (s.ors.map orT++[orT t]))) :=
 ⟨by rw[aC A.a2];exact h.r,by rw[aC A.b1];exact h.t,by rw[aA,List.map_append];rfl,by rw[aC (Ne.symm A.c1)];exact h.p,jk A.o h.sub,h.t8,by show (s.ors++[t]).length<=28;rw[List.length_append,List.length_singleton];omega,h.p12⟩
theorem HeldX.pr {H0:Hp3}{a pt po pp:Addr}{rows:List T}{s:RS}{H:Hp3}{t:Str × Str × Str}(A:Apart4 H0 a pt po pp) (h:HeldX H0 a pt po pp rows s H) (hl:s.prs.length<12):HeldX H0 a pt po pp rows { s with prs:=s.prs++[t]} (up3 H pp (.lst (s.prs.map prT++[prT t]))) :=
 ⟨by rw[aC A.a3];exact h.r,by rw[aC A.b2];exact h.t,by rw[aC A.c1];exact h.o,by rw[aA,List.map_append];rfl,jk A.p h.sub,h.t8,h.o28,by show (s.prs++[t]).length<=12;rw[List.length_append,List.length_singleton];omega⟩
theorem HeldX.st {H0:Hp3}{a pt po pp:Addr}{rows:List T}{s:RS}{H:Hp3}(h:HeldX H0 a pt po pp rows s H) (b:List Str):HeldX H0 a pt po pp rows { s with sts:=b} H:=⟨h.r,h.t,h.o,h.p,h.sub,h.t8,h.o28,h.p12⟩
def Aw (CN CT CK:Addr):iG:=fun ts H Q E=>∃(a:Addr) (rows:List Str),ts=[.ref a]/\H a=some (.lst (rows.map T.str))/\rows.length<=100000/\(∀r∈rows,r.length<=900000)/\(∀f n,rdW rows=.inl (f,n)->E (K5 CN CT CK f) (fs1 n) H)/\∀s,rdW rows=.inr s->Q s.wk.enc H
abbrev jH:List Str:=["rows","tasks","orders","pairs","stands","number","row","words"]
theorem sc_read_rows:FnScope jH ["rows"] (au (top 33)):=bG
theorem qd {f:Addr}{fd:FuncData}(g:G3 K mg "read_rows" (top 33) ["rows"] f fd) (B:Bl mg) {C_Twice C_NoTask:Addr}(C:Cs K mg) {C_NoRow:Addr}(X_NoRow:ExcC P w K mg base "NoRow" C_NoRow ["row"]) (F_is_row_written:Cal P w K mg base 4 "is_row_written" (top 26) ["words"] Hc) (F_read_task:CalX P w K mg base 3 "read_task" (top 28) ["words","tasks","number"] (Hd C_NoRow C_Twice)) (F_read_order:CalX P w K mg base 4 "read_order" (top 31) ["words","tasks","orders","number"] (Hf C_NoRow C_Twice C_NoTask)) (F_read_pair:CalX P w K mg base 4 "read_pair" (top 32) ["words","tasks","pairs","number"] (Hg C_NoRow C_Twice C_NoTask)):CalX P w K mg base 5 "read_rows" (top 33) ["rows"] (Aw C_NoRow C_Twice C_NoTask):=by
 refine⟨f,fd,g,?_⟩;refine fnX g.fn sc_read_rows (fun ts H Q E h=>?_) (fun cdv A outer s H E ts H3 Q E3 hr h hM=>?_)
 ·obtain⟨a,rows,rfl,_⟩:=h;rfl
 have hu30:=Room.u30 hr;obtain⟨a,rows,rfl,ha,hl,hx,k1,k2⟩:=h;refine⟨_,(aq (aJ (i:=1) sc_read_rows.nd (bc ak))
   (aq (aJ (i:=2) sc_read_rows.nd (bc ak))
   (aq (aJ (i:=3) sc_read_rows.nd (bc ak))
   (aq (aJ (i:=4) sc_read_rows.nd (aZ ak))
   (aq (eY PassesOwn.leaving rfl (Ei rfl B.enumerate_ (v3 0)) (jd (n:=2) rfl (bI (aR (i:=5) sc_read_rows.nd) (bI (aR (i:=6) sc_read_rows.nd) fG))) (aq (aJ (i:=7) sc_read_rows.nd (cU PySem.F.plainAttrs_str PySem.F.slot_str_split PySem.F.type_str_split q8 (v3 6) (aj aF ak)))
    (aq (bO (PW3.pt (jw (bu Gw (aK bV rfl B.len_ bW (aj (v3 4) ak)) ao) (gj (dR (dO (bC F_is_row_written hr rfl (aj (v3 7) ak))))))) (aB (cg X_NoRow hM (hr.mono (by decide)) rfl rfl (aj (v3 5) ak))) bh)
    (aB (bO (bu (cM hu30) (aN ix3 (v3 7) ao) aF) (aB (cJ (cU PySem.F.plainAttrs_list PySem.F.slot_list_append PySem.F.type_list_append dF (v3 1) (aj (dY F_read_task hM (hr.mono (by decide)) rfl (aj (v3 7) (aj (v3 1) (aj (v3 5) ak)))) ak)))) (aB (bO (bu (cM hu30) (aN ix3 (v3 7) ao) aF) (aB (cJ (cU PySem.F.plainAttrs_list PySem.F.slot_list_append PySem.F.type_list_append dF (v3 2) (aj (dY F_read_order hM (hr.mono (by decide)) rfl (aj (v3 7) (aj (v3 1) (aj (v3 2) (aj (v3 5) ak))))) ak)))) (aB (bO (bu (cM hu30) (aN ix3 (v3 7) ao) aF) (aB (aJ (i:=4) sc_read_rows.nd (aV bZ rfl B.tuple_ bQ (aj (aY (v3 7) (aX ao) bf) ak)))) (aB (cJ (cU PySem.F.plainAttrs_list PySem.F.slot_list_append PySem.F.type_list_append dF (v3 3) (aj (dY F_read_pair hM (hr.mono (by decide)) rfl (aj (v3 7) (aj (v3 1) (aj (v3 3) (aj (v3 5) ak))))) ak)))))))))))))
   (aq (bO (PW3.pt (jw (bu (cM hu30) (aK bV rfl B.len_ bW (aj (v3 1) ak)) ao) (gj (bu (cM hu30) (aK bV rfl B.len_ bW (aj (v3 4) ak)) ao)))) (aB (cg X_NoRow hM (hr.mono (by decide)) rfl rfl (aj (aD aM (aK bV rfl B.len_ bW (aj (v3 0) ak)) ao) ak))) bh)
   (aB (aP (aZ (aj (aV bZ rfl B.tuple_ bQ (aj (v3 1) ak)) (aj (aV bZ rfl B.tuple_ bQ (aj (v3 2) ak)) (aj (aV bZ rfl B.tuple_ bQ (aj (v3 3) ak)) (aj (v3 4) ak))))))))))))),?_⟩
 rw[show aU jH [T.ref a]=[some (T.ref a),none,none,none,none,none,none,none] from rfl];have hsz:sizeLine=16777216:=rfl;have k1':=Box.mk k1;have k2':=Box.mk k2;clear k1 k2;walk_at "";refine⟨by omega,fun pt hpt=>?_⟩;refine⟨by omega,fun po hpo=>?_⟩;refine⟨by omega,fun pp hpp=>?_⟩;refine⟨by omega,?_⟩;obtain⟨d1,hpo⟩:=cA hpo;obtain⟨d2,hpp⟩:=cA hpp;obtain⟨d3,hpp⟩:=cA hpp;have A4:Apart4 H3 a pt po pp:=⟨bN ha hpt,bN ha hpo,bN ha hpp,Ne.symm d1,Ne.symm d3,Ne.symm d2,hpt,hpo,hpp⟩;rw[aC A4.a3,aC A4.a2,aC A4.a1,ha,G5];have hH0:HeldX H3 a pt po pp (rows.map T.str) ⟨[],[],[],[]⟩ (up3 (up3 (up3 H3 pt (.lst [])) po (.lst [])) pp (.lst [])) :=
  ⟨by rw[aC A4.a3,aC A4.a2,aC A4.a1];exact ha,by rw[aC A4.b2,aC A4.b1,aA];rfl,by rw[aC A4.c1,aA];rfl,by rw[aA];rfl,jk hpp (jk hpo (jk hpt Sub3.refl)),Nat.zero_le _,Nat.zero_le _,Nat.zero_le _⟩
 generalize (up3 (up3 (up3 H3 pt (.lst [])) po (.lst [])) pp (.lst []))=H1 at hH0;refine fJ (fun r U H=>∃(A B:List Str) (s:RS) (v5 v6 v7:Option T),rows=A++B/\r=d9 A.length (B.map T.str)/\U=[some (.ref a),some (.ref pt),some (.ref po),some (.ref pp),some (sT s.sts),v5,v6,v7]/\HeldX H3 a pt po pp (rows.map T.str) s H/\goR ⟨[],[],[],[]⟩ 1 (rows.map spl)=goR s (A.length+1) (B.map spl)) ⟨[],rows,⟨[],[],[],[]⟩,none,none,none,rfl,rfl,rfl,hH0,rfl⟩ ?_ ?_
 ·rintro U H ⟨A,B,s,v5,v6,v7,e1,e2,rfl,hH,hg⟩;have hB:B=[]:=by
   have:=congrArg List.length e2;rw[ji] at this;cases B with
   |nil=>rfl
   |cons x B=>simp at this
  subst hB;have hrd:rdW rows=if s.tks=[]\/s.sts=[] then .inl (.row,rows.length+1) else .inr s:=by unfold rdW;rw[show rows.map (fun r=>Txt.split r (" ":Str))=rows.map spl from rfl,hg];rfl
  refine⟨.inl hH.r,?_⟩;have h0:=hH.r;have h1:=hH.t;have h2:=hH.o;have h3:=hH.p;have h4:=hH.sub;clear hg hH hH0 e2 e1;simp only[sT];walk_at "";by_cases c1:s.tks=[]
  ·rw[if_pos (decide_eq_true (by rw[c1];rfl))];exact⟨trivial,H3,h4,k1'.out .row (rows.length+1) (by rw[hrd,if_pos (.inl c1)])⟩
  rw[if_neg (fls (fun z=>c1 (List.eq_nil_of_length_eq_zero (by omega))))];by_cases c2:s.sts=[]
  ·rw[if_pos (decide_eq_true (by rw[c2];rfl))];exact⟨trivial,H3,h4,k1'.out .row (rows.length+1) (by rw[hrd,if_pos (.inr c2)])⟩
  rw[if_neg (fls (fun z=>c2 (List.eq_nil_of_length_eq_zero (by omega))))];exact⟨by decide,Fin3.of h4 (k2'.out s (by rw[hrd,if_neg (fun z=>z.elim c1 c2)]))⟩
 rintro x r U H N ⟨A,B,s,v5,v6,v7,e1,e2,rfl,hH,hg⟩ hN;cases B with
 |nil=>cases e2
 |cons row B =>
 rw[List.map_cons,d9,List.cons.injEq] at e2;obtain⟨rfl,rfl⟩:=e2;have hrow:row.length<=900000:=hx row (by rw[e1];simp);obtain⟨s1,s2,s3⟩:=rT row (" ":Str);have hE:∀f,stp s (spl row)=.inl f->∀H',Sub3 H3 H'->O2 E3 (K5 C_NoRow C_Twice C_NoTask f) (fs1 ((A.length:Int)+1)) H':=fun f h H' hS=>⟨H3,hS,k1'.out f (A.length+1) (by
  unfold rdW
  rw[show rows.map (fun r=>Txt.split r (" ":Str))=rows.map spl from rfl,hg,List.map_cons]
  unfold goR
  rw[h])⟩
 have hNx:∀s',stp s (spl row)=.inr s'->∀(v7:Option T) H',HeldX H3 a pt po pp (rows.map T.str) s' H'->N [some (.ref a),some (.ref pt),some (.ref po),some (.ref pp),some (sT s'.sts),some (.int ((A.length:Int)+1)),some (.str row),v7] H':=fun s' h v7 H' hH'=>hN _ _ ⟨A++[row],B,s',_,_,_,by rw[e1];simp,by rw[List.length_append,List.length_singleton,Int.natCast_add];rfl,rfl,hH',by
  rw[hg,List.map_cons,List.length_append,List.length_singleton]
  conv=>lhs;unfold goR
  rw[h]⟩
 refine⟨.inl hH.r,?_⟩;have hEb:=Box.mk hE;have hNb:=Box.mk hNx;clear hE hNx hN hg hH0 k1' k2' e1 hx hl;have hsp:((" ":Str).length==0)=false:=by decide +kernel
 have hrl:row.length+2<=16777216:=by omega
 refine⟨rfl,?_⟩;rw[oX,lK,oX,lK,zf];show iy _ _ _ [some (.ref a),some (.ref pt),some (.ref po),some (.ref pp),some (sT s.sts),some (.int ((A.length:Int)+1)),some (.str row),v7] H;refine aG fun R0 hR0=>?_;walk_at "";refine⟨trivial,trivial,trivial,fun pw hpw=>?_⟩;rw[show Txt.split row (" ":Str)=spl row from rfl];have hH2:=hH.new (o:=.lst ((spl row).map T.str)) hpw;have gw:up3 H pw (.lst ((spl row).map T.str)) pw=some (.lst ((spl row).map T.str)):=aA;have hpw3:H3 pw=none:=by
  cases z:H3 pw with
  |none=>rfl
  |some o=>rw[hH.sub _ _ z] at hpw;cases hpw
 have nw:pw≠pt/\pw≠po/\pw≠pp:=⟨Ne.symm (bN hH.t hpw),Ne.symm (bN hH.o hpw),Ne.symm (bN hH.p hpw)⟩;generalize up3 H pw (.lst ((spl row).map T.str))=H4 at hH2 gw;clear hH hpw hrl;have s1':1<=(spl row).length:=s1;have s2':(spl row).length<=1000000:=Nat.le_trans s2 (by omega);have s3':∀w∈spl row,w.length<=1000000:=fun w hw=>Nat.le_trans (s3 w hw) (by omega);clear s1 s2 s3;generalize spl row=ws at *;walk_at "n";refine aG fun R0 hR0=>?_;simp only[sT];walk_at "";by_cases c0:s.sts=[];rotate_left
 ·rw[if_pos (decide_eq_true (by have:=List.length_pos_iff.mpr c0;omega))];exact⟨trivial,hEb.out .row (du (.inl c0)) H4 hH2.sub⟩
 rw[if_neg (fls (by rw[c0];decide))];refine⟨pw,ws,rfl,gw,s1',s2',s3',?_⟩;cases hb:rwB ws with
 |false =>
  have e:=hEb.out .row (du (.inr hb)) H4 hH2.sub
  clear hEb hNb hR0 hb
  walk_at ""
  exact⟨trivial,e⟩
 |true =>
 have hEb2:=Box.mk (fun f h=>hEb.out f h H4 hH2.sub);clear hEb;walk_at "n";clear s1' s2' s3';have n1:¬(("order":Str)="task"):=by decide +kernel
 have n2:¬(("row":Str)="task"):=by decide +kernel
 have n3:¬(("row":Str)="order"):=by decide +kernel
 rcases rY hb with ⟨n,l,ks,rfl,hks,hln⟩ | ⟨x,y,rfl⟩ | ⟨c,b,rfl⟩ | ⟨w0,x,y,rfl,hw⟩
 ·have es:=pZ c0 hb;rw[es] at hEb2 hNb;have gt:=hH2.t;have t8:=hH2.t8;clear es hb;have hEb3:=Box.mk hEb2.out;clear hEb2;simp only[List.map_cons] at gw;walk_at "";refine⟨⟨trivial,trivial⟩,pw,pt,("task":Str),n,l,ks,s,(A.length:Int)+1,rfl,gw,gt,t8,hks,hln,fun h=>hEb3.out .row h,fun h=>hEb3.out .twice h,fun s' h=>?_⟩;obtain⟨hlt,e'⟩:=vJ h;have hn:=hNb.out s' h (some (.ref pw)) (up3 H4 pt (.lst (s.tks.map tkT++[tkT (n,jj l,ks)]))) (by rw[e'];exact hH2.tk A4 hlt);rw[show s'.sts=[] by rw[e'];exact c0] at hn;have hn':=Box.mk hn;clear hEb3 hNb h e' hn;walk_at "";exact⟨by omega,hn'.out⟩
 ·have es:=p7 c0 hb;rw[es] at hEb2 hNb;have gt:=hH2.t;have go:=hH2.o;have t8:=hH2.t8;clear es hb;have hEb3:=Box.mk hEb2.out;clear hEb2;simp only[List.map_cons,List.map_nil] at gw;walk_at "";refine⟨⟨trivial,trivial⟩,pw,pt,po,("order":Str),x,y,s,(A.length:Int)+1,rfl,gw,gt,t8,go,fun h=>hEb3.out .row h,fun h=>hEb3.out .twice h,fun h=>hEb3.out .task h,fun s' h=>?_⟩;obtain⟨hlt,e'⟩:=vK h;have hn:=hNb.out s' h (some (.ref pw)) (up3 H4 po (.lst (s.ors.map orT++[orT (x,y)]))) (by rw[e'];exact hH2.od A4 hlt);rw[show s'.sts=[] by rw[e'];exact c0] at hn;have hn':=Box.mk hn;clear hEb3 hNb h e' hn;walk_at "";exact⟨by omega,hn'.out⟩
 ·have es:=p8 c0 hb;have hn:=fun q (hq:H4 q=none)=>hNb.out _ es (some (.ref pw)) (up3 H4 q (.lst (T.str c::b.map T.str))) ((hH2.new hq).st _);clear es hb hNb hEb2;have hn':=Box.mk hn;clear hn;simp only[List.map_cons] at gw;walk_at "";exact fun q hq=>hn'.out q hq
 have es:=qb c0 hb hw;rw[es] at hEb2 hNb;have gt:=hH2.t;have go:=hH2.p;have t8:=hH2.t8;have m1:¬(w0=("task":Str)):=by rcases hw with rfl | rfl <;> decide +kernel
 have m2:¬(w0=("order":Str)):=by rcases hw with rfl | rfl <;> decide +kernel
 have m3:¬(w0=("row":Str)):=by rcases hw with rfl | rfl <;> decide +kernel
 clear es hb hw n1 n2 n3;have hEb3:=Box.mk hEb2.out;clear hEb2;simp only[List.map_cons,List.map_nil] at gw;walk_at "";refine⟨⟨trivial,trivial⟩,pw,pt,pp,w0,x,y,s,(A.length:Int)+1,rfl,gw,gt,t8,go,fun h=>hEb3.out .row h,fun h=>hEb3.out .twice h,fun h=>hEb3.out .task h,fun s' h=>?_⟩;obtain⟨hlt,e'⟩:=vL h;have hn:=hNb.out s' h (some (.ref pw)) (up3 H4 pp (.lst (s.prs.map prT++[prT (w0,x,y)]))) (by rw[e'];exact hH2.pr A4 hlt);rw[show s'.sts=[] by rw[e'];exact c0] at hn;have hn':=Box.mk hn;clear hEb3 hNb h e' hn;walk_at "";exact⟨by omega,hn'.out⟩
theorem Ax (b:List Str):rwB (("task":Str)::b)=tkB b:=by
 unfold rwB;exact if_pos rfl
theorem K6 {s s':RS}{ws:List Str}(h:stp s ws=.inr s'):s.sts=[]/\rwB ws=true:=by
 refine⟨Decidable.byContradiction fun z=>?_,?_⟩
 ·rw[du (.inl z)] at h;cases h
 cases e:rwB ws with
 |true=>rfl
 |false =>
 rw[du (.inr e)] at h;cases h
theorem K7 {c:Nat}(h:az c=true):97<=c/\c<=122:=by
 unfold az at h;have e:occ false (⟨#[c]⟩:Str) ("abcdefghijklmnopqrstuvwxyz":Str)=decide (c∈("abcdefghijklmnopqrstuvwxyz":Str).cps.toList):=PySem.StrLaws.found_one _ c;rw[e,decide_eq_true_iff] at h;have e2:("abcdefghijklmnopqrstuvwxyz":Str).cps.toList=(List.range 26).map (97+·):=by decide +kernel
 rw[e2] at h;obtain⟨i,hi,rfl⟩:=List.mem_map.mp h;have:=List.mem_range.mp hi;omega
theorem Hh {x:Str}(h:nmB x=true):isNm x:=by
 unfold nmB at h;simp only[Bool.and_eq_true,decide_eq_true_iff,List.all_eq_true] at h;exact⟨h.1,h.2.1,fun c hc=>K7 (h.2.2 c hc)⟩
theorem nM {x:Str}(h:isNm x):nmB x=true:=by
 unfold nmB;rw[decide_eq_true h.lo,decide_eq_true h.hi,Bool.true_and,Bool.true_and,List.all_eq_true];exact fun c hc=>Fi (h.az c hc)
theorem Ay {ws:List Str}(h:ws.all nmB=true):∀x∈ws,isNm x:=fun x hx=>Hh (List.all_eq_true.mp h x hx)
theorem Az {ws:List Str}(h:∀x∈ws,isNm x):ws.all nmB=true:=List.all_eq_true.mpr fun x hx=>nM (h x hx)
theorem Hi:∀(cs:List Nat) (a:Nat),(∀c∈cs,c<=57)->cs.foldl (fun acc c=>acc*10+(c - 48)) a<(a+1)*10^cs.length
 |[],a,_=>by simp
 |c::cs,a,h=>by
  have:=Hi cs (a*10+(c - 48)) fun d hd=>h d (List.mem_cons_of_mem _ hd)
  have hc:=h c List.mem_cons_self
  rw[List.foldl_cons,List.length_cons,Nat.pow_succ]
  refine Nat.lt_of_lt_of_le this ?_
  rw[Nat.mul_comm (10^cs.length) 10,<- Nat.mul_assoc]
  exact Nat.mul_le_mul_right _ (by omega)
theorem Hj:∀(cs:List Nat) (a:Nat),a<=cs.foldl (fun acc c=>acc*10+(c - 48)) a
 |[],a=>Nat.le_refl _
 |c::cs,a=>Nat.le_trans (by omega) (Hj cs (a*10+(c - 48)))
theorem Pn {l:Str}(h:lnB l=true):1<=jj l/\jj l<10^60:=by
 unfold lnB at h;simp only[Bool.and_eq_true,decide_eq_true_iff] at h;obtain⟨h1,h2,h3,h4⟩:=h;have el:l.cps.toList.length=l.length:=Array.length_toList;have hd:NumText.AllDigits l.cps.toList:=fun c hc=>Av (List.all_eq_true.mp h4 c hc);have hne:l.cps.toList≠[]:=fun e=>by rw[e] at el;simp at el;omega
 have e:=intText_digits hd hne (Nat.le_trans h2 (by decide));unfold jj;rw[e];show (1:Int)<=((NumText.digitsVal l.cps.toList:Nat):Int)/\((NumText.digitsVal l.cps.toList:Nat):Int)<10^60;have u:=Hi l.cps.toList 0 fun c hc=>(hd c hc).2;have u2:(10:Nat)^l.cps.toList.length<=10^60:=Nat.pow_le_pow_right (by decide) (by rw[el];exact h2);have v:1<=NumText.digitsVal l.cps.toList:=by
  cases hl:l.cps.toList with
  |nil=>exact absurd hl hne
  |cons c cs =>
  unfold hd0 at h3;rw[hl] at h3 hd;have hc:c≠48:=fun z=>by rw[z] at h3;cases h3
  have:=hd c List.mem_cons_self;exact Nat.le_trans (by omega) (Hj cs (0*10+(c - 48)))
 unfold NumText.digitsVal at v ⊢;rw[Nat.zero_add,Nat.one_mul] at u;have u3:=Nat.lt_of_lt_of_le u u2;have k60:(((10:Nat)^60:Nat):Int)=10^60:=by decide
 exact⟨Int.ofNat_le.mpr v,by rw[<- k60];exact Int.ofNat_lt.mpr u3⟩
theorem Hk {n:Int}(h1:1<=n) (h2:n<10^60):lnB ((toString n:String):Str)=true/\jj ((toString n:String):Str)=n:=by
 have en:intText? ((toString n:String):Str)=some n:=num_reads h1 h2;refine⟨?_,by unfold jj;rw[en];rfl⟩;have l1:=Aj h1;have l2:=iJ h1 h2;obtain⟨m,rfl,hm⟩:=jY h1;have e1:=c7 m;have e2:∀c∈(Nat.toDigits 10 m).map Char.toNat,48<=c/\c<=57:=fun c hc=>pL hc;obtain⟨d,r,e3,e4⟩:=rR m hm;rw[e3] at e1 e2;unfold lnB;rw[decide_eq_true l1,decide_eq_true l2,Bool.true_and,Bool.true_and];unfold hd0;rw[e1,List.head?_cons,decide_eq_false (fun z=>e4 (Option.some.inj z)),Bool.not_false,Bool.true_and,List.all_eq_true];exact fun c hc=>Fg (e2 c hc)
theorem Ba:∀(xs ys:List Str),ys.Nodup->ys.length+xs.length<=(xs.foldl dz ys).length->(ys++xs).Nodup
 |[],ys,h,_=>by rw[List.append_nil];exact h
 |x::xs,ys,h,hl=>by
  rw[List.foldl_cons,List.length_cons] at hl
  unfold dz at hl
  cases hx:ys.any (·==x) with
  |true =>
   rw[hx,if_pos rfl] at hl
   have:=rA xs ys
   have e:xs.foldl dz ys=xs.foldl (fun U v=>if U.any (·==v) then U else U++[v]) ys:=rfl
   rw[e] at this
   omega
  |false =>
   rw[hx,if_neg Bool.false_ne_true] at hl
   have hn:x∉ys:=fun z=>by
    have:=List.any_eq_false.mp hx x z
    simp at this
   have:=Ba xs (ys++[x]) (fC h hn) (by rw[List.length_append,List.length_singleton];exact Nat.le_trans (by omega) hl)
   simpa using this
theorem K8 {ks:List Str}(h:pM ks=false):ks.Nodup:=by
 unfold pM at h;have:=of_decide_eq_false h;have u:=Ba ks [] List.nodup_nil (by rw[List.length_nil,Nat.zero_add];exact Nat.not_lt.mp this);simpa using u
theorem K9 {ks:List Str}(h:ks.Nodup):pM ks=false:=by
 unfold pM;rw[lD h];exact decide_eq_false (Nat.lt_irrefl _)
structure RsOk (s:RS):Prop where
 t8:s.tks.length<=8
 tk:∀t∈s.tks,tkOk t
 nd:(s.tks.map (·.1)).Nodup
 os:s.ors.length<=28
 od:s.ors.Nodup
 oo:∀o∈s.ors,o.1≠o.2/\o.1∈s.tks.map (·.1)/\o.2∈s.tks.map (·.1)
 ps:s.prs.length<=12
 pd:s.prs.Nodup
 pp:∀p∈s.prs,(p.1="with"\/p.1="apart")/\p.2.1≠p.2.2/\p.2.1∈s.tks.map (·.1)/\p.2.2∈s.tks.map (·.1)
 r8:s.sts.length<=8
 rn:∀x∈s.sts,isNm x
theorem nmd_no {s:RS}{x y:Str}:nmd s x y=false↔x≠y/\x∈s.tks.map (·.1)/\y∈s.tks.map (·.1):=by
 unfold nmd;simp only[Bool.or_eq_false_iff,decide_eq_false_iff_not,Bool.not_eq_false',decide_eq_true_iff]
theorem xF {s s':RS}{ws:List Str}(h:stp s ws=.inr s') (k:RsOk s):RsOk s':=by
 obtain⟨h1,h2⟩:=K6 h;rcases rY h2 with ⟨n,l,ks,rfl,hks,hln⟩ | ⟨x,y,rfl⟩ | ⟨c,b,rfl⟩ | ⟨w0,x,y,rfl,hw⟩
 ·rw[pZ h1 h2] at h;have ht:tkB (n::l::ks)=true:=by rw[<- Ax];exact h2
  have e2:tkB (n::l::ks)=(decide (ks.length<=4)&&(nmB n&&(lnB l&&ks.all nmB))):=rfl;rw[e2] at ht;simp only[Bool.and_eq_true,decide_eq_true_iff] at ht;obtain⟨hlt,e⟩:=vJ h;unfold lH at h;rw[if_neg (by omega)] at h;cases hc:(decide (n∈s.tks.map (·.1))||pM ks) with
  |true=>rw[hc,if_pos rfl] at h;cases h
  |false =>
  rw[Bool.or_eq_false_iff,decide_eq_false_iff_not] at hc;rw[e];have sub:∀{z:Str},z∈s.tks.map (·.1)->z∈(s.tks++[(n,jj l,ks)]).map (·.1):=fun hz=>by rw[List.map_append];exact List.mem_append_left _ hz
  have lv:=Pn ht.2.2.1;refine⟨by simp only[List.length_append,List.length_singleton];omega,fun t ht'=>?_,by rw[List.map_append];exact fC k.nd hc.1,k.os,k.od,fun o ho=>⟨(k.oo o ho).1,sub (k.oo o ho).2.1,sub (k.oo o ho).2.2⟩,k.ps,k.pd,fun p hp=>⟨(k.pp p hp).1,(k.pp p hp).2.1,sub (k.pp p hp).2.2.1,sub (k.pp p hp).2.2.2⟩,k.r8,k.rn⟩;rcases List.mem_append.mp ht' with h' | h'
  ·exact k.tk t h'
  rw[List.mem_singleton.mp h'];exact⟨Hh ht.2.1,lv.1,lv.2,⟨Ay ht.2.2.2,K8 hc.2⟩,ht.1⟩
 ·rw[p7 h1 h2] at h;obtain⟨hlt,e⟩:=vK h;unfold jM at h;rw[if_neg (by omega)] at h;by_cases hc:(x,y)∈s.ors
  ·rw[if_pos hc] at h;cases h
  rw[if_neg hc] at h;cases hm:nmd s x y with
  |true=>rw[hm,if_pos rfl] at h;cases h
  |false =>
  rw[e];refine⟨k.t8,k.tk,k.nd,by simp only[List.length_append,List.length_singleton];omega,fC k.od hc,fun o ho=>?_,k.ps,k.pd,k.pp,k.r8,k.rn⟩;rcases List.mem_append.mp ho with h' | h'
  ·exact k.oo o h'
  rw[List.mem_singleton.mp h'];exact nmd_no.mp hm
 ·rw[p8 h1 h2] at h;cases h;have e:rwB (("row":Str)::c::b)=(decide (1<=(c::b).length)&&(decide ((c::b).length<=8)&&(c::b).all nmB)):=rfl;rw[e] at h2;simp only[Bool.and_eq_true,decide_eq_true_iff] at h2;exact⟨k.t8,k.tk,k.nd,k.os,k.od,k.oo,k.ps,k.pd,k.pp,h2.2.1,Ay h2.2.2⟩
 rw[qb h1 h2 hw] at h;obtain⟨hlt,e⟩:=vL h;unfold jN at h;rw[if_neg (by omega)] at h;by_cases hc:(w0,x,y)∈s.prs
 ·rw[if_pos hc] at h;cases h
 rw[if_neg hc] at h;cases hm:nmd s x y with
 |true=>rw[hm,if_pos rfl] at h;cases h
 |false =>
 rw[e];refine⟨k.t8,k.tk,k.nd,k.os,k.od,k.oo,by simp only[List.length_append,List.length_singleton];omega,fC k.pd hc,fun o ho=>?_,k.r8,k.rn⟩;rcases List.mem_append.mp ho with h' | h'
 ·exact k.pp o h'
 rw[List.mem_singleton.mp h'];exact⟨hw,nmd_no.mp hm⟩
theorem rZ:∀{rows:List (List Str)}{s s':RS}{n:Nat},goR s n rows=.inr s'->RsOk s->RsOk s'
 |[],s,s',n,h,k=>by cases h;exact k
 |ws::r,s,s',n,h,k=>by
  unfold goR at h
  cases e:stp s ws with
  |inl f=>rw[e] at h;cases h
  |inr t=>rw[e] at h;exact rZ (rows:=r) h (xF e k)
theorem Hl {rows:List Str}{s:RS}(h:rdW rows=.inr s):WkOk s.wk:=by
 unfold rdW at h;cases e:goR ⟨[],[],[],[]⟩ 1 (rows.map fun r=>Txt.split r (" ":Str)) with
 |inl f=>rw[e] at h;cases h
 |inr t =>
 rw[e] at h;dsimp only at h;by_cases c:t.tks=[]\/t.sts=[]
 ·rw[if_pos c] at h;cases h
 rw[if_neg c] at h;cases h;have k:=rZ e ⟨Nat.zero_le _,(fun _ h=>nomatch h),List.nodup_nil,Nat.zero_le _,List.nodup_nil,(fun _ h=>nomatch h),Nat.zero_le _,List.nodup_nil,(fun _ h=>nomatch h),Nat.zero_le _,(fun _ h=>nomatch h)⟩;exact⟨List.length_pos_iff.mpr fun z=>c (.inl z),k.t8,k.tk,k.nd,k.os,k.od,k.oo,k.ps,k.pd,k.pp,List.length_pos_iff.mpr fun z=>c (.inr z),k.r8,k.rn⟩
theorem dw (s:RS) (n:Nat) (ws:List Str) (r:List (List Str)):goR s n (ws::r)=match stp s ws with
  |.inl f=>.inl (f,n)
  |.inr s'=>goR s' (n+1) r:=rfl
theorem jZ:∀(A B:List (List Str)) (s:RS) (n:Nat),goR s n (A++B)=match goR s n A with
  |.inl f=>.inl f
  |.inr s'=>goR s' (n+A.length) B
 |[],B,s,n=>rfl
 |ws::A,B,s,n=>by
  rw[List.cons_append,dw,dw]
  cases e:stp s ws with
  |inl f=>rfl
  |inr t =>
   dsimp only
   rw[jZ A B t (n+1),List.length_cons,Nat.add_assoc,Nat.add_comm 1]
def stL (L:List Rw):RS:=⟨tks L,ods L,prs L,[]⟩
theorem Timely.fit:∀{A B L:List Rw}{r:Rw},Timely L (A++r::B)->fits (L++A) r
 |[],B,L,r,h=>by rw[List.append_nil];exact h.1
 |x::A,B,L,r,h=>by
  have:=Timely.fit (A:=A) (L:=L++[x]) h.2
  simpa using this
theorem uF {ws:List Str}(h:RowW ws):rwB ws=true:=by
 cases h with
 |@tk t ht =>
  show rwB (("task":Str)::t.1::((toString t.2.1:String):Str)::t.2.2)=true
  rw[Ax]
  show (decide (t.2.2.length<=4)&&(nmB t.1&&(lnB ((toString t.2.1:String):Str)&&t.2.2.all nmB)))=true
  rw[decide_eq_true ht.kl,nM ht.nm,(Hk ht.lo ht.hi).1,Az ht.ks.nm]
  rfl
 |@od a b h1 h2 =>
  show (decide ([a,b].length=2)&&[a,b].all nmB)=true
  simp only[List.all_cons,List.all_nil,nM h1,nM h2]
  rfl
 |@pr z a b h0 h1 h2 =>
  have e:rwB [z,a,b]=(decide ([a,b].length=2)&&[a,b].all nmB):=by rcases h0 with rfl | rfl <;> rfl
  rw[e]
  simp only[List.all_cons,List.all_nil,nM h1,nM h2]
  rfl
 |@row xs h1 h8 hx =>
  show (decide (1<=xs.length)&&(decide (xs.length<=8)&&xs.all nmB))=true
  rw[decide_eq_true h1,decide_eq_true h8,Az hx]
  rfl
theorem Bb {A B:List Rw}{r:Rw}{W:Wk}(g:Goes (A++r::B) W):stp (stL A) r.words=.inr (stL (A++[r])):=by
 have hr:=uF (g.row (r:=r) (by simp));have ft:=Timely.fit (L:=[]) g.tm;rw[List.nil_append] at ft;have gt:=g.t;have go:=g.o;have gp:=g.p;rw[b7] at gt;rw[cL] at go;rw[cX] at gp;have t8:=g.ok.t8;have o28:=g.ok.os;have p12:=g.ok.ps;have nd:=g.ok.nd;have od:=g.ok.od;have pd:=g.ok.pd;have tk:=g.ok.tk;have oo:=g.ok.oo;have pp:=g.ok.pp;rw[<- gt] at t8 nd tk;rw[<- go] at o28 od oo;rw[<- gp] at p12 pd pp;clear gt go gp g;cases r with
 |tk t =>
  obtain⟨nm,n,ks⟩:=t;simp only[tks] at t8 nd tk;have ht:=tk (nm,n,ks) (by simp);refine (pZ (s:=stL A) (n:=nm) (l:=((toString n:String):Str)) (ks:=ks) rfl hr).trans ?_;unfold lH;rw[List.length_append,List.length_cons] at t8;rw[if_neg (show ¬(8<=(stL A).tks.length) by show ¬(8<=(tks A).length);omega)];have hn:nm∉(stL A).tks.map (·.1):=fun z=>by rw[List.map_append,List.map_cons,List.nodup_append] at nd;exact nd.2.2 nm z nm List.mem_cons_self rfl
  rw[decide_eq_false hn,K9 ht.ks.nd];refine (if_neg Bool.false_ne_true).trans ?_;have ev:jj ((toString n:String):Str)=n:=(Hk ht.lo ht.hi).2;simp only[ev,stL,b7,cL,cX,tks,ods,prs,List.append_nil]
 |od o =>
  obtain⟨x,y⟩:=o;simp only[ods] at o28 od oo;refine (p7 (s:=stL A) rfl hr).trans ?_;unfold jM;rw[List.length_append,List.length_cons] at o28;rw[if_neg (show ¬(28<=(stL A).ors.length) by show ¬(28<=(ods A).length);omega)];have hn:(x,y)∉(stL A).ors:=fun z=>by rw[List.nodup_append] at od;exact od.2.2 _ z _ List.mem_cons_self rfl
  rw[if_neg hn];have hm:nmd (stL A) x y=false:=nmd_no.mpr ⟨(oo (x,y) (by simp)).1,ft⟩;rw[hm];refine (if_neg Bool.false_ne_true).trans ?_;simp only[stL,b7,cL,cX,tks,ods,prs,List.append_nil]
 |pr o =>
 obtain⟨w,x,y⟩:=o;simp only[prs] at p12 pd pp;have hp:=pp (w,x,y) (by simp);refine (qb (s:=stL A) rfl hr hp.1).trans ?_;unfold jN;rw[List.length_append,List.length_cons] at p12;rw[if_neg (show ¬(12<=(stL A).prs.length) by show ¬(12<=(prs A).length);omega)];have hn:(w,x,y)∉(stL A).prs:=fun z=>by rw[List.nodup_append] at pd;exact pd.2.2 _ z _ List.mem_cons_self rfl
 rw[if_neg hn];have hm:nmd (stL A) x y=false:=nmd_no.mpr ⟨hp.2.1,ft⟩;rw[hm];refine (if_neg Bool.false_ne_true).trans ?_;simp only[stL,b7,cL,cX,tks,ods,prs,List.append_nil]
theorem Hm:∀(B A:List Rw) (n:Nat) {W:Wk},Goes (A++B) W->goR (stL A) n (B.map Rw.words)=.inr (stL (A++B))
 |[],A,n,W,g=>by rw[List.append_nil];rfl
 |r::B,A,n,W,g=>by
  rw[List.map_cons]
  unfold goR
  rw[Bb g]
  have:=Hm B (A++[r]) (n+1) (W:=W) (by simpa using g)
  simpa using this
theorem Bc {L:List Rw}{W:Wk}(g:Goes L W):(d7 L W).map (fun r=>Txt.split r (" ":Str))=L.map Rw.words++[("row":Str)::W.row]:=by
 unfold d7;rw[List.map_append,List.map_map,List.map_singleton];congr 1
 ·exact List.map_congr_left fun r hr=>(g.row hr).split
 exact congrArg (fun x=>[x]) g.last.split
theorem vM {L:List Rw}{W:Wk}(g:Goes L W):rdW (d7 L W)=.inr ⟨W.tasks,W.orders,W.pairs,W.row⟩:=by
 unfold rdW;have e:=Hm L [] 1 (W:=W) g;rw[Bc g,jZ,show (⟨[],[],[],[]⟩:RS)=stL [] from rfl,e,List.nil_append];dsimp only;unfold goR;have hr:stp (stL L) (("row":Str)::W.row)=.inr ⟨W.tasks,W.orders,W.pairs,W.row⟩:=by
  have h:=uF g.last;have r1:=g.ok.r1;have et:=g.t;have eo:=g.o;have ep:=g.p;cases hw:W.row with
  |nil=>rw[hw] at r1;cases r1
  |cons c b =>
  rw[hw] at h;refine (p8 (s:=stL L) rfl h).trans ?_;unfold stL;rw[et,eo,ep]
 rw[hr];dsimp only;unfold goR;dsimp only;have t1:=g.ok.t1;have r1:=g.ok.r1;rw[if_neg];intro z;rcases z with z | z
 ·rw[z] at t1;cases t1
 rw[z] at r1;cases r1
theorem vN {W:Wk}(h:WkOk W):rdW (Txt.split (jD W) ("\n":Str))=.inr ⟨W.tasks,W.orders,W.pairs,W.row⟩:=by
 have g:=gW h;have e:jD W=Txt.join "\n" (d7 (bA W) W):=by rw[dB];rfl
 rw[e,g.split];exact vM g
def Bd:Sp3:=fun ts H Q=>∃(a:Addr) (ns:List Int),ts=[.ref a]/\H a=some (.rol (ns.map T.int))/\ns.length<=63/\∀(d c:Addr) (H':Hp3),Sub3 H H'->H d=none->H c=none->Deck H' d c->Q (.ref d) H'
abbrev Be:List Str:=["_law_script","_law_cells","_law_mixed"]
theorem sc_deck:FnScope Be ["_law_script"] (au (top 36)):=bG
theorem Fp {f:Addr}{fd:FuncData}(g:G3 K mg "_law_deck" (top 36) ["_law_script"] f fd) (B:Bl mg):Cal P w K mg base 1 "_law_deck" (top 36) ["_law_script"] Bd:=by
 refine⟨f,fd,g,?_⟩;refine fn3 g.fn sc_deck (fun ts H Q h=>?_) (fun cdv A outer s H E ts H3 Q hr h=>?_)
 ·obtain⟨a,ns,rfl,_⟩:=h;rfl
 have hu30:=Room.u30 hr;obtain⟨a,ns,rfl,ha,hlen,k⟩:=h;refine⟨_,(aq (aJ (i:=1) sc_deck.nd (aD aM (aY (v3 0) bf (aX ao)) (bc (aj ao ak))))
   (aq (aJ (i:=2) sc_deck.nd (gh (cM hu30) (aD bR (aN ix3 (v3 1) ao) ao) ao))
   (aq (tE (aD fH (aN ix3 (v3 1) ao) ao) (yE (v3 1) ao mV))
   (aB (aP (Dt (eZ (v3 1) (eZ ao (eZ ao (eZ (aD aM ao (aD bR (aK (Jl rfl) rfl B.sum_ Jo (aj (v3 1) ak)) ao)) (eZ (v3 2) Dr))))))))))),?_⟩
 rw[show aU Be [T.ref a]=[some (T.ref a),none,none] from rfl];have hcut:cj (ns.map T.int) none (some 63)=ns.map T.int:=by rw[show (63:Int)=((63:Nat):Int) from rfl,oY,List.take_of_length_le (by simpa using hlen)]
 obtain⟨m0,mr,hm⟩:∃m0 mr,ns++[0]=m0::mr:=by cases ns <;> exact⟨_,_,rfl⟩
 have hm':ns.map T.int++[T.int 0]=T.int m0::mr.map T.int:=by have:=congrArg (List.map T.int) hm;simpa using this
 have hml:mr.length+1=ns.length+1:=by have:=congrArg List.length hm;simpa using this.symm
 walk_at "";intro p hp;refine⟨by decide,fun p1 hp1=>?_⟩;obtain⟨n1,hp1⟩:=cA hp1;have n1':=Ne.symm n1;walk_at "";refine⟨?_,fun p2 hp2=>?_⟩
 ·have:sizeLine=16777216:=rfl;omega
 obtain⟨n2,hp2⟩:=cA hp2;obtain⟨n3,hp2⟩:=cA hp2;walk_at "";refine⟨by decide,⟨by decide,by decide +kernel⟩,fun p3 hp3=>?_⟩;obtain⟨n4,hp3⟩:=cA hp3;obtain⟨n5,hp3⟩:=cA hp3;obtain⟨n6,hp3⟩:=cA hp3;have n4':=Ne.symm n4;have hi:ints3 (T.int (m0 / 2)::List.map T.int mr)=some ((m0 / 2)::mr):=mW ((m0 / 2)::mr);walk_at "";refine⟨by decide,True.intro,by decide,?_⟩;have b0:=Int.emod_nonneg ((m0 / 2)::mr).sum (show (2147483646:Int)≠0 by decide);have b1:=Int.emod_lt_of_pos ((m0 / 2)::mr).sum (show (0:Int)<2147483646 by decide);refine Fin3.of Sub3.refl (k p3 p2 _ ?_ hp3 hp2 ⟨⟨12,0,_,_,aA,by omega,by omega⟩,(m0 / 2)::mr,?_,by simp,by simp only[List.length_cons];omega⟩)
 ·intro b o hb;rw[aC (bN hb hp3),aC (bN hb hp2),aC (bN hb hp1),aC (bN hb hp)];exact hb
 rw[aC n4',aA];rfl
def vO:Sp3:=fun ts H Q=>∃d c,ts=[.ref d]/\Deck H d c/\∀(n:Int) (H':Hp3),0<=n->n<10^60->Drew d c H H'->Q (.int n) H'
abbrev vP:List Str:=["_law_deck_here","_law_total","_law_k"]
theorem sc_great:FnScope vP ["_law_deck_here"] (au (top 38)):=bG
theorem Bf {f:Addr}{fd:FuncData}(g:G3 K mg "_law_great" (top 38) ["_law_deck_here"] f fd) (B:Bl mg) (F_next:Cal P w K mg base 1 "_law_next" (top 37) ["_law_deck_here"] lJ):Cal P w K mg base 2 "_law_great" (top 38) ["_law_deck_here"] vO:=by
 refine⟨f,fd,g,?_⟩;refine fn3 g.fn sc_great (fun ts H Q h=>?_) (fun cdv A outer s H E ts H3 Q hr h=>?_)
 ·obtain⟨d,c,rfl,_⟩:=h;rfl
 obtain⟨d,c,rfl,D,k⟩:=h;refine⟨_,(aq (aJ (i:=1) sc_great.nd ao)
   (aq (eY PassesOwn.never rfl (b8 rfl B.range_ (aj ao ak)) (aR (i:=2) sc_great.nd) (aB (aJ (i:=1) sc_great.nd (aD aM (aD jf (v3 1) (aD kJ ao ao)) (bC F_next hr rfl (aj (v3 0) ak))))))
   (aB (aP (v3 1))))),?_⟩
 rw[show aU vP [T.ref d]=[some (T.ref d),none,none] from rfl];walk_at "";refine⟨True.intro,by decide,by decide,?_⟩;refine fJ (fun r U H'=>∃(j:Nat) (t:Int) (v:Option T),U=[some (.ref d),some (.int t),v]/\j+r.length=5/\0<=t/\t<10^(12*j)/\Drew d c H3 H') ⟨0,0,none,rfl,rfl,by decide,by decide,D.refl⟩ ?_ ?_
 ·rintro U H' ⟨j,t,v,rfl,hj,t0,t1,hD⟩;refine⟨trivial,?_⟩;walk_at "";simp only[List.length_nil,Nat.add_zero] at hj;subst hj;exact Fin3.of Sub3.refl (k t H' t0 t1 hD)
 rintro x r U H' N ⟨j,t,v,rfl,hj,t0,t1,hD⟩ hN;refine⟨trivial,?_⟩;have tn:(10:Int)^Int.toNat 12=1000000000000:=by decide
 walk_at "";refine⟨⟨by decide,by decide,by decide⟩,.inr ⟨by decide,by decide⟩,d,c,rfl,hD.deck,fun n H2 n0 n1 hD2=>?_⟩;walk_at "";refine hN _ _ ⟨j+1,t*1000000000000+n,_,rfl,by simp only[List.length_cons] at hj;omega,by omega,?_,hD.trans hD2⟩;rw[show 12*(j+1)=12*j+12 by omega,Int.pow_add];generalize (10:Int)^(12*j)=X at t1;have:(10:Int)^12=1000000000000:=by decide
 omega
def Bg:Sp3:=fun ts H Q=>∃(d c p:Addr) (ws:List Str),ts=[.ref d,.ref p]/\Deck H d c/\p≠d/\p≠c/\H p=some (.lst (ws.map T.str))/\ws.length<=8/\(∀x∈ws,isNm x)/\∀(x:Str) (H':Hp3),isNm x->x∉ws->Drew d c H H'->Q (.str x) H'
def vQ:Sp3:=fun ts H Q=>∃(d c:Addr) (n:Int),ts=[.ref d,.int n]/\Deck H d c/\0<=n/\n<=9/\∀(p:Addr) (ws:List Str) (H':Hp3),H p=none->H' p=some (.lst (ws.map T.str))->(ws.length:Int)=n->Nms ws->Deck H' d c->(∀b,b≠d->b≠c->b≠p->H' b=H b)->Q (.ref p) H'
abbrev vR:List Str:=["_law_deck_here","_law_many","_law_words_here","_law_k"]
theorem sc_words:FnScope vR ["_law_deck_here","_law_many"] (au (top 40)):=bG
theorem Bh {f:Addr}{fd:FuncData}(g:G3 K mg "_law_words" (top 40) ["_law_deck_here","_law_many"] f fd) (B:Bl mg) (F_word:Cal P w K mg base 2 "_law_word" (top 39) ["_law_deck_here","_law_words_here"] Bg):Cal P w K mg base 3 "_law_words" (top 40) ["_law_deck_here","_law_many"] vQ:=by
 refine⟨f,fd,g,?_⟩;refine fn3 g.fn sc_words (fun ts H Q h=>?_) (fun cdv A outer s H E ts H3 Q hr h=>?_)
 ·obtain⟨d,c,n,rfl,_⟩:=h;rfl
 obtain⟨d,c,n,rfl,D,n0,n8,k⟩:=h;refine⟨_,(aq (aJ (i:=2) sc_words.nd (bc ak))
   (aq (eY PassesOwn.never rfl (b8 rfl B.range_ (aj (v3 1) ak)) (aR (i:=3) sc_words.nd) (aB (cJ (cU PySem.F.plainAttrs_list PySem.F.slot_list_append PySem.F.type_list_append dF (v3 2) (aj (bC F_word hr rfl (aj (v3 0) (aj (v3 2) ak))) ak)))))
   (aB (aP (v3 2))))),?_⟩
 rw[show aU vR [T.ref d,T.int n]=[some (T.ref d),some (T.int n),none,none] from rfl];walk_at "";refine⟨by decide,fun p hp=>?_⟩;have hpd:p≠d:=fun e=>by obtain⟨⟨_,_,_,_,h,_⟩,_⟩:=D;rw[<- e,hp] at h;cases h
 have hpc:p≠c:=fun e=>by obtain⟨_,_,h,_⟩:=D;rw[<- e,hp] at h;cases h
 refine⟨True.intro,by omega,by omega,?_⟩;refine fJ (fun r U H'=>∃(ws:List Str) (v:Option T),U=[some (.ref d),some (.int n),some (.ref p),v]/\ws.length+r.length=n.toNat/\Nms ws/\H' p=some (.lst (ws.map T.str))/\Deck H' d c/\∀b,b≠d->b≠c->b≠p->H' b=H3 b)
  ⟨[],none,rfl,by simp [dD],.nil,aA,?_,fun b h1 h2 h3=>aC h3⟩ ?_ ?_
 ·obtain⟨⟨l,a,sd,m,hd,s0,s1⟩,ns,hc,hne,hlen⟩:=D;exact⟨⟨l,a,sd,m,by rw[aC (Ne.symm hpd)];exact hd,s0,s1⟩,ns,by rw[aC (Ne.symm hpc)];exact hc,hne,hlen⟩
 ·rintro U H' ⟨ws,v,rfl,hl,hn,hH,hD,hoff⟩;refine⟨trivial,?_⟩;walk_at "";simp only[List.length_nil,Nat.add_zero] at hl;exact Fin3.of Sub3.refl (k p ws H' hp hH (by omega) hn hD hoff)
 rintro x r U H' N ⟨ws,v,rfl,hl,hn,hH,hD,hoff⟩ hN;refine⟨trivial,?_⟩;simp only[List.length_cons] at hl;walk_at "";refine⟨⟨True.intro,True.intro⟩,d,c,p,ws,rfl,hD,hpd,hpc,hH,by omega,hn.nm,fun x H2 hx hxw hD2=>?_⟩;have hH2:H2 p=some (.lst (ws.map T.str)):=by rw[hD2.off p hpd hpc];exact hH
 walk_at "";refine⟨by have:sizeLine=16777216:=rfl;omega,?_⟩;refine hN _ _ ⟨ws++[x],_,rfl,by simp only[List.length_append,List.length_singleton];omega,hn.snoc hx hxw,?_,?_,?_⟩
 ·rw[aA,List.map_append];rfl
 ·obtain⟨⟨l,a,sd,m,hd,s0,s1⟩,ns,hc,hne,hlen⟩:=hD2.deck;exact⟨⟨l,a,sd,m,by rw[aC (Ne.symm hpd)];exact hd,s0,s1⟩,ns,by rw[aC (Ne.symm hpc)];exact hc,hne,hlen⟩
 intro b h1 h2 h3;rw[aC h3,hD2.off b h1 h2,hoff b h1 h2 h3]
end
theorem dh {d c p:Addr}{H0 H:Hp3}{o:O3}(h:Deck H d c/\Keep d c H0 H) (hp:H p=none):Deck (up3 H p o) d c/\Keep d c H0 (up3 H p o):=⟨h.1.new (h.1.nd hp) (h.1.nc hp),h.2.new hp⟩
theorem Keep.wr {d c p:Addr}{H0 H:Hp3}{o:O3}(k:Keep d c H0 H) (hp:H0 p=none):Keep d c H0 (up3 H p o):=fun x u hx h1 h2=>by rw[aC (bN hx hp)];exact k x u hx h1 h2
theorem vU (n:Nat):dD 0 n=(List.range n).map fun (i:Nat)=>T.int (i:Int):=by
 unfold dD;refine List.map_congr_left fun i _=>?_;rw[Int.zero_add]
theorem vV {n:Nat}{A B:List Nat}{x:Nat}(h:List.range n=A++x::B):x=A.length/\A.length<n:=by
 have hl:=congrArg List.length h;rw[List.length_range,List.length_append,List.length_cons] at hl;have hA:A.length<n:=by omega
 have h1:(List.range n)[A.length]?=some x:=by rw[h];simp
 rw[List.getElem?_range hA] at h1;exact⟨(Option.some.inj h1).symm,hA⟩
def nmA (ns:List Str) (i:Nat):Str:=ns.getD i ""
theorem nO {ns:List Str}{i:Nat}(h:i<ns.length):atI (ns.map T.str) (i:Int)=some (T.str (nmA ns i))/\nmA ns i∈ns:=by
 have e:ns[i]?=some (nmA ns i):=by unfold nmA;rw[List.getD_eq_getElem?_getD,List.getElem?_eq_getElem h];rfl
 exact⟨by rw[lA,cI e];rfl,List.mem_of_getElem? e⟩
theorem Fq {ns:List Str}{i:Nat}(h:i<ns.length):ns.take (i+1)=ns.take i++[nmA ns i]:=by
 have e:ns[i]?=some (nmA ns i):=by unfold nmA;rw[List.getD_eq_getElem?_getD,List.getElem?_eq_getElem h];rfl
 rw[List.take_add_one,e];rfl
theorem Bj {kd:List Str}(hl:kd.length=9) (hk:Nms kd) {t:Int}(h0:0<=t) (h5:t<5):∃ks:List Str,cj (kd.map T.str) (some t) (some (t+4))=ks.map T.str/\ks.length=4/\Nms ks:=by
 obtain⟨j,rfl⟩:=Int.eq_ofNat_of_zero_le h0;have hj:j<5:=by omega
 have e1:=HT.sIx_nat (kd.map T.str).length 0 j;have e2:=HT.sIx_nat (kd.map T.str).length (kd.map T.str).length (j+4);refine⟨(kd.drop j).take 4,?_,?_,fun x hx=>hk.nm x (List.mem_of_mem_drop (List.mem_of_mem_take hx)),?_⟩
 ·unfold cj;rw[show ((j:Int)+4)=((j+4:Nat):Int) by omega,e1,e2,List.length_map,hl,Nat.min_eq_left (by omega),Nat.min_eq_left (by omega),show j+4 - j=4 by omega,List.map_take,List.map_drop]
 ·rw[List.length_take,List.length_drop,hl];omega
 exact ((List.take_sublist _ _).trans (List.drop_sublist _ _)).nodup hk.nd
def ixK (k:Nat):List (Nat × Nat):=(List.range k).flatMap fun i=>(List.range i).map fun j=>(j,i)
theorem La (k:Nat):ixK (k+1)=ixK k++(List.range k).map fun j=>(j,k):=by
 unfold ixK;rw[List.range_succ,List.flatMap_append];simp
theorem Ft:∀k:Nat,k<9->(ixK k).length<=100:=by decide +kernel
def twF (ns:List Str) (l:List (Nat × Nat)):List (Str × Str):=l.map fun p=>(nmA ns p.1,nmA ns p.2)
theorem sr {n k:Nat}(h:k<n):(List.range n).drop k=k::(List.range n).drop (k+1):=by
 rw[List.drop_eq_getElem_cons (by rw[List.length_range];exact h),List.getElem_range]
theorem Pq (k:Nat):atI [T.str "with",T.str "apart"] ((k:Int)%2)=some (T.str (if k%2=0 then "with" else "apart")):=by
 by_cases h:k%2=0
 ·rw[if_pos h,show (k:Int)%2=0 by omega];exact at0 _ _
 rw[if_neg h,show (k:Int)%2=1 by omega];exact at1 _ _ _
theorem Lb:(ixK 8).length=28:=by decide +kernel
theorem Pr (ns:List Str) (k:Nat):atI ((twF ns (ixK 8)).map orT) (((k:Int) / 2*3+5)%28)=some (orT (nmA ns ((ixK 8).getD ((k / 2*3+5)%28) (0,0)).1,nmA ns ((ixK 8).getD ((k / 2*3+5)%28) (0,0)).2)):=by
 rw[show ((k:Int) / 2*3+5)%28=(((k / 2*3+5)%28:Nat):Int) by omega];have hm:(k / 2*3+5)%28<(ixK 8).length:=by rw[Lb];exact Nat.mod_lt _ (by decide)
 refine cI ?_;unfold twF;rw[List.getElem?_map,List.getElem?_map,List.getD_eq_getElem?_getD,List.getElem?_eq_getElem hm];rfl
def prI (ns:List Str) (p:Str × Nat × Nat):Str × Str × Str:=(p.1,nmA ns p.2.1,nmA ns p.2.2)
def pxI (k:Nat):Str × Nat × Nat:=(if k%2=0 then "with" else "apart",(ixK 8).getD ((k / 2*3+5)%28) (0,0))
def Bk:Sp3:=fun ts H Q=>∃d c,ts=[.ref d]/\Deck H d c/\∀(p:Addr) (ns:List Str) (W:Wk) (H':Hp3),ns.length=9->Nms ns->W.tasks.map (·.1)=ns.take 8->(∀t∈W.tasks,tkOk t/\t.2.2.length=4)->W.orders=twF ns (ixK 8)->W.pairs=(List.range 12).map (fun k=>prI ns (pxI k))->W.row.length=8->(∀x∈W.row,isNm x)->H' p=some (.lst (ns.map T.str))->Deck H' d c->Q (.tup [.ref p,W.enc]) H'
section
variable {P:Program}{w:World}{K:Frag}{mg:Str->Option Value}{base:Heap}
abbrev lL:List Str:=["_law_deck_here","_law_names","_law_kinds","_law_tasks","_law_k","_law_turn","_law_two","_law_pairs","_law_row"]
theorem sc_full:FnScope lL ["_law_deck_here"] (au (top 45)):=bG
theorem Fv {f:Addr}{fd:FuncData}(g:G3 K mg "_law_full" (top 45) ["_law_deck_here"] f fd) (B:Bl mg) (F_next:Cal P w K mg base 1 "_law_next" (top 37) ["_law_deck_here"] lJ) (F_great:Cal P w K mg base 2 "_law_great" (top 38) ["_law_deck_here"] vO) (F_words:Cal P w K mg base 3 "_law_words" (top 40) ["_law_deck_here","_law_many"] vQ):Cal P w K mg base 4 "_law_full" (top 45) ["_law_deck_here"] Bk:=by
 refine⟨f,fd,g,?_⟩;refine fn3 g.fn sc_full (fun ts H Q h=>?_) (fun cdv A outer s H E ts H3 Q hr h=>?_)
 ·obtain⟨d,c,rfl,_⟩:=h;rfl
 obtain⟨d,c,rfl,D,k⟩:=h;refine⟨_,(aq (aJ (i:=1) sc_full.nd (bC F_words hr rfl (aj (v3 0) (aj ao ak))))
   (aq (aJ (i:=2) sc_full.nd (bC F_words hr rfl (aj (v3 0) (aj ao ak))))
   (aq (aJ (i:=3) sc_full.nd (bc ak))
   (aq (eY PassesOwn.never rfl (b8 rfl B.range_ (aj ao ak)) (aR (i:=4) sc_full.nd) (aq (aJ (i:=5) sc_full.nd (aD bR (bC F_next hr rfl (aj (v3 0) ak)) ao))
    (aB (cJ (cU PySem.F.plainAttrs_list PySem.F.slot_list_append PySem.F.type_list_append dF (v3 3) (aj (aZ (aj (aN ix3 (v3 1) (v3 4)) (aj (aD aM ao (aD bR (bC F_great hr rfl (aj (v3 0) ak)) (aD yM (aD kJ ao ao) ao))) (aj (aV bZ rfl B.tuple_ bQ (aj (aY (v3 2) (aX (v3 5)) (aX (aD aM (v3 5) ao))) ak)) ak)))) ak))))))
   (aq (aJ (i:=6) sc_full.nd (bc ak))
   (aq (eY PassesOwn.never rfl (b8 rfl B.range_ (aj ao ak)) (aR (i:=4) sc_full.nd) (aB (aJ (i:=6) sc_full.nd (aD aM (v3 6) (dU rfl (dq (n0:=(au (top 45)).names) (N:=lL) (N':=["_law_j","_law_names","_law_k"]) (nt:=1) (cap:=[1,4]) rfl rfl (by decide +kernel)) (b8 rfl B.range_ (aj (v3 4) ak)) (fun cl pins s H C0 fp=>⟨(aR (i:=0) (show List.Nodup [("_law_j":Str),("_law_names":Str),("_law_k":Str)] by decide +kernel)),cu,(aZ (aj (aN ix3 (v3 1) (v3 0)) (aj (aN ix3 (v3 1) (v3 2)) ak)))⟩))))))
   (aq (jR (i:=7) rfl sc_full.nd (dq (n0:=(au (top 45)).names) (N:=lL) (N':=["_law_k","_law_two"]) (nt:=1) (cap:=[6]) rfl rfl (by decide +kernel)) (b8 rfl B.range_ (aj ao ak)) (fun cl pins s H C0 fp=>⟨(aR (i:=0) (show List.Nodup [("_law_k":Str),("_law_two":Str)] by decide +kernel)),cu,(aD aM (aZ (aj (aN ix3 (bc (aj aF (aj aF ak))) (aD bR (v3 0) ao)) ak)) (aN ix3 (v3 1) (aD bR (aD aM (aD jf (aD fH (v3 0) ao) ao) ao) ao)))⟩))
   (aq (jR (i:=8) rfl sc_full.nd (dq (n0:=(au (top 45)).names) (N:=lL) (N':=["_law_k","_law_kinds","_law_deck_here"]) (nt:=1) (cap:=[2,0]) rfl rfl (by decide +kernel)) (b8 rfl B.range_ (aj ao ak)) (fun cl pins s H C0 fp=>⟨(aR (i:=0) (show List.Nodup [("_law_k":Str),("_law_kinds":Str),("_law_deck_here":Str)] by decide +kernel)),cu,(aN ix3 (v3 1) (aD bR (bC F_next hr rfl (aj (v3 2) ak)) ao))⟩))
   (aB (aP (aZ (aj (v3 1) (aj (aZ (aj (aV bZ rfl B.tuple_ bQ (aj (v3 3) ak)) (aj (aV bZ rfl B.tuple_ bQ (aj (v3 6) ak)) (aj (aV bZ rfl B.tuple_ bQ (aj (v3 7) ak)) (aj (aV bZ rfl B.tuple_ bQ (aj (v3 8) ak)) ak))))) ak))))))))))))),?_⟩
 rw[show aU lL [T.ref d]=[some (T.ref d),none,none,none,none,none,none,none,none] from rfl];have k':=Box.mk k;clear k;have hsz:sizeLine=16777216:=rfl;refine aG fun R0 hR0=>?_;walk_at "";refine⟨d,c,9,rfl,D,by decide,by decide,fun p ns H1 hp gp nl hns D1 off1=>?_⟩;have npd:=D.nd hp;have npc:=D.nc hp;have DD:Deck H1 d c/\Keep d c H3 H1:=⟨D1,fun b o hb h1 h2=>by rw[off1 b h1 h2 (bN hb hp)];exact hb⟩;clear off1 D1;walk_at "n";refine aG fun R0 hR0=>?_;walk_at "";refine⟨d,c,9,rfl,DD.1,by decide,by decide,fun q kd H2 hq gq kl hkd D2 off2=>?_⟩;have nqd:=DD.1.nd hq;have nqc:=DD.1.nc hq;have npq:p≠q:=bN gp hq;replace gp:H2 p=some (.lst (ns.map T.str)):=by rw[off2 p npd npc npq];exact gp
 replace DD:Deck H2 d c/\Keep d c H3 H2:=⟨D2,fun b o hb h1 h2=>by rw[off2 b h1 h2 (bN (DD.2 b o hb h1 h2) hq)];exact DD.2 b o hb h1 h2⟩;clear off2 D2 hq;have nl':ns.length=9:=by omega
 have kl':kd.length=9:=by omega
 clear nl kl;walk_at "n";refine aG fun R0 hR0=>?_;walk_at "";refine⟨by decide,fun r hr=>?_⟩;have nrd:=DD.1.nd hr;have nrc:=DD.1.nc hr;have npr:p≠r:=bN gp hr;have nqr:q≠r:=bN gq hr;have hr3:H3 r=none:=by
  cases e:H3 r with
  |none=>rfl
  |some o=>have:=DD.2 r o e nrd nrc;rw[hr] at this;cases this
 replace DD:=dh (o:=.lst []) DD hr;replace gp:up3 H2 r (.lst []) p=_ := upa gp hr;replace gq:up3 H2 r (.lst []) q=_ := upa gq hr;have gr:up3 H2 r (.lst []) r=some (.lst []):=aA;generalize up3 H2 r (.lst [])=H4 at DD gp gq gr;clear hr;walk_at "n";refine aG fun R0 hR0=>?_;walk_at "";refine⟨trivial,by decide,by decide,?_⟩;rw[show dD 0 (Int.toNat 8)=(List.range 8).map (fun (i:Nat)=>T.int (i:Int)) from vU 8];refine rJ (fun i:Nat=>T.int (i:Int)) (List.range 8) (fun A U H=>∃(ts:List (Str × Int × List Str)) (v4 v5:Option T),U=[some (.ref d),some (.ref p),some (.ref q),some (.ref r),v4,v5,none,none,none]/\ts.map (·.1)=ns.take A.length/\(∀t∈ts,tkOk t/\t.2.2.length=4)/\ts.length=A.length/\H p=some (.lst (ns.map T.str))/\H q=some (.lst (kd.map T.str))/\H r=some (.lst (ts.map tkT))/\(Deck H d c/\Keep d c H3 H)) ⟨[],none,none,rfl,rfl,(fun _ h=>nomatch h),rfl,gp,gq,gr,DD⟩ ?_ ?_;rotate_left
 ·rintro A x C U H N e ⟨ts,v4,v5,rfl,hn,ht,hl,gp,gq,gr,DD⟩ hN;obtain⟨ex,hA⟩:=vV e;subst ex;clear hR0 e;have hN':=Box.mk hN;clear hN;refine⟨trivial,?_⟩;rw[lK];refine aG fun R0 hR0=>?_;walk_at "";refine⟨d,c,rfl,DD.1,fun n1 H5 n10 n11 D5=>?_⟩;replace gp:H5 p=some (.lst (ns.map T.str)):=(D5.off p npd npc).trans gp;replace gq:H5 q=some (.lst (kd.map T.str)):=(D5.off q nqd nqc).trans gq;replace gr:H5 r=some (.lst (ts.map tkT)):=(D5.off r nrd nrc).trans gr;replace DD:Deck H5 d c/\Keep d c H3 H5:=⟨D5.deck,DD.2.drew D5⟩;walk_at "";refine⟨by decide,?_⟩;obtain⟨tn,et⟩:∃i,i=n1%5:=⟨_,rfl⟩;have t0:0<=tn:=by rw[et];exact Int.emod_nonneg _ (by decide)
  have t5:tn<5:=by rw[et];exact Int.emod_lt_of_pos _ (by decide)
  rw[<- et];obtain⟨ks,ek,k4,hks⟩:=Bj kl' hkd t0 t5;obtain⟨ea,hm⟩:=nO (ns:=ns) (i:=A.length) (by omega);clear et D5 n10 n11;walk_at "n";walk_at "";refine⟨⟨trivial,trivial⟩,d,c,rfl,DD.1,fun n2 H6 n20 n21 D6=>?_⟩;replace gp:H6 p=some (.lst (ns.map T.str)):=(D6.off p npd npc).trans gp;replace gq:H6 q=some (.lst (kd.map T.str)):=(D6.off q nqd nqc).trans gq;replace gr:H6 r=some (.lst (ts.map tkT)):=(D6.off r nrd nrc).trans gr;replace DD:Deck H6 d c/\Keep d c H3 H6:=⟨D6.deck,DD.2.drew D6⟩;clear D6;have z0:(0:Int)<10^Int.toNat 60 - 1:=by decide
  obtain⟨len,el⟩:∃i,i=1+n2%(10^Int.toNat 60 - 1):=⟨_,rfl⟩;have e0:=Int.emod_nonneg n2 (show (10:Int)^Int.toNat 60 - 1≠0 by decide);have e1:=Int.emod_lt_of_pos n2 z0;have l1:1<=len:=by rw[el];omega
  have l2:len<10^60:=by rw[el];exact Int.lt_of_lt_of_le (Int.add_lt_add_left e1 1) (by decide)
  clear e0 e1;walk_at "";refine⟨⟨by decide,by decide,by decide⟩,trivial,fun z hz=>?_⟩;rw[<- el];have gz:up3 H6 z (.lst (ks.map T.str)) z=some (.lst (ks.map T.str)):=aA;replace DD:=dh (o:=.lst (ks.map T.str)) DD hz;replace gp:up3 H6 z (.lst (ks.map T.str)) p=_ := upa gp hz;replace gq:up3 H6 z (.lst (ks.map T.str)) q=_ := upa gq hz;replace gr:up3 H6 z (.lst (ks.map T.str)) r=_ := upa gr hz;generalize up3 H6 z (.lst (ks.map T.str))=H7 at DD gp gq gr gz;rw[gr,GQ];refine⟨by decide,by rw[List.length_map];omega,?_⟩;have ok:tkOk (nmA ns A.length,len,ks):=⟨hns.nm _ hm,l1,l2,hks,by show ks.length<=4;omega⟩;refine hN'.out _ _ ⟨ts++[(nmA ns A.length,len,ks)],_,_,rfl,?_,fun t ht'=>?_,by rw[List.length_append,List.length_append,List.length_singleton,List.length_singleton,hl],by rw[aC npr];exact gp,by rw[aC nqr];exact gq,?_,DD.1.new nrd nrc,DD.2.wr hr3⟩
  ·rw[List.map_append,hn,List.length_append,List.length_singleton,Fq (by omega)];rfl
  ·rcases List.mem_append.mp ht' with h | h
   ·exact ht t h
   rw[List.mem_singleton.mp h];exact⟨ok,k4⟩
  rw[aA,List.map_append];rfl
 rintro U H ⟨ts,v4,v5,rfl,hn,ht,hl,gp,gq,gr,DD⟩;rw[List.length_range] at hn hl;refine⟨trivial,?_⟩;walk_at "n";refine aG fun R0 hR0=>?_;walk_at "";refine⟨by decide,fun s0 hs0=>?_⟩;replace gp:up3 H s0 (.lst []) p=_ := upa gp hs0;replace gq:up3 H s0 (.lst []) q=_ := upa gq hs0;replace gr:up3 H s0 (.lst []) r=_ := upa gr hs0;replace DD:=dh (o:=.lst []) DD hs0;have gs:up3 H s0 (.lst []) s0=some (.lst []):=aA;generalize up3 H s0 (.lst [])=H5 at DD gp gq gr gs;clear hs0 hr3;walk_at "n";refine aG fun R0 hR0=>?_;walk_at "";refine⟨trivial,by decide,by decide,?_⟩;rw[show dD 0 (Int.toNat 8)=(List.range 8).map (fun (i:Nat)=>T.int (i:Int)) from vU 8];refine rJ (fun i:Nat=>T.int (i:Int)) (List.range 8) (fun A U H=>∃(s:Addr) (v4:Option T),U=[some (.ref d),some (.ref p),some (.ref q),some (.ref r),v4,v5,some (.ref s),none,none]/\H s=some (.lst ((twF ns (ixK A.length)).map orT))/\H p=some (.lst (ns.map T.str))/\H q=some (.lst (kd.map T.str))/\H r=some (.lst (ts.map tkT))/\(Deck H d c/\Keep d c H3 H)) ⟨s0,_,rfl,gs,gp,gq,gr,DD⟩ ?_ ?_;rotate_left
 ·rintro A x C U H N e ⟨s,v4,rfl,gs,gp,gq,gr,DD⟩ hN;obtain⟨ex,hA⟩:=vV e;subst ex;clear hR0 e;have hN':=Box.mk hN;clear hN;refine⟨trivial,?_⟩;rw[lK];walk_at "";refine⟨trivial,by omega,by omega,?_⟩;rw[vU];walk_at "c";refine cH (fun i:Nat=>T.int (i:Int)) (fun j=>orT (nmA ns j,nmA ns A.length)) (List.range A.length) [some (T.ref p),some (T.int (A.length:Int))] trivial (by rw[List.length_range];omega) (fun j hj Q' hq=>?_) (fun z hz=>?_)
  ·have hj':=List.mem_range.mp hj;have a1:=(nO (ns:=ns) (i:=j) (by omega)).1;have a2:=(nO (ns:=ns) (i:=A.length) (by omega)).1;clear hN' hj;walk_at "";exact⟨by decide,hq⟩
  have ee:(List.range A.length).map (fun j=>orT (nmA ns j,nmA ns A.length))=((List.range A.length).map fun j=>(nmA ns j,nmA ns A.length)).map orT:=by rw[List.map_map];rfl
  rw[ee];generalize hys:(List.range A.length).map (fun j=>(nmA ns j,nmA ns A.length))=ys;have eu:twF ns (ixK (A.length+1))=twF ns (ixK A.length)++ys:=by unfold twF;rw[La,List.map_append,List.map_map,<- hys];rfl
  have ly:ys.length<=8:=by rw[<- hys,List.length_map,List.length_range];omega
  have lx:(twF ns (ixK A.length)).length<=100:=by unfold twF;rw[List.length_map];exact Ft A.length (by omega)
  replace gp:up3 H z (.lst (ys.map orT)) p=_ := upa gp hz;replace gq:up3 H z (.lst (ys.map orT)) q=_ := upa gq hz;replace gr:up3 H z (.lst (ys.map orT)) r=_ := upa gr hz;replace gs:up3 H z (.lst (ys.map orT)) s=_ := upa gs hz;replace DD:=dh (o:=.lst (ys.map orT)) DD hz;generalize up3 H z (.lst (ys.map orT))=H6 at DD gp gq gr gs;rw[gs,jh];refine⟨by rw[List.length_map,List.length_map];omega,fun z2 hz2=>?_⟩;exact hN'.out _ _ ⟨z2,_,rfl,by rw[aA,List.length_append,List.length_singleton,eu,List.map_append],by rw[aC (bN gp hz2)];exact gp,by rw[aC (bN gq hz2)];exact gq,by rw[aC (bN gr hz2)];exact gr,dh DD hz2⟩
 rintro U H ⟨s,v4,rfl,gs,gp,gq,gr,DD⟩;rw[List.length_range] at gs;refine⟨trivial,?_⟩;walk_at "n";refine aG fun R0 hR0=>?_;walk_at "";refine⟨trivial,by decide,by decide,?_⟩;rw[vU];walk_at "c";have lx:(twF ns (ixK 8)).length=28:=by unfold twF;rw[List.length_map];exact Lb
 refine dG (fun r' ys U H=>∃(k:Nat) (v:Option T),U=[v,some (.ref s)]/\r'=((List.range 12).drop k).map (fun (i:Nat)=>T.int (i:Int))/\ys=((List.range k).map fun k=>prI ns (pxI k)).map prT/\k<=12/\H s=some (.lst ((twF ns (ixK 8)).map orT))/\H p=some (.lst (ns.map T.str))/\H q=some (.lst (kd.map T.str))/\H r=some (.lst (ts.map tkT))/\(Deck H d c/\Keep d c H3 H)) ⟨0,none,rfl,rfl,rfl,Nat.zero_le _,gs,gp,gq,gr,DD⟩ ?_ ?_;rotate_left
 ·rintro t r' ys U H N ⟨k,v,rfl,er,rfl,hk,gs,gp,gq,gr,DD⟩ hN;clear hR0;have hN':=Box.mk hN;clear hN;have hk':k<12:=by apply Nat.lt_of_not_le;intro hge;rw[List.drop_of_length_le (by rw[List.length_range];exact hge)] at er;cases er
  rw[sr hk',List.map_cons,List.cons.injEq] at er;obtain⟨rfl,rfl⟩:=er;refine⟨trivial,?_⟩;have e1:=Pq k;have e2:=Pr ns k;rw[lK];walk_at "";refine⟨by decide,fun z hz=>⟨by decide,by decide,⟨by decide,by decide +kernel⟩,.inl ⟨by omega,by omega⟩,by decide,?_⟩⟩;replace gp:up3 H z (.lst [T.str "with",T.str "apart"]) p=_ := upa gp hz;replace gq:up3 H z (.lst [T.str "with",T.str "apart"]) q=_ := upa gq hz;replace gr:up3 H z (.lst [T.str "with",T.str "apart"]) r=_ := upa gr hz;replace gs:up3 H z (.lst [T.str "with",T.str "apart"]) s=_ := upa gs hz;replace DD:=dh (o:=.lst [T.str "with",T.str "apart"]) DD hz;generalize up3 H z (.lst [T.str "with",T.str "apart"])=H6 at DD gp gq gr gs;rw[gs,fW,e2,eF];unfold orT;rw[yW];refine⟨by show 1+2<=16777216;decide,by rw[List.length_range];omega,hN'.out _ _ _ ⟨k+1,_,rfl,rfl,?_,hk',gs,gp,gq,gr,DD⟩⟩;rw[List.range_succ,List.map_append,List.map_append];rfl
 rintro ys U H ⟨k,v,rfl,er,rfl,hk,gs,gp,gq,gr,DD⟩;have hk':k=12:=by apply Nat.le_antisymm hk;apply Nat.le_of_not_lt;intro hlt;rw[sr hlt] at er;cases er
 subst hk';obtain⟨PR,hPR⟩:∃PR,PR=(List.range 12).map fun k=>prI ns (pxI k):=⟨_,rfl⟩;rw[<- hPR];have lPR:PR.length=12:=by rw[hPR,List.length_map,List.length_range]
 refine⟨trivial,by rw[List.length_map,lPR];decide,fun u hu=>?_⟩;replace gp:up3 H u (.lst (PR.map prT)) p=_ := upa gp hu;replace gq:up3 H u (.lst (PR.map prT)) q=_ := upa gq hu;replace gr:up3 H u (.lst (PR.map prT)) r=_ := upa gr hu;replace gs:up3 H u (.lst (PR.map prT)) s=_ := upa gs hu;have nsd:=DD.1.nd hu;have nsc:=DD.1.nc hu;replace DD:=dh (o:=.lst (PR.map prT)) DD hu;have gu:up3 H u (.lst (PR.map prT)) u=some (.lst (PR.map prT)):=aA;generalize up3 H u (.lst (PR.map prT))=H5 at DD gp gq gr gs gu;clear er hk hu;have n5d:s≠d:=fun e=>by obtain⟨⟨_,_,_,_,h,_⟩,_⟩:=DD.1;rw[<- e,gs] at h;cases h
 have n5c:s≠c:=fun e=>by
  obtain⟨_,ms,h,hne,_⟩:=DD.1;rw[<- e,gs] at h;injection h with h;injection h with h;have:=congrArg List.length h;cases ms with
  |nil=>exact hne rfl
  |cons m ms =>
  cases ht28:twF ns (ixK 8) with
  |nil=>rw[ht28] at lx;cases lx
  |cons a b=>rw[ht28] at h;cases h
 walk_at "n";refine aG fun R0 hR0=>?_;walk_at "";refine⟨trivial,by decide,by decide,?_⟩;walk_at "c";have hrl:(dD 0 (Int.toNat 8)).length=8:=by simp [dD]
 generalize dD 0 (Int.toNat 8)=ts0 at hrl;refine dG (fun r' ys U H'=>∃(xs:List Str) (v:Option T),U=[v,some (.ref q),some (.ref d)]/\ys=xs.map T.str/\xs.length+r'.length=8/\(∀x∈xs,isNm x)/\H' p=some (.lst (ns.map T.str))/\H' q=some (.lst (kd.map T.str))/\H' r=some (.lst (ts.map tkT))/\H' s=some (.lst ((twF ns (ixK 8)).map orT))/\H' u=some (.lst (PR.map prT))/\Deck H' d c/\Keep d c H3 H') ⟨[],none,rfl,rfl,by simpa using hrl,(fun _ h=>nomatch h),gp,gq,gr,gs,gu,DD⟩ ?_ ?_;rotate_left
 ·rintro x r' ys U H9 N ⟨xs,v,rfl,rfl,hxl,hxn,gp,gq,gr,gs,gu,DD⟩ hN;have hN':=Box.mk hN;clear hN hR0;simp only[List.length_cons] at hxl;refine⟨trivial,?_⟩;rw[lK];walk_at "";refine⟨d,c,rfl,DD.1,fun n3 H10 n30 n31 D10=>?_⟩;replace gq:H10 q=some (.lst (kd.map T.str)):=(D10.off q nqd nqc).trans gq;obtain⟨z,hzm,hz⟩:=GR kd (n3%9) (Int.emod_nonneg _ (by decide)) (by rw[kl'];exact Int.emod_lt_of_pos _ (by decide));have hz':atI (kd.map T.str) (n3%9)=some (T.str z):=by rw[lA,hz];rfl
  clear hz;walk_at "";refine⟨by decide,by omega,hN'.out _ _ _ ⟨xs++[z],_,rfl,by rw[List.map_append];rfl,by simp only[List.length_append,List.length_singleton];omega,fun y hy=>?_,(D10.off p npd npc).trans gp,gq,(D10.off r nrd nrc).trans gr,(D10.off s n5d n5c).trans gs,(D10.off u nsd nsc).trans gu,D10.deck,DD.2.drew D10⟩⟩;rcases List.mem_append.mp hy with hy | hy
  ·exact hxn y hy
  rw[List.mem_singleton.mp hy];exact hkd.nm z hzm
 rintro ys U H9 ⟨xs,v,rfl,rfl,hxl,hxn,gp,gq,gr,gs,gu,DD⟩;rw[List.length_nil,Nat.add_zero] at hxl;refine⟨trivial,by rw[List.length_map];omega,fun e he=>?_⟩;replace gp:up3 H9 e (.lst (xs.map T.str)) p=_ := upa gp he;replace gr:up3 H9 e (.lst (xs.map T.str)) r=_ := upa gr he;replace gs:up3 H9 e (.lst (xs.map T.str)) s=_ := upa gs he;replace gu:up3 H9 e (.lst (xs.map T.str)) u=_ := upa gu he;have ge:up3 H9 e (.lst (xs.map T.str)) e=some (.lst (xs.map T.str)):=aA;replace DD:=(dh (o:=.lst (xs.map T.str)) DD he).1;generalize up3 H9 e (.lst (xs.map T.str))=H6 at DD gp gr gs gu ge;walk_at "n";have hPR':=Box.mk hPR;clear gq hPR;walk_at "";refine⟨by decide,by decide,Fin3.of Sub3.refl (k'.out p ns ⟨ts,twF ns (ixK 8),PR,xs⟩ H6 nl' hns hn ht rfl hPR'.out hxl hxn gp DD)⟩
theorem jl {α β:Type}{f:α->β}:∀{xs:List α},(∀a∈xs,∀b∈xs,f a=f b->a=b)->xs.Nodup->(xs.map f).Nodup
 |[],_,_=>List.nodup_nil
 |x::r,h,hn=>by
  rw[List.map_cons,List.nodup_cons]
  rw[List.nodup_cons] at hn
  refine⟨fun hm=>?_,jl (fun a ha b hb=>h a (List.mem_cons_of_mem _ ha) b (List.mem_cons_of_mem _ hb)) hn.2⟩
  obtain⟨y,hy,e⟩:=List.mem_map.mp hm
  exact hn.1 (h y (List.mem_cons_of_mem _ hy) x List.mem_cons_self e▸hy)
theorem fL {ns:List Str}(hn:ns.Nodup) {i j:Nat}(hi:i<ns.length) (hj:j<ns.length) (e:nmA ns i=nmA ns j):i=j:=by
 have g:∀k (hk:k<ns.length),nmA ns k=ns[k]:=fun k hk=>by unfold nmA;rw[List.getD_eq_getElem?_getD,List.getElem?_eq_getElem hk];rfl
 rw[g i hi,g j hj] at e;have P:=List.pairwise_iff_getElem.mp hn;rcases Nat.lt_trichotomy i j with h | h | h
 ·exact absurd e (P i j hi hj h)
 ·exact h
 exact absurd e.symm (P j i hj hi h)
theorem iR {ns:List Str}{i:Nat}(h9:ns.length=9) (h:i<8):nmA ns i∈ns.take 8:=by
 have e:(ns.take 8)[i]?=some (nmA ns i):=by rw[List.getElem?_take,if_pos h];unfold nmA;rw[List.getD_eq_getElem?_getD,List.getElem?_eq_getElem (by omega)];rfl
 exact List.mem_of_getElem? e
theorem Bm:∀p∈ixK 8,p.1<p.2/\p.2<8:=by decide +kernel
theorem Pu:(ixK 8).Nodup:=by decide +kernel
theorem Bo:∀k∈List.range 12,((pxI k).1="with"\/(pxI k).1="apart")/\(pxI k).2.1<(pxI k).2.2/\(pxI k).2.2<8:=by decide +kernel
theorem Px:((List.range 12).map pxI).Nodup:=by decide +kernel
theorem Fw {ns:List Str}{W:Wk}(h9:ns.length=9) (hns:Nms ns) (hn:W.tasks.map (·.1)=ns.take 8) (ht:∀t∈W.tasks,tkOk t/\t.2.2.length=4) (ho:W.orders=twF ns (ixK 8)) (hp:W.pairs=(List.range 12).map (fun k=>prI ns (pxI k))) (hr:W.row.length=8) (hx:∀x∈W.row,isNm x):WkOk W/\W.tasks.length=8/\W.orders.length=28/\W.pairs.length=12:=by
 have tl:W.tasks.length=8:=by have:=congrArg List.length hn;rw[List.length_map,List.length_take,h9] at this;exact this
 have ol:W.orders.length=28:=by rw[ho];unfold twF;rw[List.length_map];exact Lb
 have pl:W.pairs.length=12:=by rw[hp,List.length_map,List.length_range]
 refine⟨⟨by omega,by omega,fun t h=>(ht t h).1,by rw[hn];exact (List.take_sublist _ _).nodup hns.nd,by omega,?_,fun o h=>?_,by omega,?_,fun o h=>?_,by omega,by omega,hx⟩,tl,ol,pl⟩
 ·rw[ho];refine jl (fun a ha b hb e=>?_) Pu;have a1:=Bm a ha;have b1:=Bm b hb;have e1:=fL hns.nd (by omega) (by omega) (congrArg Prod.fst e);have e2:=fL hns.nd (by omega) (by omega) (congrArg Prod.snd e);exact Prod.ext e1 e2
 ·rw[ho] at h;obtain⟨a,ha,rfl⟩:=List.mem_map.mp h;have a1:=Bm a ha;rw[hn];exact⟨fun e=>by have:=fL hns.nd (by omega) (by omega) e;omega,iR h9 (by omega),iR h9 a1.2⟩
 ·rw[hp,show (List.range 12).map (fun k=>prI ns (pxI k))=((List.range 12).map pxI).map (prI ns) by rw[List.map_map];rfl];refine jl (fun a ha b hb e=>?_) Px;obtain⟨i,hi,rfl⟩:=List.mem_map.mp ha;obtain⟨j,hj,rfl⟩:=List.mem_map.mp hb;have a1:=Bo i hi;have b1:=Bo j hj;have e0:(pxI i).1=(pxI j).1:=congrArg (fun x:Str × Str × Str=>x.1) e;have e1:=fL hns.nd (by omega) (by omega) (congrArg (fun x:Str × Str × Str=>x.2.1) e);have e2:=fL hns.nd (by omega) (by omega) (congrArg (fun x:Str × Str × Str=>x.2.2) e);exact Prod.ext e0 (Prod.ext e1 e2)
 rw[hp] at h;obtain⟨i,hi,rfl⟩:=List.mem_map.mp h;have a1:=Bo i hi;rw[hn];exact⟨a1.1,fun e=>by have:=fL hns.nd (by omega) (by omega) e;omega,iR h9 (by omega),iR h9 a1.2.2⟩
theorem nP (c:Nat):∀(xs:List (List Nat)) (y:List Nat),xs≠[]->glue c (xs++[y])=glue c xs++c::y
 |[],_,h=>absurd rfl h
 |[x],y,_=>rfl
 |x::z::r,y,_=>by
  have:=nP c (z::r) y (by simp)
  show x++c::glue c ((z::r)++[y])=(x++c::glue c (z::r))++c::y
  rw[this]
  simp
theorem Ld:(" ":Str).cps.toList=[32]:=by decide +kernel
theorem join_snoc {ws:List Str}(h:ws≠[]) (x:Str):Txt.join " " (ws++[x])=Txt.join " " ws++" "++x:=by
 apply jX;rw[dZ,dZ,Ld,nH,nH,vG,cZ,cZ,List.map_append,List.map_singleton,nP _ _ _ (by simp [h])];simp
theorem Bp (a b:Str):Txt.join " " [a,b]=a++" "++b:=by
 have:=join_snoc (ws:=[a]) (by simp) b;have e:Txt.join " " [a]=a:=by apply jX;rw[nH,vG,cZ];rfl
 rw[e] at this;exact this
theorem ie (a b c:Str):Txt.join " " [a,b,c]=a++" "++b++" "++c:=by
 have:=join_snoc (ws:=[a,b]) (by simp) c;rw[Bp] at this;exact this
def good (y:Str):Prop:=y.length<=700/\10∉y.cps.toList
theorem jm {ws:List Str}(hn:ws.length<=9) (hl:∀w∈ws,w.length<=60) (hc:∀w∈ws,cleanS w):good (Txt.join " " ws):=⟨Nat.le_trans (fj cR hn hl) (by decide),vH fun w hw=>(hc w hw).no (by decide)⟩
theorem fu {ws:List Str}(hn:ws≠[]) (hc:∀w∈ws,cleanS w):Txt.split (Txt.join " " ws) (" ":Str)=ws:=rM hn fun w hw=>(hc w hw).no (by decide)
theorem Le {s:RS}{n l:Str}{ks:List Str}(h:s.sts=[]) (h8:8<=s.tks.length):stp s (("task":Str)::n::l::ks)=.inl .row:=by
 cases e:rwB (("task":Str)::n::l::ks) with
 |false=>exact du (.inr e)
 |true=>rw[pZ h e];unfold lH;rw[if_pos h8]
theorem Fx {s:RS}{x y:Str}(h:s.sts=[]) (h8:28<=s.ors.length):stp s [("order":Str),x,y]=.inl .row:=by
 cases e:rwB [("order":Str),x,y] with
 |false=>exact du (.inr e)
 |true=>rw[p7 h e];unfold jM;rw[if_pos h8]
theorem Fy {s:RS}{x y:Str}(h:s.sts=[]) (h8:12<=s.prs.length):stp s [("apart":Str),x,y]=.inl .row:=by
 cases e:rwB [("apart":Str),x,y] with
 |false=>exact du (.inr e)
 |true=>rw[qb h e (.inr rfl)];unfold jN;rw[if_pos h8]
theorem Bq:∀(P A S:List Rw) (n:Nat) {W:Wk},Goes (A++P++S) W->goR (stL A) n (P.map Rw.words)=.inr (stL (A++P))
 |[],A,S,n,W,g=>by rw[List.append_nil];rfl
 |r::P,A,S,n,W,g=>by
  rw[List.map_cons,dw,Bb (A:=A) (r:=r) (B:=P++S) (W:=W) (by simpa using g)]
  have:=Bq P (A++[r]) S (n+1) (W:=W) (by simpa using g)
  simpa using this
section
variable {W:Wk}(g:Goes (bA W) W)
include g
theorem su {k:Nat}(hk:k<=(bA W).length):(aL W).take k=((bA W).take k).map Rw.txt:=by
 rw[<- dB];unfold d7;rw[List.take_append_of_le_length (by rw[List.length_map];exact hk),List.map_take]
theorem sy (k:Nat):(((bA W).take k).map Rw.txt).map (fun r=>Txt.split r (" ":Str))=((bA W).take k).map Rw.words:=by
 rw[List.map_map];exact List.map_congr_left fun r hr=>(g.row (List.mem_of_mem_take hr)).split
theorem vW (k:Nat):goR ⟨[],[],[],[]⟩ 1 (((bA W).take k).map Rw.words)=.inr (stL ((bA W).take k)):=Bq ((bA W).take k) [] ((bA W).drop k) 1 (by rw[List.nil_append,List.take_append_drop];exact g)
theorem lM {k:Nat}(hk:k<=(bA W).length) {x:Str}{rest:List Str}(h:stp (stL ((bA W).take k)) (Txt.split x (" ":Str))=.inl .row):rdW ((aL W).take k++x::rest)=.inl (.row,k+1):=by
 unfold rdW;rw[su g hk,List.map_append,sy g,jZ,vW g];dsimp only;rw[List.map_cons,dw,h];dsimp only;rw[List.length_map,List.length_take,Nat.min_eq_left hk,Nat.add_comm 1]
theorem vX {k:Nat}(hk:k<=(bA W).length):rdW ((aL W).take k)=.inl (.row,k+1):=by
 unfold rdW;rw[su g hk,sy g,vW g];dsimp only;rw[if_pos (.inr rfl),List.length_map,List.length_take,Nat.min_eq_left hk]
theorem vY (x:Str):rdW (aL W++[x])=.inl (.row,(aL W).length+1):=by
 have h:=vM g;have r1:=g.ok.r1;unfold rdW at h ⊢;rw[<- dB,List.map_append,jZ];cases e:goR ⟨[],[],[],[]⟩ 1 ((d7 (bA W) W).map fun r=>Txt.split r (" ":Str)) with
 |inl f=>rw[e] at h;cases h
 |inr s =>
 rw[e] at h;dsimp only at h ⊢;have hs:s.sts≠[]:=by
  by_cases c:s.tks=[]\/s.sts=[]
  ·rw[if_pos c] at h;cases h
  exact fun z=>c (.inr z)
 rw[List.map_singleton,dw,du (.inl hs)];try dsimp only
 rw[List.length_map,Nat.add_comm 1]
theorem Fz:rdW [rwR W.row]=.inl (.row,2):=by
 have r1:=g.ok.r1;unfold rdW;rw[List.map_singleton,show Txt.split (rwR W.row) (" ":Str)=("row":Str)::W.row from g.last.split,dw];cases hw:W.row with
 |nil=>rw[hw] at r1;cases r1
 |cons c b =>
  have h:=uF g.last
  rw[hw] at h
  rw[p8 (s:=⟨[],[],[],[]⟩) rfl h]
  rfl
end
end
section
def Bad (b:List Str) (n:Nat):Prop:=b≠[]/\b.length<=60/\(∀y∈b,good y)/\rdW b=.inl (.row,n)
theorem Lf (xs:List (Str × Int × List Str)):tks (xs.map .tk)=xs:=by induction xs <;> simp_all [tks]
theorem Lg (xs:List (Str × Str)):ods (xs.map .od)=xs:=by induction xs <;> simp_all [ods]
theorem FJ:rdW [("":Str)]=.inl (.row,1):=by
 unfold rdW;rw[List.map_singleton,show Txt.split ("":Str) (" ":Str)=[("":Str)] by decide +kernel,dw,du (.inr (by decide +kernel))]
theorem dg (x y z:Str):x++(y++z)=x++y++z:=by
 apply jX;simp only[dZ,List.append_assoc]
theorem QR {W:Wk}(hW:WkOk W) (t8:W.tasks.length=8) (o28:W.orders.length=28) (p12:W.pairs.length=12) (hr:W.row.length=8) (ht:∀t∈W.tasks,tkOk t/\t.2.2.length=4) {x8 x1 x0 r0 rl:Str}(N8:isNm x8) (N1:isNm x1) (N0:isNm x0) {num:Int}(c1:1<=num) (c2:num<10^60)
  (h0:(aL W)[0]?=some r0) (hl:(aL W)[48]?=some rl) :
  (Bad ((aL W).take 8++("task "++x8++" "++((toString num:String):Str))::(aL W).drop 8) 9/\Bad ((aL W).take 36++("order "++(x1++" "++x0))::(aL W).drop 36) 37)/\(Bad ((aL W).take 48++("apart "++(x1++" "++x0))::(aL W).drop 48) 49/\Bad ((aL W).take 48++[rl++" a"]) 49)/\(Bad ((r0++" zz")::(aL W).drop 1) 1/\Bad (aL W++[("":Str)]) 50/\Bad (aL W++[r0]) 50/\Bad ((aL W).take 48) 49)/\Bad ((aL W).drop 48) 2/\Bad [("":Str)] 1/\Bad ((aL W).take 1) 2:=by
 have g:=gW hW;have li:(bA W).length=48:=by unfold bA;simp only[List.length_append,List.length_map];omega
 have lr:(aL W).length=49:=by rw[<- dB];unfold d7;rw[List.length_append,List.length_map,List.length_singleton,li]
 have gd:∀y∈aL W,good y:=fun y hy=>by rw[<- dB] at hy;exact⟨Nat.le_trans (g.each hy).1 (by decide),(g.each hy).2⟩
 have gt:∀{k:Nat} {y:Str},y∈(aL W).take k->good y:=fun h=>gd _ (List.mem_of_mem_take h);have gp:∀{k:Nat} {y:Str},y∈(aL W).drop k->good y:=fun h=>gd _ (List.mem_of_mem_drop h);have mid:∀{k:Nat} {x:Str},good x->∀y∈(aL W).take k++x::(aL W).drop k,good y:=fun {k x} hx y hy=>by
  rcases List.mem_append.mp hy with h | h
  ·exact gt h
  rcases List.mem_cons.mp h with rfl | h
  ·exact hx
  exact gp h
 have lm:∀{k:Nat} {x:Str},((aL W).take k++x::(aL W).drop k).length<=60:=fun {k x}=>by rw[List.length_append,List.length_cons,List.length_take,List.length_drop];omega
 have z1:("task ":Str)++x8++" "++((toString num:String):Str)=Txt.join " " ["task",x8,((toString num:String):Str)]:=by rw[ie,show ("task ":Str)="task"++" " by decide +kernel]
 have z2:("order ":Str)++(x1++" "++x0)=Txt.join " " ["order",x1,x0]:=by rw[ie,show ("order ":Str)="order"++" " by decide +kernel,dg,dg]
 have z3:("apart ":Str)++(x1++" "++x0)=Txt.join " " ["apart",x1,x0]:=by rw[ie,show ("apart ":Str)="apart"++" " by decide +kernel,dg,dg]
 have q1:∀w∈(["task",x8,((toString num:String):Str)]:List Str),cleanS w/\w.length<=60:=fun w hw=>by
  simp only[List.mem_cons,List.not_mem_nil,or_false] at hw;rcases hw with rfl | rfl | rfl
  ·exact⟨vI,by decide +kernel⟩
  ·exact⟨N8.clean,Nat.le_trans N8.hi (by decide)⟩
  exact⟨Ai c1,iJ c1 c2⟩
 have q2:∀(z:Str),cleanS z->z.length<=60->∀w∈([z,x1,x0]:List Str),cleanS w/\w.length<=60:=fun z hz hz' w hw=>by
  simp only[List.mem_cons,List.not_mem_nil,or_false] at hw;rcases hw with rfl | rfl | rfl
  ·exact⟨hz,hz'⟩
  ·exact⟨N1.clean,Nat.le_trans N1.hi (by decide)⟩
  exact⟨N0.clean,Nat.le_trans N0.hi (by decide)⟩
 have q3:=q2 "order" rP (by decide +kernel);have q4:=q2 "apart" rQ (by decide +kernel);have tA:(bA W).take 8=W.tasks.map .tk:=by unfold bA;rw[List.append_assoc];exact List.take_left' (by rw[List.length_map];exact t8)
 have tB:(bA W).take 36=W.tasks.map .tk++W.orders.map .od:=by unfold bA;exact List.take_left' (by rw[List.length_append,List.length_map,List.length_map];omega)
 have tC:(bA W).take 48=bA W:=List.take_of_length_le (by omega);have tp:prs (bA W)=W.pairs:=g.p;have er:rl=rwR W.row:=by rw[<- dB] at hl;unfold d7 at hl;rw[List.getElem?_append_right (by rw[List.length_map];omega),List.length_map,li] at hl;exact (Option.some.inj hl).symm
 have ge0:good "":=by unfold good;exact⟨by decide +kernel,by decide +kernel⟩
 obtain⟨t0,tr,et⟩:∃t r,W.tasks=t::r:=by
  cases hh:W.tasks with
  |nil=>rw[hh] at t8;cases t8
  |cons t r=>exact⟨t,r,rfl⟩
 have e0:r0=tkR t0:=by unfold aL at h0;rw[et] at h0;exact (Option.some.inj h0).symm
 obtain⟨k0,k4⟩:=ht t0 (by rw[et];simp);have dr:(aL W).drop 48=[rwR W.row]:=by rw[<- dB];unfold d7;rw[List.drop_append_of_le_length (by rw[List.length_map];omega),List.drop_of_length_le (by rw[List.length_map];omega)];rfl
 have y4:rl++" a"=Txt.join " " ((([("row":Str)]:List Str)++W.row)++[("a":Str)]):=by rw[er,join_snoc (by simp),show (" a":Str)=" "++"a" by decide +kernel,dg];rfl
 have y5:r0++" zz"=Txt.join " " (tkW t0++[("zz":Str)]):=by rw[e0,join_snoc (by simp [tkW]),show (" zz":Str)=" "++"zz" by decide +kernel,dg];rfl
 have c4:∀w∈(([("row":Str)]:List Str)++W.row)++[("a":Str)],cleanS w:=fun w hw=>by
  rcases List.mem_append.mp hw with h | h
  ·exact g.last.clean w h
  rw[List.mem_singleton.mp h];unfold cleanS;decide +kernel
 have c5:∀w∈tkW t0++[("zz":Str)],cleanS w:=fun w hw=>by
  rcases List.mem_append.mp hw with h | h
  ·exact (RowW.tk k0).clean w h
  rw[List.mem_singleton.mp h];unfold cleanS;decide +kernel
 have gr4:good (rl++" a"):=by
  rw[er];have e:=g.last;refine⟨?_,?_⟩
  ·show ((rwR W.row).cps++(" a":Str).cps).size<=700;rw[Array.size_append];have:=e.len;have h2:(" a":Str).cps.size=2:=by decide +kernel
   have h3:(rwR W.row).cps.size<=500:=this;omega
  rw[dZ];intro h;rcases List.mem_append.mp h with h | h
  ·exact e.free h
  exact absurd h (by decide +kernel)
 have gr5:good (r0++" zz"):=by
  rw[e0];have e:=RowW.tk k0;refine⟨?_,?_⟩
  ·show ((tkR t0).cps++(" zz":Str).cps).size<=700;rw[Array.size_append];have:=e.len;have h2:(" zz":Str).cps.size=3:=by decide +kernel
   have h3:(tkR t0).cps.size<=500:=this;omega
  rw[dZ];intro h;rcases List.mem_append.mp h with h | h
  ·exact e.free h
  exact absurd h (by decide +kernel)
 refine⟨⟨⟨by simp,lm,mid ?_,?_⟩,⟨by simp,lm,mid ?_,?_⟩⟩,⟨⟨by simp,lm,mid ?_,?_⟩,⟨by simp,?_,fun y hy=>?_,?_⟩⟩,⟨⟨by simp,?_,fun y hy=>?_,?_⟩,⟨by simp,by rw[List.length_append,List.length_singleton];omega,fun y hy=>?_,?_⟩,⟨by simp,by rw[List.length_append,List.length_singleton];omega,fun y hy=>?_,?_⟩,⟨?_,by rw[List.length_take];omega,fun y hy=>gt hy,vX g (by omega)⟩⟩,⟨by rw[dr];simp,by rw[dr];simp,fun y hy=>gp hy,by rw[dr];exact Fz g⟩,⟨by simp,by simp,fun y hy=>by rw[List.mem_singleton.mp hy];exact ge0,FJ⟩,⟨?_,by rw[List.length_take];omega,fun y hy=>gt hy,vX g (by omega)⟩⟩
 ·rw[z1];exact jm (by simp) (fun w hw=>(q1 w hw).2) fun w hw=>(q1 w hw).1
 ·refine lM g (by omega) ?_;rw[z1,fu (by simp) fun w hw=>(q1 w hw).1,tA];exact Le rfl (by show 8<=(tks _).length;rw[Lf];omega)
 ·rw[z2];exact jm (by simp) (fun w hw=>(q3 w hw).2) fun w hw=>(q3 w hw).1
 ·refine lM g (by omega) ?_;rw[z2,fu (by simp) fun w hw=>(q3 w hw).1,tB];exact Fx rfl (by show 28<=(ods _).length;rw[cL,Lg,List.length_append];omega)
 ·rw[z3];exact jm (by simp) (fun w hw=>(q4 w hw).2) fun w hw=>(q4 w hw).1
 ·refine lM g (by omega) ?_;rw[z3,fu (by simp) fun w hw=>(q4 w hw).1,tC];exact Fy rfl (by show 12<=(prs _).length;rw[tp];omega)
 ·rw[List.length_append,List.length_take,List.length_singleton];omega
 ·rcases List.mem_append.mp hy with h | h
  ·exact gt h
  rw[List.mem_singleton.mp h];exact gr4
 ·refine lM g (by omega) ?_;rw[y4,fu (by simp) c4];refine du (.inr ?_);show (decide (1<=(W.row++[("a":Str)]).length)&&(decide ((W.row++[("a":Str)]).length<=8)&&(W.row++[("a":Str)]).all nmB))=false;rw[List.length_append,hr];rfl
 ·rw[List.length_cons,List.length_drop];omega
 ·rcases List.mem_cons.mp hy with rfl | h
  ·exact gr5
  exact gp h
 ·refine lM (k:=0) g (by omega) ?_;rw[y5,fu (by simp [tkW]) c5];refine du (.inr ?_);show rwB (("task":Str)::t0.1::((toString t0.2.1:String):Str)::(t0.2.2++[("zz":Str)]))=false;rw[Ax];show (decide ((t0.2.2++[("zz":Str)]).length<=4)&&_)=false;rw[List.length_append,k4];rfl
 ·rcases List.mem_append.mp hy with h | h
  ·exact gd y h
  rw[List.mem_singleton.mp h];exact ge0
 ·rw[vY g,lr]
 ·rcases List.mem_append.mp hy with h | h
  ·exact gd y h
  rw[List.mem_singleton.mp h];exact gd _ (List.mem_of_getElem? h0)
 ·rw[vY g,lr]
 ·intro e;have:=congrArg List.length e;rw[List.length_take,List.length_nil] at this;omega
 intro e;have:=congrArg List.length e;rw[List.length_take,List.length_nil] at this;omega
variable {P:Program}{w:World}{K:Frag}{mg:Str->Option Value}{base:Heap}
def vZ:Sp3:=fun ts H Q=>∃W:Wk,ts=[W.enc]/\WkOk W/\∀(q a b e r:Addr) (H':Hp3),Sub3 H H'->H' q=some (.lst [.ref a,.ref b,.ref e,.ref r])->H' a=some (.lst ((W.tasks.map tkR).map T.str))->H' b=some (.lst ((W.orders.map orR).map T.str))->H' e=some (.lst ((W.pairs.map prR).map T.str))->H' r=some (.lst [T.str (rwR W.row)])->Q (.ref q) H'
abbrev iT:List Str:=["_law_works","_law_tasks","_law_orders","_law_row"]
theorem sc_texts:FnScope iT ["_law_works"] (au (top 46)):=bG
theorem Br {f:Addr}{fd:FuncData}(g:G3 K mg "_law_texts" (top 46) ["_law_works"] f fd) (B:Bl mg):Cal P w K mg base 1 "_law_texts" (top 46) ["_law_works"] vZ:=by
 refine⟨f,fd,g,?_⟩;refine fn3 g.fn sc_texts (fun ts H Q h=>?_) (fun cdv A outer s H E ts H3 Q hr h=>?_)
 ·obtain⟨W,rfl,_⟩:=h;rfl
 obtain⟨⟨tks,ors,prs,row⟩,rfl,hW,k⟩:=h;refine⟨_,(aq (jR (i:=1) rfl sc_texts.nd (dq (n0:=(au (top 46)).names) (N:=iT) (N':=["_law_name","_law_length","_law_kinds"]) (nt:=3) (cap:=[]) rfl rfl (by decide +kernel)) (tG (aN ix3 (v3 0) ao)) (fun cl pins s H C0 fp=>⟨(jd (n:=3) rfl (bI (aR (i:=0) (show List.Nodup [("_law_name":Str),("_law_length":Str),("_law_kinds":Str)] by decide +kernel)) (bI (aR (i:=1) (show List.Nodup [("_law_name":Str),("_law_length":Str),("_law_kinds":Str)] by decide +kernel)) (bI (aR (i:=2) (show List.Nodup [("_law_name":Str),("_law_length":Str),("_law_kinds":Str)] by decide +kernel)) fG)))),cu,(cU PySem.F.plainAttrs_str PySem.F.slot_str_join PySem.F.type_str_join dW aF (aj (aD aM (bc (aj aF (aj (v3 0) (aj (aV u9 rfl B.str_ lw (aj (v3 1) ak)) ak)))) (aV u0 rfl B.list_ vf (aj (v3 2) ak))) ak))⟩))
   (aq (jR (i:=2) rfl sc_texts.nd (dq (n0:=(au (top 46)).names) (N:=iT) (N':=["_law_one","_law_other"]) (nt:=2) (cap:=[]) rfl rfl (by decide +kernel)) (tG (aN ix3 (v3 0) ao)) (fun cl pins s H C0 fp=>⟨(jd (n:=2) rfl (bI (aR (i:=0) (show List.Nodup [("_law_one":Str),("_law_other":Str)] by decide +kernel)) (bI (aR (i:=1) (show List.Nodup [("_law_one":Str),("_law_other":Str)] by decide +kernel)) fG))),cu,(cU PySem.F.plainAttrs_str PySem.F.slot_str_join PySem.F.type_str_join dW aF (aj (bc (aj aF (aj (v3 0) (aj (v3 1) ak)))) ak))⟩))
   (aq (aJ (i:=3) sc_texts.nd (cU PySem.F.plainAttrs_str PySem.F.slot_str_join PySem.F.type_str_join dW aF (aj (aD aM (bc (aj aF ak)) (aV u0 rfl B.list_ vf (aj (aN ix3 (v3 0) ao) ak))) ak)))
   (aB (aP (bc (aj (v3 1) (aj (v3 2) (aj (dU rfl (dq (n0:=(au (top 46)).names) (N:=iT) (N':=["_law_pair"]) (nt:=1) (cap:=[]) rfl rfl (by decide +kernel)) (tG (aN ix3 (v3 0) ao)) (fun cl pins s H C0 fp=>⟨(aR (i:=0) (show List.Nodup [("_law_pair":Str)] by decide +kernel)),cu,(cU PySem.F.plainAttrs_str PySem.F.slot_str_join PySem.F.type_str_join dW aF (aj (v3 0) ak))⟩)) (aj (bc (aj (v3 3) ak)) ak)))))))))),?_⟩
 rw[show aU iT [Wk.enc ⟨tks,ors,prs,row⟩]=[some (T.tup [T.tup (tks.map tkT),T.tup (ors.map orT),T.tup (prs.map prT),sT row]),none,none,none] from rfl];have hsz:sizeLine=16777216:=rfl;have k':=Box.mk k;clear k;have t8:tks.length<=8:=hW.t8;have o28:ors.length<=28:=hW.os;have p12:prs.length<=12:=hW.ps;have r8:row.length<=8:=hW.r8;refine aG fun R0 hR0=>?_;walk_at "";walk_at "c";refine dG (fun r ys U H=>∃(rs ds:List (Str × Int × List Str)) (v0 v1 v2:Option T),U=[v0,v1,v2]/\r=rs.map tkT/\ys=(ds.map tkR).map T.str/\ds++rs=tks/\Sub3 H3 H) ⟨tks,[],none,none,none,rfl,rfl,rfl,rfl,Sub3.refl⟩ ?_ ?_;rotate_left
 ·rintro x r ys U H N ⟨rs,ds,v0,v1,v2,rfl,hrs,rfl,hsp,hS⟩ hN;have hN':=Box.mk hN;clear hN hR0;cases rs with
  |nil=>cases hrs
  |cons t rs =>
  rw[List.map_cons,List.cons.injEq] at hrs;obtain⟨rfl,rfl⟩:=hrs;have ht:=hW.tk t (by show t∈tks;rw[<- hsp];simp);have hl:=congrArg List.length hsp;simp only[List.length_append,List.length_cons] at hl;have hsp':=Box.mk hsp;clear hsp;obtain⟨nm,n,ks⟩:=t;have h1:n.natAbs.log2<1920:=vD ht.lo ht.hi;have hk:ks.length<=4:=ht.kl;have hw:=uB ht;have e:=cG (tkW (nm,n,ks));simp only[tkW,List.map_append,List.map_cons,List.map_nil] at e;clear ht;refine⟨trivial,?_⟩;rw[show tkT (nm,n,ks)=T.tup [T.str nm,T.int n,T.tup (List.map T.str ks)] from rfl];walk_at "";refine⟨trivial,trivial,trivial,by decide,fun z1 h1z z2 h2z=>?_⟩;replace hS:=hS.trans (Sub3.new (o:=.lst [T.str "task",T.str nm,T.str ((toString n:String):Str)]) h1z);have g1:up3 H z1 (.lst [T.str "task",T.str nm,T.str ((toString n:String):Str)]) z1=some (.lst [T.str "task",T.str nm,T.str ((toString n:String):Str)]):=aA;generalize up3 H z1 (.lst [T.str "task",T.str nm,T.str ((toString n:String):Str)])=H5 at hS g1 h2z;rw[aC (bN g1 h2z),g1,jh];refine⟨by simp only[List.length_cons,List.length_nil,List.length_map];omega,fun z3 h3z=>?_⟩;replace hS:=(hS.trans (Sub3.new (o:=.lst (ks.map T.str)) h2z)).trans (Sub3.new (o:=.lst ([T.str "task",T.str nm,T.str ((toString n:String):Str)]++ks.map T.str)) h3z);clear g1 h2z;walk_at "";exact⟨nG cR hw.1 hw.2 (by decide),by omega,hN'.out _ _ _ ⟨rs,ds++[(nm,n,ks)],_,_,_,rfl,rfl,by simp [tkR,tkW],by rw[<- hsp'.out];simp,hS⟩⟩
 rintro ys U H ⟨rs,ds,v0,v1,v2,rfl,hrs,rfl,hsp,hS⟩;have hrs':rs=[]:=List.map_eq_nil_iff.mp hrs.symm;subst hrs';rw[List.append_nil] at hsp;subst hsp;refine⟨trivial,by rw[List.length_map,List.length_map];omega,fun a ha=>?_⟩;replace hS:=hS.trans (Sub3.new (o:=.lst ((ds.map tkR).map T.str)) ha);have ga:up3 H a (.lst ((ds.map tkR).map T.str)) a=_:=aA;generalize up3 H a (.lst ((ds.map tkR).map T.str))=H1 at hS ga;clear ha hrs;walk_at "n";refine aG fun R0 hR0=>?_;walk_at "";walk_at "c";refine dG (fun r ys U H=>∃(rs es:List (Str × Str)) (v0 v1:Option T),U=[v0,v1]/\r=rs.map orT/\ys=(es.map orR).map T.str/\es++rs=ors/\Sub3 H3 H/\H a=some (.lst ((ds.map tkR).map T.str))) ⟨ors,[],none,none,rfl,rfl,rfl,rfl,hS,ga⟩ ?_ ?_;rotate_left
 ·rintro x r ys U H N ⟨rs,es,v0,v1,rfl,hrs,rfl,hsp,hS,ga⟩ hN;have hN':=Box.mk hN;clear hN hR0;cases rs with
  |nil=>cases hrs
  |cons t rs =>
  rw[List.map_cons,List.cons.injEq] at hrs;obtain⟨rfl,rfl⟩:=hrs;obtain⟨_,g1,g2⟩:=hW.oo t (by show t∈ors;rw[<- hsp];simp);have hl:=congrArg List.length hsp;simp only[List.length_append,List.length_cons] at hl;have hsp':=Box.mk hsp;clear hsp;obtain⟨x1,x2⟩:=t;have hle:=Ad (o:=(x1,x2)) (hW.nm1 g1) (hW.nm1 g2);have e:=cG [("order":Str),x1,x2];simp only[List.map_cons,List.map_nil] at e;refine⟨trivial,?_⟩;rw[show orT (x1,x2)=T.tup [T.str x1,T.str x2] from rfl];walk_at "";exact⟨trivial,trivial,by decide,fun z hz=>⟨nG cR (n:=3) (by simp) hle (by decide),by omega,hN'.out _ _ _ ⟨rs,es++[(x1,x2)],_,_,rfl,rfl,by simp [orR],by rw[<- hsp'.out];simp,hS.trans (Sub3.new hz),by rw[aC (bN ga hz)];exact ga⟩⟩⟩
 rintro ys U H ⟨rs,es,v0,v1,rfl,hrs,rfl,hsp,hS,ga⟩;have hrs':rs=[]:=List.map_eq_nil_iff.mp hrs.symm;subst hrs';rw[List.append_nil] at hsp;subst hsp;refine⟨trivial,by rw[List.length_map,List.length_map];omega,fun b hb=>?_⟩;replace ga:up3 H b (.lst ((es.map orR).map T.str)) a=_ := upa ga hb;replace hS:=hS.trans (Sub3.new (o:=.lst ((es.map orR).map T.str)) hb);have gb:up3 H b (.lst ((es.map orR).map T.str)) b=_:=aA;generalize up3 H b (.lst ((es.map orR).map T.str))=H2 at hS ga gb;clear hb hrs;walk_at "n";have e:=cG (([("row":Str)]:List Str)++row);simp only[List.map_append,List.map_cons,List.map_nil] at e;refine aG fun R0 hR0=>?_;rw[show sT row=T.tup (List.map T.str row) from rfl];walk_at "";refine⟨trivial,by decide,fun z1 h1z z2 h2z=>?_⟩;replace ga:up3 H2 z1 (.lst [T.str "row"]) a=_ := upa ga h1z;replace gb:up3 H2 z1 (.lst [T.str "row"]) b=_ := upa gb h1z;replace hS:=hS.trans (Sub3.new (o:=.lst [T.str "row"]) h1z);have g1:up3 H2 z1 (.lst [T.str "row"]) z1=some (.lst [T.str "row"]):=aA;generalize up3 H2 z1 (.lst [T.str "row"])=H4 at hS g1 h2z ga gb;rw[aC (bN g1 h2z),g1,jh];replace ga:up3 H4 z2 (.lst (row.map T.str)) a=_ := upa ga h2z;replace gb:up3 H4 z2 (.lst (row.map T.str)) b=_ := upa gb h2z;replace hS:=hS.trans (Sub3.new (o:=.lst (row.map T.str)) h2z);generalize up3 H4 z2 (.lst (row.map T.str))=H5 at hS ga gb;refine⟨by simp only[List.length_cons,List.length_nil,List.length_map];omega,fun z3 h3z=>?_⟩;replace ga:up3 H5 z3 (.lst ([T.str "row"]++row.map T.str)) a=_ := upa ga h3z;replace gb:up3 H5 z3 (.lst ([T.str "row"]++row.map T.str)) b=_ := upa gb h3z;replace hS:=hS.trans (Sub3.new (o:=.lst ([T.str "row"]++row.map T.str)) h3z);have g3:up3 H5 z3 (.lst ([T.str "row"]++row.map T.str)) z3=some (.lst ([T.str "row"]++row.map T.str)):=aA;generalize up3 H5 z3 (.lst ([T.str "row"]++row.map T.str))=H6 at hS ga gb g3;clear g1 h2z h1z;walk_at "";refine⟨nG cR (n:=9) (by simp only[List.length_append,List.length_singleton];omega) (Af hW.rn) (by decide),?_⟩;rw[show Txt.join " " (([("row":Str)]:List Str)++row)=rwR row from rfl];clear e g3;walk_at "n";walk_at "";walk_at "c";refine cH prT (fun o=>T.str (prR o)) prs [] trivial (by omega) (fun o ho Q' hq=>?_) (fun u hu=>⟨by decide,fun r hr=>⟨by decide,fun q hq=>?_⟩⟩)
 ·obtain⟨g0,_,g1,g2⟩:=hW.pp o ho;obtain⟨x0,x1,x2⟩:=o;have hle:=Ae (o:=(x0,x1,x2)) g0 (hW.nm1 g1) (hW.nm1 g2);have e:=cG [x0,x1,x2];simp only[List.map_cons,List.map_nil] at e;rw[show prT (x0,x1,x2)=T.tup [T.str x0,T.str x1,T.str x2] from rfl];clear k';walk_at "";exact⟨trivial,nG cR (n:=3) (by simp) hle (by decide),hq⟩
 have em:prs.map (fun o=>T.str (prR o))=(prs.map prR).map T.str:=by rw[List.map_map];rfl
 rw[em] at hr hq ⊢;have gu:up3 H6 u (.lst ((prs.map prR).map T.str)) u=some (.lst ((prs.map prR).map T.str)):=aA;replace ga:up3 H6 u (.lst ((prs.map prR).map T.str)) a=_ := upa ga hu;replace gb:up3 H6 u (.lst ((prs.map prR).map T.str)) b=_ := upa gb hu;replace hS:=hS.trans (Sub3.new (o:=.lst ((prs.map prR).map T.str)) hu);generalize up3 H6 u (.lst ((prs.map prR).map T.str))=H7 at hS ga gb gu hr hq;have gr:up3 H7 r (.lst [T.str (rwR row)]) r=some (.lst [T.str (rwR row)]):=aA;replace gu:up3 H7 r (.lst [T.str (rwR row)]) u=_ := upa gu hr;replace ga:up3 H7 r (.lst [T.str (rwR row)]) a=_ := upa ga hr;replace gb:up3 H7 r (.lst [T.str (rwR row)]) b=_ := upa gb hr;replace hS:=hS.trans (Sub3.new (o:=.lst [T.str (rwR row)]) hr);generalize up3 H7 r (.lst [T.str (rwR row)])=H8 at hS ga gb gu gr hq;have hS':=hS.trans (Sub3.new (o:=.lst [.ref a,.ref b,.ref u,.ref r]) hq);exact Fin3.of Sub3.refl (k'.out q a b u r _ hS' aA (by rw[aC (bN ga hq)];exact ga) (by rw[aC (bN gb hq)];exact gb) (by rw[aC (bN gu hq)];exact gu) (by rw[aC (bN gr hq)];exact gr))
variable {d:Nat}
abbrev ig:List Str:=["_law_one","_law_other"]
theorem FN:FnScope ig ig (au (top 41)):=bG
theorem iU {f:Addr}{fd:FuncData}(g:G3 K mg "_law_same" (top 41) ig f fd) (B:Bl mg) (F_same:Cal P w K mg base d "_law_same" (top 41) ig (tU d)):Cal P w K mg base (d+1) "_law_same" (top 41) ig (tU (d+1)):=by
 refine⟨f,fd,g,?_⟩;refine fn3 g.fn FN (fun ts H Q h=>?_) (fun cdv A outer s H E ts H3 Q hr h=>?_)
 ·obtain⟨t,_,rfl,_⟩:=h;rfl
 have hu30:=Room.u30 hr;obtain⟨t,_,rfl,hs,k⟩:=h;replace hs:shp d t=true:=hs;refine⟨_,(aq (bO (dO (aK gm rfl B.isinstance_ aQ (aj (v3 0) (aj (jA rfl B.str_ lw) ak)))) (aB (aP (cF (aK gm rfl B.isinstance_ aQ (aj (v3 1) (aj (jA rfl B.str_ lw) ak))) (dm (gh (cM hu30) (v3 0) (v3 1)))))) bh)
   (aq (bO (dR (dO (aK gm rfl B.isinstance_ aQ (aj (v3 0) (aj (jA rfl B.tuple_ bQ) ak))))) (aB (aP (cF (aK gm rfl B.isinstance_ aQ (aj (v3 1) (aj (jA rfl B.int_ lq) ak))) (cF (oJ (aK gm rfl B.isinstance_ aQ (aj (v3 1) (aj (jA rfl B.bool_ Du) ak)))) (dm (gh (cM hu30) (v3 0) (v3 1))))))) bh)
   (aq (bO (PW3.pt (jw (dR (dO (aK gm rfl B.isinstance_ aQ (aj (v3 1) (aj (jA rfl B.tuple_ bQ) ak))))) (gj (bu (Gy hu30) (aK bV rfl B.len_ bW (aj (v3 0) ak)) (aK bV rfl B.len_ bW (aj (v3 1) ak)))))) (aB (aP ju)) bh)
   (aB (aP (aK (oZ rfl) rfl B.all_ oV (aj (dU rfl (dq (n0:=(au (top 41)).names) (N:=ig) (N':=["_law_here","_law_there"]) (nt:=2) (cap:=[]) rfl rfl (by decide +kernel)) (JR rfl B.zip_ (aj (v3 0) (aj (v3 1) ak))) (fun cl pins s H C0 fp=>⟨(jd (n:=2) rfl (bI (aR (i:=0) (show List.Nodup [("_law_here":Str),("_law_there":Str)] by decide +kernel)) (bI (aR (i:=1) (show List.Nodup [("_law_here":Str),("_law_there":Str)] by decide +kernel)) fG))),cu,(zH F_same (hr.mono (Nat.le_refl _)) rfl (aj (v3 0) (aj (v3 1) ak)))⟩)) ak))))))),?_⟩
 rw[show aU ig [t,t]=[some (t),some (t)] from rfl];cases t with
 |str x=>walk_at "";exact Fin3.of Sub3.refl k
 |int i=>walk_at "";exact Fin3.of Sub3.refl k
 |tup us =>
  cases d with
  |zero=>cases hs
  |succ d =>
   have hs':(decide (us.length<=sizeLine)&&us.all (shp d))=true:=hs
   rw[Bool.and_eq_true,decide_eq_true_iff,List.all_eq_true] at hs'
   obtain⟨hl,hs'⟩:=hs'
   walk_at ""
   rw[show jL 2 [] [some (T.tup us),some (T.tup us)]=[none,none] from rfl]
   refine qO id id (fun _=>T.bl true) us [] trivial hl (fun a ha Q' hq=>?_) (fun p hp=>?_)
   ·
    walk_at ""
    exact⟨a,by simp,rfl,hs' a ha,hq⟩
   ·
    rw[tV,eF,zu]
    exact Fin3.of (Sub3.new hp) k
 |non=>cases d <;> cases hs
 |bl b=>cases d <;> cases hs
 |ref a=>cases d <;> cases hs
 |ty n=>cases d <;> cases hs
theorem Hn (n:Nat) (xs:List Str) (h:xs.length<=sizeLine):shp (n+1) (.tup (xs.map T.str))=true:=by
 show (decide ((xs.map T.str).length<=sizeLine)&&(xs.map T.str).all (shp n))=true;rw[Bool.and_eq_true,decide_eq_true_iff,List.length_map,List.all_eq_true];refine⟨h,fun t ht=>?_⟩;obtain⟨x,_,rfl⟩:=List.mem_map.mp ht;cases n <;> rfl
theorem Bt {α:Type}(n:Nat) (xs:List α) (f:α->T) (h:xs.length<=sizeLine) (hf:∀x∈xs,shp n (f x)=true):shp (n+1) (.tup (xs.map f))=true:=by
 show (decide ((xs.map f).length<=sizeLine)&&(xs.map f).all (shp n))=true;rw[Bool.and_eq_true,decide_eq_true_iff,List.length_map,List.all_eq_true];refine⟨h,fun t ht=>?_⟩;obtain⟨x,hx,rfl⟩:=List.mem_map.mp ht;exact hf x hx
theorem Py {W:Wk}(h:WkOk W):shp 4 W.enc=true:=by
 have hsz:sizeLine=16777216:=rfl;have h1:shp 3 (.tup (W.tasks.map tkT))=true:=Bt 2 _ _ (by have:=h.t8;omega) fun t ht=>by have:=Hn 0 t.2.2 (by have:=(h.tk t ht).kl;omega);show (decide (3<=sizeLine)&&(true&&(true&&(shp 1 (sT t.2.2)&&true))))=true;rw[show shp 1 (sT t.2.2)=true from this];decide
 have h2:shp 3 (.tup (W.orders.map orT))=true:=Bt 2 _ _ (by have:=h.os;omega) fun t ht=>rfl;have h3:shp 3 (.tup (W.pairs.map prT))=true:=Bt 2 _ _ (by have:=h.ps;omega) fun t ht=>rfl;have h4:shp 3 (sT W.row)=true:=Hn 2 _ (by have:=h.r8;omega);show (decide (4<=sizeLine)&&(shp 3 (.tup (W.tasks.map tkT))&&(shp 3 (.tup (W.orders.map orT))&&(shp 3 (.tup (W.pairs.map prT))&&(shp 3 (sT W.row)&&true)))))=true;rw[h1,h2,h3,h4];decide
def FP (t:T) (H:Hp3):Prop:=isT "str" t H=some false
def Rds (t:T) (H:Hp3) (R:(Flt × Nat) ⊕ RS):Prop:=(∃z:Str,t=.str z/\z.length<=90000/\R=rdW (Txt.split z ("\n":Str)))\/(FP t H/\R=.inl (.row,0))
def Hq (CN CT CK:Addr):iG:=fun ts H Q E=>∃(t:T) (R:(Flt × Nat) ⊕ RS),ts=[t]/\Rds t H R/\(∀f n,R=.inl (f,n)->E (K5 CN CT CK f) (fs1 n) H)/\∀s,R=.inr s->Q s.wk.enc H
theorem mj:FnScope ["text"] ["text"] (au (top 34)):=bG
theorem mq {f:Addr}{fd:FuncData}(g:G3 K mg "read_works" (top 34) ["text"] f fd) (B:Bl mg) {C_Twice C_NoTask:Addr}(C:Cs K mg) {C_NoRow:Addr}(X_NoRow:ExcC P w K mg base "NoRow" C_NoRow ["row"]) (F_read_rows:CalX P w K mg base 5 "read_rows" (top 33) ["rows"] (Aw C_NoRow C_Twice C_NoTask)):CalX P w K mg base 6 "read_works" (top 34) ["text"] (Hq C_NoRow C_Twice C_NoTask):=by
 refine⟨f,fd,g,?_⟩;refine fnX g.fn mj (fun ts H Q E h=>?_) (fun cdv A outer s H E ts H3 Q E3 hr h hM=>?_)
 ·obtain⟨t,R,rfl,_⟩:=h;rfl
 obtain⟨t,R,rfl,hR,k1,k2⟩:=h;refine⟨_,(aq (bO (dR (dO (aK gm rfl B.isinstance_ aQ (aj (v3 0) (aj (jA rfl B.str_ lw) ak))))) (aB (cg X_NoRow hM (hr.mono (by decide)) rfl rfl (aj ao ak))) bh)
   (aB (aP (dY F_read_rows hM (hr.mono (by decide)) rfl (aj (cU PySem.F.plainAttrs_str PySem.F.slot_str_split PySem.F.type_str_split q8 (v3 0) (aj aF ak)) ak))))),?_⟩
 rw[show aU ["text"] [t]=[some (t)] from rfl];have hsz:sizeLine=16777216:=rfl;have k1':=Box.mk k1;have k2':=Box.mk k2;clear k1 k2;rcases hR with ⟨z,rfl,hl,rfl⟩ | ⟨hn,rfl⟩
 ·have hnl:(("\n":Str).length==0)=false:=by decide +kernel
  have hzl:z.length+2<=16777216:=by omega
  obtain⟨s1,s2,s3⟩:=rT z ("\n":Str);clear hsz;walk_at "";refine⟨trivial,trivial,hzl,fun p hp=>?_⟩;exact⟨p,_,rfl,aA,by omega,fun r hr=>Nat.le_trans (s3 r hr) (by omega),fun f n h=>⟨H3,Sub3.new hp,k1'.out f n h⟩,fun s h=>Fin3.of (Sub3.new hp) (k2'.out s h)⟩
 unfold FP at hn;walk_at "";exact⟨trivial,H3,Sub3.refl,k1'.out .row 0 rfl⟩
def Hr (K:Frag) (fv:List Value):Sp3:=fun ts H Q=>∃(ea C dx:Addr) (fs:List (Str × T)),ts=[.ref ea]/\H ea=some (.exc C dx)/\H dx=some (.xdt fs)/\XIs K C/\kitAny K (.ref C) fv=some false/\kitOne K (.ref C) (.type "ValueError")=some true/\Q (.bl true) H
theorem Bu:FnScope ["_law_e"] ["_law_e"] (au (top 42)):=bG
theorem Bv {f:Addr}{fd:FuncData}(g:G3 K mg "_law_alone" (top 42) ["_law_e"] f fd) (B:Bl mg) {C_NoRoom C_NoStand C_Ring C_TooLong C_Torn:Addr}(m_NoRoom:mg "NoRoom"=some (.ref C_NoRoom)) (m_NoStand:mg "NoStand"=some (.ref C_NoStand)) (m_Ring:mg "Ring"=some (.ref C_Ring)) (m_TooLong:mg "TooLong"=some (.ref C_TooLong)) (m_Torn:mg "Torn"=some (.ref C_Torn)) (b_ValueError:mg "ValueError"=none):CalH P w K mg base 1 "_law_alone" (top 42) ["_law_e"] (Hr K [.ref C_NoRoom,.ref C_NoStand,.ref C_Ring,.ref C_TooLong,.ref C_Torn]):=by
 refine⟨f,fd,g,?_⟩;refine QD g.fn Bu (fun ts H Q h=>?_) (fun cdv A outer s H E ts H3 Q hr h=>?_)
 ·obtain⟨ea,C,dx,fs,rfl,_⟩:=h;rfl
 obtain⟨ea,C,dx,fs,rfl,g1,g2,G,hA,hV,k⟩:=h;refine⟨_,(aB (aP (cF (oJ (aK (iH (K:=K) rfl) rfl B.isinstance_ aQ (aj (v3 0) (aj (aZ (aj (dC rfl m_NoRoom) (aj (dC rfl m_NoStand) (aj (dC rfl m_Ring) (aj (dC rfl m_TooLong) (aj (dC rfl m_Torn) ak)))))) ak)))) (dm (aK (iH (K:=K) rfl) rfl B.isinstance_ aQ (aj (v3 0) (aj (jA rfl b_ValueError lV) ak))))))),?_⟩;rw[show aU ["_law_e"] [T.ref ea]=[some (T.ref ea)] from rfl];have ty:TyX K H3 (.ref ea) (.ref C):=.inr ⟨ea,C,dx,_,rfl,g1,g2,G,rfl⟩;walk_at "";refine⟨by decide,.ref ea,_,.ref C,false,rfl,ty,.inr ⟨_,_,rfl,rfl,hA⟩,?_⟩;walk_at "";exact⟨.ref ea,_,.ref C,true,rfl,ty,.inl ⟨_,rfl,hV⟩,Fin3.of Sub3.refl k⟩
def wdF:Flt->Str
 |.row=>"row"
 |.twice=>"twice"
 |.task=>"task"
theorem bT {H:Hp3}{p:Addr}{o:O3}(hp:H p=none):∃H',up3 H p o=H'/\H' p=some o/\Sub3 H H':=⟨_,rfl,aA,Sub3.new hp⟩
theorem uG {H:Hp3}{ea dx C:Addr}{fs:List (Str × T)}(h1:H ea=none) (h2:H dx=none) (h3:ea≠dx):∃H',up3 (up3 H dx (.xdt fs)) ea (.exc C dx)=H'/\H' ea=some (.exc C dx)/\H' dx=some (.xdt fs)/\Sub3 H H' :=
 ⟨_,rfl,aA,by rw[aC (Ne.symm h3)];exact aA,(Sub3.new h2).trans (Sub3.new (by rw[aC h3];exact h1))⟩
def Bw:Sp3:=fun ts H Q=>∃(t:T) (R:(Flt × Nat) ⊕ RS),ts=[t]/\Rds t H R/\(∀f n,R=.inl (f,n)->Q (.tup [.str (wdF f),.int n]) H)/\∀s,R=.inr s->Q (.tup [.str "works",s.wk.enc]) H
abbrev Bx:List Str:=["_law_thing","_law_found","_law_word_here","_law_e"]
theorem sc_told:FnScope Bx ["_law_thing"] (au (top 43)):=bG
theorem FQ {f:Addr}{fd:FuncData}(g:G3 K mg "_law_told" (top 43) ["_law_thing"] f fd) (B:Bl mg) {C_RowError C_NoRoom C_NoStand C_Ring C_TooLong C_Torn C_NoRow C_Twice C_NoTask:Addr}(A_NoRow:AskC K mg "NoRow" C_NoRow) (A_Twice:AskC K mg "Twice" C_Twice) (A_NoTask:AskC K mg "NoTask" C_NoTask) (m_NoRow:mg "NoRow"=some (.ref C_NoRow)) (m_Twice:mg "Twice"=some (.ref C_Twice)) (m_NoTask:mg "NoTask"=some (.ref C_NoTask)) (m_RowError:mg "RowError"=some (.ref C_RowError)) (G_NoRow:XIs K C_NoRow) (hA_NoRow:kitAny K (.ref C_NoRow) [.ref C_NoRoom,.ref C_NoStand,.ref C_Ring,.ref C_TooLong,.ref C_Torn]=some false) (hV_NoRow:kitOne K (.ref C_NoRow) (.type "ValueError")=some true) (f_NoRow:findIn K (.ref C_NoRow) "row"=some none) (mr_NoRow_NoRow:mroIn K C_NoRow (.ref C_NoRow)=some true) (mr_NoRow_Twice:mroIn K C_NoRow (.ref C_Twice)=some false) (mr_NoRow_NoTask:mroIn K C_NoRow (.ref C_NoTask)=some false) (G_Twice:XIs K C_Twice) (hA_Twice:kitAny K (.ref C_Twice) [.ref C_NoRoom,.ref C_NoStand,.ref C_Ring,.ref C_TooLong,.ref C_Torn]=some false) (hV_Twice:kitOne K (.ref C_Twice) (.type "ValueError")=some true) (f_Twice:findIn K (.ref C_Twice) "row"=some none) (mr_Twice_NoRow:mroIn K C_Twice (.ref C_NoRow)=some false) (mr_Twice_Twice:mroIn K C_Twice (.ref C_Twice)=some true) (mr_Twice_NoTask:mroIn K C_Twice (.ref C_NoTask)=some false) (G_NoTask:XIs K C_NoTask) (hA_NoTask:kitAny K (.ref C_NoTask) [.ref C_NoRoom,.ref C_NoStand,.ref C_Ring,.ref C_TooLong,.ref C_Torn]=some false) (hV_NoTask:kitOne K (.ref C_NoTask) (.type "ValueError")=some true) (f_NoTask:findIn K (.ref C_NoTask) "row"=some none) (mr_NoTask_NoRow:mroIn K C_NoTask (.ref C_NoRow)=some false) (mr_NoTask_Twice:mroIn K C_NoTask (.ref C_Twice)=some false) (mr_NoTask_NoTask:mroIn K C_NoTask (.ref C_NoTask)=some true) (i1:kitAny K (.ref C_NoRow) [.ref C_NoTask,.ref C_Twice]=some false) (i2:kitAny K (.ref C_Twice) [.ref C_NoTask,.ref C_NoRow]=some false) (i3:kitOne K (.ref C_NoTask) (.ref C_RowError)=some true) (F_alone:CalH P w K mg base 1 "_law_alone" (top 42) ["_law_e"] (Hr K [.ref C_NoRoom,.ref C_NoStand,.ref C_Ring,.ref C_TooLong,.ref C_Torn])) (F_read_works:CalX P w K mg base 6 "read_works" (top 34) ["text"] (Hq C_NoRow C_Twice C_NoTask)):Cal P w K mg base 7 "_law_told" (top 43) ["_law_thing"] Bw:=by
 refine⟨f,fd,g,?_⟩;refine fn3 g.fn sc_told (fun ts H Q h=>?_) (fun cdv A outer s H E ts H3 Q hr h=>?_)
 ·obtain⟨t,R,rfl,_⟩:=h;rfl
 obtain⟨t,R,rfl,hR,k1,k2⟩:=h;refine⟨_,(aq (aJ (i:=1) sc_told.nd yp)
   (aq (aJ (i:=2) sc_told.nd aF)
   (aq (Ep 3 (Hds3.cons A_NoRow rfl (fun ea=>(aq (aJ (i:=2) sc_told.nd (aN ix3 (bc (aj aF (aj aF ak))) (aV oR rfl B.int_ lq (aj (cF (uw F_alone (zZ hr (by decide)) rfl (aj (v3 3) ak)) (dm (oJ (aK (iH (K:=K) rfl) rfl B.isinstance_ aQ (aj (v3 3) (aj (aZ (aj (dC rfl m_NoTask) (aj (dC rfl m_Twice) ak))) ak)))))) ak))))
    (aB (aJ (i:=1) sc_told.nd (uq (K:=K) rfl (v3 3)))))) (Hds3.cons A_Twice rfl (fun ea=>(aq (aJ (i:=2) sc_told.nd (aN ix3 (bc (aj aF (aj aF ak))) (aV oR rfl B.int_ lq (aj (cF (uw F_alone (zZ hr (by decide)) rfl (aj (v3 3) ak)) (dm (oJ (aK (iH (K:=K) rfl) rfl B.isinstance_ aQ (aj (v3 3) (aj (aZ (aj (dC rfl m_NoTask) (aj (dC rfl m_NoRow) ak))) ak)))))) ak))))
    (aB (aJ (i:=1) sc_told.nd (uq (K:=K) rfl (v3 3)))))) (Hds3.cons A_NoTask rfl (fun ea=>(aq (aJ (i:=2) sc_told.nd (aN ix3 (bc (aj aF (aj aF ak))) (aV oR rfl B.int_ lq (aj (cF (uw F_alone (zZ hr (by decide)) rfl (aj (v3 3) ak)) (dm (aK (iH (K:=K) rfl) rfl B.isinstance_ aQ (aj (v3 3) (aj (dC rfl m_RowError) ak))))) ak))))
    (aB (aJ (i:=1) sc_told.nd (uq (K:=K) rfl (v3 3)))))) Hds3.nil))) (by simp) sc_told.nd rfl rfl rfl rfl (fun xe pn H0 E3 hM=>(aB (aJ (i:=1) sc_told.nd (dY F_read_works hM (hr.mono (by decide)) rfl (aj (v3 0) ak))))))
   (aB (aP (aZ (aj (v3 2) (aj (v3 1) ak)))))))),?_⟩
 rw[show aU Bx [t]=[some (t),none,none,none] from rfl];have hsz:sizeLine=16777216:=rfl;have k1':=Box.mk k1;have k2':=Box.mk k2;clear k1 k2;refine aG fun R0 hR0=>?_;walk_at "";walk_at "n";refine aG fun R0 hR0=>?_;walk_at "";walk_at "n";refine aG fun R1 hR1=>?_;have rest:∀(wd:Str) (v:T) (H:Hp3),Sub3 H3 H->Q (.tup [.str wd,v]) H3->R1 { nx:=fun x H'=>Fin3 Q T.non H',rt:=Fin3 Q} [some t,some v,some (.str wd),none] H:=by intro wd v H hS q;walk_at "n";walk_at "";exact⟨by decide,Fin3.of hS q⟩
 have rest':=Box.mk rest;clear rest hR1;walk_at "";refine⟨t,R,rfl,hR,fun f n h=>?_,fun s h=>rest'.out "works" s.wk.enc H3 Sub3.refl (k2'.out s h)⟩;have q:=k1'.out f n h;clear k1' k2' h;cases f with
 |row=>refine (fun k=>.inl ⟨mr_NoRow_NoRow,k⟩) (fun ea dx h1 h2 h3=>?_);obtain⟨H4,e4,g1,g2,hS⟩:=uG (C:=C_NoRow) (fs:=fs1 n) h1 h2 h3;show iy _ _ _ _ (up3 (up3 H3 dx (.xdt (fs1 n))) ea (.exc C_NoRow dx));rw[e4];have fin:=Box.mk (fun H (hH:Sub3 H4 H)=>rest'.out (wdF .row) (.int n) H (hS.trans hH) q);clear rest' q h1 h2 h3 hS e4;refine aG fun R2 hR2=>?_;walk_at "";refine⟨by decide,fun p hp=>?_⟩;obtain⟨H8,e8,gp,hS8⟩:=bT (o:=.lst [T.str "bad",T.str "row"]) hp;rw[e8];replace g1:=hS8 _ _ g1;replace g2:=hS8 _ _ g2;have ty:TyX K H8 (.ref ea) (.ref C_NoRow):=.inr ⟨ea,C_NoRow,dx,_,rfl,g1,g2,G_NoRow,rfl⟩;have fin8:=Box.mk (fin.out H8 hS8);clear fin hS8 hp e8;refine⟨ea,C_NoRow,dx,_,rfl,g1,g2,G_NoRow,hA_NoRow,hV_NoRow,?_⟩;walk_at "";refine⟨by decide,.ref ea,_,.ref C_NoRow,false,rfl,ty,.inr ⟨_,_,rfl,rfl,i1⟩,?_⟩;walk_at "";walk_at "n";clear ty;walk_at "";refine⟨ea,C_NoRow,dx,_,_,rfl,g1,g2,G_NoRow.toXGet,f_NoRow,rfl,?_⟩;simp only[Ends3.gone];walk_at "";exact fin8.out
 |twice=>refine (fun k=>.inr ⟨mr_Twice_NoRow,.inl ⟨mr_Twice_Twice,k⟩⟩) (fun ea dx h1 h2 h3=>?_);obtain⟨H4,e4,g1,g2,hS⟩:=uG (C:=C_Twice) (fs:=fs1 n) h1 h2 h3;show iy _ _ _ _ (up3 (up3 H3 dx (.xdt (fs1 n))) ea (.exc C_Twice dx));rw[e4];have fin:=Box.mk (fun H (hH:Sub3 H4 H)=>rest'.out (wdF .twice) (.int n) H (hS.trans hH) q);clear rest' q h1 h2 h3 hS e4;refine aG fun R2 hR2=>?_;walk_at "";refine⟨by decide,fun p hp=>?_⟩;obtain⟨H8,e8,gp,hS8⟩:=bT (o:=.lst [T.str "bad",T.str "twice"]) hp;rw[e8];replace g1:=hS8 _ _ g1;replace g2:=hS8 _ _ g2;have ty:TyX K H8 (.ref ea) (.ref C_Twice):=.inr ⟨ea,C_Twice,dx,_,rfl,g1,g2,G_Twice,rfl⟩;have fin8:=Box.mk (fin.out H8 hS8);clear fin hS8 hp e8;refine⟨ea,C_Twice,dx,_,rfl,g1,g2,G_Twice,hA_Twice,hV_Twice,?_⟩;walk_at "";refine⟨by decide,.ref ea,_,.ref C_Twice,false,rfl,ty,.inr ⟨_,_,rfl,rfl,i2⟩,?_⟩;walk_at "";walk_at "n";clear ty;walk_at "";refine⟨ea,C_Twice,dx,_,_,rfl,g1,g2,G_Twice.toXGet,f_Twice,rfl,?_⟩;simp only[Ends3.gone];walk_at "";exact fin8.out
 |task =>
 refine (fun k=>.inr ⟨mr_NoTask_NoRow,.inr ⟨mr_NoTask_Twice,.inl ⟨mr_NoTask_NoTask,k⟩⟩⟩) (fun ea dx h1 h2 h3=>?_);obtain⟨H4,e4,g1,g2,hS⟩:=uG (C:=C_NoTask) (fs:=fs1 n) h1 h2 h3;show iy _ _ _ _ (up3 (up3 H3 dx (.xdt (fs1 n))) ea (.exc C_NoTask dx));rw[e4];have fin:=Box.mk (fun H (hH:Sub3 H4 H)=>rest'.out (wdF .task) (.int n) H (hS.trans hH) q);clear rest' q h1 h2 h3 hS e4;refine aG fun R2 hR2=>?_;walk_at "";refine⟨by decide,fun p hp=>?_⟩;obtain⟨H8,e8,gp,hS8⟩:=bT (o:=.lst [T.str "bad",T.str "task"]) hp;rw[e8];replace g1:=hS8 _ _ g1;replace g2:=hS8 _ _ g2;have ty:TyX K H8 (.ref ea) (.ref C_NoTask):=.inr ⟨ea,C_NoTask,dx,_,rfl,g1,g2,G_NoTask,rfl⟩;have fin8:=Box.mk (fin.out H8 hS8);clear fin hS8 hp e8;refine⟨ea,C_NoTask,dx,_,rfl,g1,g2,G_NoTask,hA_NoTask,hV_NoTask,?_⟩;walk_at "";refine⟨.ref ea,_,.ref C_NoTask,true,rfl,ty,.inl ⟨_,rfl,i3⟩,?_⟩;walk_at "";walk_at "n";clear ty;walk_at "";refine⟨ea,C_NoTask,dx,_,_,rfl,g1,g2,G_NoTask.toXGet,f_NoTask,rfl,?_⟩;simp only[Ends3.gone];walk_at "";exact fin8.out
def qe:Sp3:=fun ts H Q=>∃(t:T) (R:(Flt × Nat) ⊕ RS) (wd:Str) (v:T),ts=[t,.tup [.str wd,v]]/\Rds t H R/\(∀s,R=.inr s->WkOk s.wk)/\(∀f n,R=.inl (f,n)->wd=wdF f/\v=.int n)/\(∀s,R=.inr s->wd="works"/\v=s.wk.enc)/\Q (.bl true) H
abbrev v8:List Str:=["_law_text","_law_due","_law_found"]
theorem sc_right:FnScope v8 ["_law_text","_law_due"] (au (top 44)):=bG
theorem By {f:Addr}{fd:FuncData}(g:G3 K mg "_law_right" (top 44) ["_law_text","_law_due"] f fd) (B:Bl mg) (F_same:Cal P w K mg base 5 "_law_same" (top 41) ["_law_one","_law_other"] (tU 5)) (F_told:Cal P w K mg base 7 "_law_told" (top 43) ["_law_thing"] Bw):Cal P w K mg base 8 "_law_right" (top 44) ["_law_text","_law_due"] qe:=by
 refine⟨f,fd,g,?_⟩;refine fn3 g.fn sc_right (fun ts H Q h=>?_) (fun cdv A outer s H E ts H3 Q hr h=>?_)
 ·obtain⟨t,R,wd,v,rfl,_⟩:=h;rfl
 have hu30:=Room.u30 hr;obtain⟨t,R,wd,v,rfl,hR,hK,k1,k2,k⟩:=h;refine⟨_,(aq (aJ (i:=2) sc_right.nd (bC F_told hr rfl (aj (v3 0) ak)))
   (aB (aP (cF (gh (cM hu30) (aN ix3 (v3 2) ao) (aN ix3 (v3 1) ao)) (dm (bC F_same hr rfl (aj (aN ix3 (v3 1) ao) (aj (aN ix3 (v3 2) ao) ak)))))))),?_⟩
 rw[show aU v8 [t,T.tup [T.str wd,v]]=[some (t),some (T.tup [T.str wd,v]),none] from rfl];have k1':=Box.mk k1;have k2':=Box.mk k2;clear k1 k2;refine aG fun R0 hR0=>?_;walk_at "";refine⟨t,R,rfl,hR,fun f n h=>?_,fun s h=>?_⟩
 ·obtain⟨rfl,rfl⟩:=k1'.out f n h;walk_at "n";clear k1' k2' h;walk_at "";exact⟨.int n,by decide,rfl,rfl,Fin3.of Sub3.refl k⟩
 obtain⟨rfl,rfl⟩:=k2'.out s h;have hT:=Py (hK s h);walk_at "n";clear k1' k2' h;walk_at "";exact⟨s.wk.enc,by decide,rfl,hT,Fin3.of Sub3.refl k⟩
theorem Deck.sub {H H':Hp3}{d c:Addr}(D:Deck H d c) (s:Sub3 H H'):Deck H' d c:=by
 obtain⟨⟨l,a,sd,m,hd,s0,s1⟩,ns,hc,hne,hlen⟩:=D;exact⟨⟨l,a,sd,m,s _ _ hd,s0,s1⟩,ns,s _ _ hc,hne,hlen⟩
theorem jn {H:Hp3}{a b:Addr}{xs ys:List T}{K:VK3}(ga:H a=some (.lst xs)) (gb:H b=some (.lst ys)) (hl:xs.length+ys.length<=16777216) (k:∀p H',Sub3 H H'->H' p=some (.lst (xs++ys))->K (.ref p) H'):yX (H a) (H b) H K:=by
 rw[ga,gb,jh];exact⟨hl,fun p hp=>k p _ (Sub3.new hp) aA⟩
theorem fM {H:Hp3}{a:Addr}{xs ys:List T}{K:VK3}(ga:H a=some (.lst xs)) (hl:xs.length+ys.length<=16777216) (k:∀p H',Sub3 H H'->H' p=some (.lst (xs++ys))->K (.ref p) H'):yX (H a) (some (.lst ys)) H K:=by
 rw[ga,jh];exact⟨hl,fun p hp=>k p _ (Sub3.new hp) aA⟩
theorem uH {H:Hp3}{r p1 p2:Addr}{us ws:List T}{n:Nat}{K:VK3}(gr:H r=some (.lst us)) (hl:us.length<=49) (hw:ws.length<=1) (h1:H p1=none) (h2:up3 H p1 (.lst (cj us none (some (n:Int)))) p2=none)
  (k:∀p H',Sub3 H H'->H' p=some (.lst (us.take n++ws++us.drop n))->K (.ref p) H') :
  yX (up3 (up3 H p1 (.lst (cj us none (some (n:Int))))) p2 (.lst ws) p1) (some (.lst ws)) (up3 (up3 H p1 (.lst (cj us none (some (n:Int))))) p2 (.lst ws)) fun x H1=>slH (H1 r) (some (n:Int)) none H1 fun y H2=>jz x y H2 K:=by
 have l1:(us.take n).length<=49:=by rw[List.length_take];omega
 have l2:(us.drop n).length<=49:=by rw[List.length_drop];omega
 rw[oY] at h2 ⊢;have g1:up3 H p1 (.lst (us.take n)) p1=some (.lst (us.take n)):=aA;have s1:Sub3 H (up3 H p1 (.lst (us.take n))):=Sub3.new h1;generalize up3 H p1 (.lst (us.take n))=H5 at *;have s2:=s1.trans (Sub3.new (o:=.lst ws) h2);have g2:up3 H5 p2 (.lst ws) p2=some (.lst ws):=aA;replace g1:=Sub3.new (o:=.lst ws) h2 _ _ g1;generalize up3 H5 p2 (.lst ws)=H6 at *;rw[<- g2];refine jn g1 g2 (by omega) fun x H7 s7 g7=>?_;rw[s7 _ _ (s2 _ _ gr),yZ,dH];intro p4 h4;have s8:=(s2.trans s7).trans (Sub3.new (o:=.lst (us.drop n)) h4);rw[jg];exact jn (Sub3.new (o:=.lst (us.drop n)) h4 _ _ g7) aA (by rw[List.length_append];omega) fun p H9 s9 g9=>k p H9 (s8.trans s9) g9
theorem Deck.off_str {H:Hp3}{d c p:Addr}(D:Deck H d c) {rs:List Str}(hp:H p=some (.lst (rs.map T.str))) (hr:rs≠[]):p≠d/\p≠c:=by
 obtain⟨⟨l,a,sd,m,hd,_⟩,ns,hc,hne,_⟩:=D;refine⟨fun e=>?_,fun e=>?_⟩
 ·rw[<- e,hp] at hd;cases hd
 rw[<- e,hp] at hc;injection hc with hc;injection hc with hc;cases rs with
 |nil=>exact hr rfl
 |cons x rs =>
 cases ns with
 |nil=>exact hne rfl
 |cons n ns=>cases hc
theorem jo (x y:Str):(x++y).length=x.length+y.length:=by
 show (x.cps++y.cps).size=_;exact Array.size_append
def BadT (H:Hp3) (t:T):Prop:=∃(a:Addr) (b:List Str) (n:Nat),t=.tup [.ref a,.int n]/\H a=some (.lst (b.map T.str))/\Bad b n
theorem BadT.sub {H H':Hp3}{t:T}(h:BadT H t) (s:Sub3 H H'):BadT H' t:=by
 obtain⟨a,b,n,rfl,g,hb⟩:=h;exact⟨a,b,n,rfl,s _ _ g,hb⟩
def wg:Sp3:=fun ts H Q=>∃(a:Addr) (ns:List Int),ts=[.ref a]/\H a=some (.rol (ns.map T.int))/\ns.length<=63/\∀H',Q (.bl true) H'
abbrev Hs:List Str:=["_law_script","_law_deck_here","_law_names","_law_works","_law_parts","_law_rows","_law_more","_law_back","_law_bad","_law_some","_law_row","_law_thing"]
theorem sc_law:FnScope Hs ["_law_script"] (au (top 47)):=bG
theorem Lh {f:Addr}{fd:FuncData}(g:G3 K mg "law" (top 47) ["_law_script"] f fd) (B:Bl mg) (F_right:Cal P w K mg base 8 "_law_right" (top 44) ["_law_text","_law_due"] qe) (F_next:Cal P w K mg base 1 "_law_next" (top 37) ["_law_deck_here"] lJ) (F_texts:Cal P w K mg base 1 "_law_texts" (top 46) ["_law_works"] vZ) (F_full:Cal P w K mg base 4 "_law_full" (top 45) ["_law_deck_here"] Bk) (F_deck:Cal P w K mg base 1 "_law_deck" (top 36) ["_law_script"] Bd):FnOk3 P w K mg base 9 f fd ["_law_script"] wg:=by
 refine fn3 g.fn sc_law (fun ts H Q h=>?_) (fun cdv A outer s H E ts H3 Q hr h=>?_)
 ·obtain⟨a,ns,rfl,_⟩:=h;rfl
 obtain⟨a,ns,rfl,ha,hl,k⟩:=h;refine⟨_,(aq (aJ (i:=1) sc_law.nd (bC F_deck hr rfl (aj (v3 0) ak)))
   (aq (tE (bC F_full hr rfl (aj (v3 1) ak)) (jd (n:=2) rfl (bI (aR (i:=2) sc_law.nd) (bI (aR (i:=3) sc_law.nd) fG))))
   (aq (aJ (i:=4) sc_law.nd (bC F_texts hr rfl (aj (v3 3) ak)))
   (aq (aJ (i:=5) sc_law.nd (aD aM (aD aM (aD aM (aN ix3 (v3 4) ao) (aN ix3 (v3 4) ao)) (aN ix3 (v3 4) ao)) (aN ix3 (v3 4) ao)))
   (aq (bO (dR (dO (bC F_right hr rfl (aj (cU PySem.F.plainAttrs_str PySem.F.slot_str_join PySem.F.type_str_join dW aF (aj (v3 5) ak)) (aj (aZ (aj aF (aj (v3 3) ak))) ak))))) (aB (aP ju)) bh)
   (aq (aJ (i:=6) sc_law.nd (aD aM (aD aM (aD aM aF (aN ix3 (v3 2) ao)) aF) (aV u9 rfl B.str_ lw (aj (aD aM ao (aD bR (bC F_next hr rfl (aj (v3 1) ak)) (aD kJ ao ao))) ak))))
   (aq (aJ (i:=7) sc_law.nd (aD aM (aD aM (aN ix3 (v3 2) ao) aF) (aN ix3 (v3 2) ao)))
   (aq (aJ (i:=8) sc_law.nd (bc (aj (aZ (aj (aD aM (aD aM (aY (v3 5) bf (aX ao)) (bc (aj (v3 6) ak))) (aY (v3 5) (aX ao) bf)) (aj ao ak))) (aj (aZ (aj (aD aM (aD aM (aY (v3 5) bf (aX ao)) (bc (aj (aD aM aF (v3 7)) ak))) (aY (v3 5) (aX ao) bf)) (aj ao ak))) ak))))
   (aq (aJ (i:=8) sc_law.nd (aD aM (v3 8) (bc (aj (aZ (aj (aD aM (aD aM (aY (v3 5) bf (aX ao)) (bc (aj (aD aM aF (v3 7)) ak))) (aY (v3 5) (aX ao) bf)) (aj ao ak))) (aj (aZ (aj (aD aM (aY (v3 5) bf (aX ao)) (bc (aj (aD aM (aN ix3 (v3 5) ao) aF) ak))) (aj ao ak))) ak)))))
   (aq (aJ (i:=8) sc_law.nd (aD aM (v3 8) (bc (aj (aZ (aj (aD aM (bc (aj (aD aM (aN ix3 (v3 5) ao) aF) ak)) (aY (v3 5) (aX ao) bf)) (aj ao ak))) (aj (aZ (aj (aD aM (v3 5) (bc (aj aF ak))) (aj ao ak))) (aj (aZ (aj (aD aM (v3 5) (bc (aj (aN ix3 (v3 5) ao) ak))) (aj ao ak))) (aj (aZ (aj (aY (v3 5) bf (aX ao)) (aj ao ak))) ak)))))))
   (aq (aJ (i:=8) sc_law.nd (aD aM (v3 8) (bc (aj (aZ (aj (aY (v3 5) (aX ao) bf) (aj ao ak))) (aj (aZ (aj (bc (aj aF ak)) (aj ao ak))) (aj (aZ (aj (aY (v3 5) bf (aX ao)) (aj ao ak))) ak))))))
   (aq (eY PassesOwn.never rfl (jQ (v3 8)) (jd (n:=2) rfl (bI (aR (i:=9) sc_law.nd) (bI (aR (i:=10) sc_law.nd) fG))) (aB (bO (dR (dO (bC F_right hr rfl (aj (cU PySem.F.plainAttrs_str PySem.F.slot_str_join PySem.F.type_str_join dW aF (aj (v3 9) ak)) (aj (aZ (aj aF (aj (v3 10) ak))) ak))))) (aB (aP ju)) bh)))
   (aq (eY PassesOwn.never rfl (jQ (bc (aj yp (aj ao (aj ju (aj (v3 5) (aj (aZ (aj aF ak)) ak))))))) (aR (i:=11) sc_law.nd) (aB (bO (dR (dO (bC F_right hr rfl (aj (v3 11) (aj (aZ (aj aF (aj ao ak))) ak))))) (aB (aP ju)) bh)))
   (aB (aP (bC F_right hr rfl (aj (cU PySem.F.plainAttrs_str PySem.F.slot_str_join PySem.F.type_str_join dW aF (aj (v3 5) ak)) (aj (aZ (aj aF (aj (v3 3) ak))) ak)))))))))))))))))),?_⟩
 rw[show aU Hs [T.ref a]=[some (T.ref a),none,none,none,none,none,none,none,none,none,none,none] from rfl];have hsz:sizeLine=16777216:=rfl;have k':=Box.mk k;clear k;refine aG fun R0 hR0=>?_;walk_at "";refine⟨a,ns,rfl,ha,hl,fun d c H1 hS _ _ hD=>?_⟩;clear hS ha;walk_at "n";refine aG fun R0 hR0=>?_;walk_at "";refine⟨d,c,rfl,hD,fun pn nm W H2 h9 hns hn ht ho hp hr hx gn D2=>?_⟩;obtain⟨hW,t8,o28,p12⟩:=Fw h9 hns hn ht ho hp hr hx;have ht':=Box.mk ht;clear hD H1 ht hn ho hp hx;have g:=gW hW;walk_at "";refine⟨trivial,?_⟩;walk_at "n";refine aG fun R0 hR0=>?_;walk_at "";refine⟨W,rfl,hW,fun q a1 b1 e1 r1 H4 s4 gq ga gb ge gr=>?_⟩;replace gn:=s4 _ _ gn;replace D2:=D2.sub s4;clear s4 H2;walk_at "n";refine aG fun R0 hR0=>?_;simp only[iy,qG,iw,tC3,GJ,List.getElem?_cons_zero,List.getElem?_cons_succ,M6,GP];rw[gq,fW,at0,eF,gq,fW,at1,eF,jg];refine jn ga gb (by simp only[List.length_map];omega) fun p1 H5 s5 g5=>?_;rw[s5 _ _ gq,fW,at2,eF,jg];refine jn g5 (s5 _ _ ge) (by simp only[List.length_append,List.length_map];omega) fun p2 H6 s6 g6=>?_;rw[s6 _ _ (s5 _ _ gq),fW,at3,eF,jg];refine jn g6 (s6 _ _ (s5 _ _ gr)) (by simp only[List.length_append,List.length_map,List.length_singleton];omega) fun pr H7 s7 g7=>?_;replace gn:=s7 _ _ (s6 _ _ (s5 _ _ gn));replace D2:=D2.sub ((s5.trans s6).trans s7);replace g7:H7 pr=some (.lst ((aL W).map T.str)):=by rw[g7];unfold aL;simp only[List.map_append,List.map_cons,List.map_nil]
 clear ga gb ge gr g5 g6 gq s5 s6 s7 H4 H5 H6;walk_at "n";have j0:=Fe hW;have e0:=cG (aL W);have b0:(jD W).length<=90000:=Nat.le_trans (fj lF (fK hW).1 (fK hW).2) (by decide);have whole:∀(H:Hp3) (Q':VK3),Q' (.bl true) H->qe [.str (jD W),.tup [.str "works",W.enc]] H Q':=fun H Q' hq=>⟨.str (jD W),_,"works",W.enc,rfl,.inl ⟨jD W,rfl,b0,rfl⟩,fun s h=>Hl h,fun f n h=>(nomatch (vN hW).symm.trans h),fun s h=>by cases (vN hW).symm.trans h;exact⟨rfl,rfl⟩,hq⟩;have whole':=Box.mk whole;clear whole;refine aG fun R0 hR0=>?_;walk_at "";refine⟨trivial,trivial,by decide,?_⟩;rw[show Txt.join "\n" (aL W)=jD W from rfl];refine whole'.out _ _ ?_;walk_at "";walk_at "n";obtain⟨n8,m8⟩:=nO (ns:=nm) (i:=8) (by omega);obtain⟨n1,m1⟩:=nO (ns:=nm) (i:=1) (by omega);obtain⟨n0,m0⟩:=nO (ns:=nm) (i:=0) (by omega);have N8:=hns.nm _ m8;have N1:=hns.nm _ m1;have N0:=hns.nm _ m0;generalize nmA nm 8=x8 at *;generalize nmA nm 1=x1 at *;generalize nmA nm 0=x0 at *;replace n8:atI (nm.map T.str) 8=some (T.str x8):=n8;replace n1:atI (nm.map T.str) 1=some (T.str x1):=n1;replace n0:atI (nm.map T.str) 0=some (T.str x0):=n0;have L8:=N8.hi;have L1:=N1.hi;have L0:=N0.hi;have lt:("task ":Str).length=5:=by decide +kernel
 have ls:(" ":Str).length=1:=by decide +kernel
 have rne:aL W≠[]:=by unfold aL;simp
 have nne:nm≠[]:=fun e=>by rw[e] at h9;cases h9
 refine aG fun R0 hR0=>?_;walk_at "";refine⟨by omega,by rw[jo];omega,d,c,rfl,D2,fun m H8 m0' m1' D8=>?_⟩;replace gn:H8 pn=some (.lst (nm.map T.str)):=(D8.off pn (D2.off_str gn nne).1 (D2.off_str gn nne).2).trans gn;replace g7:H8 pr=some (.lst ((aL W).map T.str)):=(D8.off pr (D2.off_str g7 rne).1 (D2.off_str g7 rne).2).trans g7;clear D8 D2 H7;obtain⟨num,en⟩:∃i,i=1+m%(10^Int.toNat 9):=⟨_,rfl⟩;have f0:=Int.emod_nonneg m (show (10:Int)^Int.toNat 9≠0 by decide);have f1:=Int.emod_lt_of_pos m (show (0:Int)<10^Int.toNat 9 by decide);have c1:1<=num:=by rw[en];omega
 have c2:num<10^60:=by rw[en];exact Int.lt_of_lt_of_le (Int.add_lt_add_left f1 1) (by decide)
 have lg:=vD c1 c2;have ln:=iJ c1 c2;clear f0 f1;walk_at "";rw[<- en];refine⟨⟨by decide,by decide,by decide⟩,by decide,lg,by rw[jo,jo];omega,?_⟩;obtain⟨r0,h0⟩:∃r,(aL W)[0]?=some r:=⟨_,List.getElem?_eq_getElem (List.length_pos_iff.mpr rne)⟩;have li:(bA W).length=48:=by unfold bA;simp only[List.length_append,List.length_map];omega
 have lr:(aL W).length=49:=by rw[<- dB];unfold d7;rw[List.length_append,List.length_map,List.length_singleton,li]
 obtain⟨rl,hl48⟩:∃r,(aL W)[48]?=some r:=⟨_,List.getElem?_eq_getElem (by omega)⟩;obtain⟨⟨B1,B2⟩,⟨B3,B4⟩,⟨B5,B6,B7,B8⟩,B9,B10,B11⟩:=QR hW t8 o28 p12 hr ht'.out N8 N1 N0 c1 c2 h0 hl48;have z0:atI ((aL W).map T.str) 0=some (T.str r0):=by rw[lA];exact congrArg (Option.map T.str) (cI (j:=0) h0)
 have z48:atI ((aL W).map T.str) 48=some (T.str rl):=by rw[lA];exact congrArg (Option.map T.str) (cI (j:=48) hl48)
 have L0':r0.length<=500:=(fK hW).2 _ (List.mem_of_getElem? h0);have L48:rl.length<=500:=(fK hW).2 _ (List.mem_of_getElem? hl48);have Bs:=Box.mk (And.intro B1 (And.intro B2 (And.intro B3 (And.intro B4 (And.intro B5 (And.intro B6 (And.intro B7 (And.intro B8 (And.intro B9 (And.intro B10 B11))))))))));clear B1 B2 B3 B4 B5 B6 B7 B8 B9 B10 B11 en ht' lt lg h0 hl48 li;generalize hm:("task ":Str)++x8++" "++((toString num:String):Str)=more at Bs;clear hm n8 m8 N8 L8 c1 c2 ln;walk_at "n";refine aG fun R0 hR0=>?_;walk_at "";refine⟨by omega,by rw[jo];omega,?_⟩;have lb:(x1++" "++x0).length<=17:=by rw[jo,jo];omega
 generalize x1++" "++x0=back at Bs lb;have lu:((aL W).map T.str).length<=49:=by rw[List.length_map];omega
 have el:∀(n:Nat) (x:Str),((aL W).map T.str).take n++[T.str x]++((aL W).map T.str).drop n=((aL W).take n++x::(aL W).drop n).map T.str:=fun n x=>by simp
 have el':=Box.mk el;clear el n1 n0 m1 m0 N1 N0 L1 L0 gn;walk_at "n";have lo:("order ":Str).length=6:=by decide +kernel
 refine aG fun R0 hR0=>?_;walk_at "";refine fun p1 h1=>⟨by decide,fun p2 h2=>uH (n:=8) (ws:=[T.str more]) g7 lu (by simp) h1 h2 fun a1 H9 s9 g9=>?_⟩;replace g7:=s9 _ _ g7;rw[el'.out] at g9;walk_at "";refine⟨by decide,fun p1 h1=>⟨by omega,by decide,fun p2 h2=>uH (n:=36) (ws:=[T.str ("order "++back)]) g7 lu (by simp) h1 h2 fun a2 HA sA gA=>?_⟩⟩;replace g7:=sA _ _ g7;rw[el'.out] at gA;have T1:BadT HA (.tup [.ref a1,.int 9]):=⟨a1,_,9,rfl,sA _ _ g9,Bs.out.1⟩;have T2:BadT HA (.tup [.ref a2,.int 37]):=⟨a2,_,37,rfl,gA,Bs.out.2.1⟩;clear s9 g9 sA gA h1 h2;walk_at "";refine⟨by decide,by decide,fun pb hpb=>?_⟩;obtain⟨HB,eB,gB,sB⟩:=bT (o:=.lst [T.tup [T.ref a1,T.int 9],T.tup [T.ref a2,T.int 37]]) hpb;rw[eB];replace g7:=sB _ _ g7;have TB:∀t∈[T.tup [T.ref a1,T.int 9],T.tup [T.ref a2,T.int 37]],BadT HB t:=fun t ht=>by
  simp only[List.mem_cons,List.not_mem_nil,or_false] at ht;rcases ht with rfl | rfl
  ·exact T1.sub sB
  exact T2.sub sB
 have bl2:[T.tup [T.ref a1,T.int 9],T.tup [T.ref a2,T.int 37]].length=2:=rfl;clear eB hpb sB T1 T2 lo;generalize [T.tup [T.ref a1,T.int 9],T.tup [T.ref a2,T.int 37]]=bl at gB TB bl2;walk_at "n";have lo:("apart ":Str).length=6:=by decide +kernel
 have la:(" a":Str).length=2:=by decide +kernel
 refine aG fun R0 hR0=>?_;walk_at "";refine fun p1 h1=>⟨by omega,by decide,fun p2 h2=>uH (n:=48) (ws:=[T.str ("apart "++back)]) g7 lu (by simp) h1 h2 fun a3 HC sC gC=>?_⟩;replace g7:=sC _ _ g7;replace gB:=sC _ _ gB;rw[el'.out] at gC;clear h1 h2;have ct:cj ((aL W).map T.str) none (some 48)=((aL W).take 48).map T.str:=by rw[show (some (48:Int))=some ((48:Nat):Int) from rfl,oY,List.map_take]
 have ct1:cj ((aL W).map T.str) none (some 1)=((aL W).take 1).map T.str:=by rw[show (some (1:Int))=some ((1:Nat):Int) from rfl,oY,List.map_take]
 have cd:cj ((aL W).map T.str) (some 48) none=((aL W).drop 48).map T.str:=by rw[show (some (48:Int))=some ((48:Nat):Int) from rfl,dH,List.map_drop]
 have cd1:cj ((aL W).map T.str) (some 1) none=((aL W).drop 1).map T.str:=by rw[show (some (1:Int))=some ((1:Nat):Int) from rfl,dH,List.map_drop]
 walk_at "";refine⟨by decide,fun p1 h1=>?_⟩;obtain⟨HD,eD,gD,sD⟩:=bT (o:=.lst (((aL W).take 48).map T.str)) h1;replace g7:=sD _ _ g7;replace gB:=sD _ _ gB;replace gC:=sD _ _ gC;rw[eD,g7,fW,z48,eF,oW];refine⟨by omega,by decide,fun p2 h2=>?_⟩;obtain⟨HE,eE,gE,sE⟩:=bT (o:=.lst [T.str (rl++" a")]) h2;rw[eE];refine fM (sE _ _ gD) (by simp only[List.length_map,List.length_take,List.length_singleton];omega) fun a4 HF sF gF=>?_;have sD':=((sC.trans sD).trans sE).trans sF;replace g7:=sF _ _ (sE _ _ g7);replace gB:=sF _ _ (sE _ _ gB);replace gC:=sF _ _ (sE _ _ gC);replace gF:HF a4=some (.lst (((aL W).take 48++[rl++" a"]).map T.str)):=by rw[gF,List.map_append];rfl
 have T3:BadT HF (.tup [.ref a3,.int 49]):=⟨a3,_,49,rfl,gC,Bs.out.2.2.1⟩;have T4:BadT HF (.tup [.ref a4,.int 49]):=⟨a4,_,49,rfl,gF,Bs.out.2.2.2.1⟩;replace TB:∀t∈bl,BadT HF t:=fun t ht=>(TB t ht).sub sD';clear sD' sC sD sE sF eD eE gD gE gF gC h1 h2;refine⟨by decide,by decide,fun p3 h3=>?_⟩;obtain⟨HG,eG,gG,sG⟩:=bT (o:=.lst [T.tup [T.ref a3,T.int 49],T.tup [T.ref a4,T.int 49]]) h3;rw[eG];refine fM (sG _ _ gB) (by simp only[List.length_cons,List.length_nil];omega) fun pc HI sI gI=>?_;replace g7:=sI _ _ (sG _ _ g7);have sGI:=sG.trans sI;replace TB:∀t∈bl++[T.tup [T.ref a3,T.int 49],T.tup [T.ref a4,T.int 49]],BadT HI t:=fun t ht=>by
  rcases List.mem_append.mp ht with h | h
  ·exact (TB t h).sub sGI
  simp only[List.mem_cons,List.not_mem_nil,or_false] at h;rcases h with rfl | rfl
  ·exact T3.sub sGI
  exact T4.sub sGI
 replace bl2:(bl++[T.tup [T.ref a3,T.int 49],T.tup [T.ref a4,T.int 49]]).length=4:=by rw[List.length_append,bl2];rfl
 clear T3 T4 sGI sG sI eG gG h3 gB;generalize bl++[T.tup [T.ref a3,T.int 49],T.tup [T.ref a4,T.int 49]]=bm at gI TB bl2;walk_at "n";have lz:(" zz":Str).length=3:=by decide +kernel
 refine aG fun R0 hR0=>?_;walk_at "";refine⟨by omega,by decide,fun p1 h1=>?_⟩;obtain⟨HD,eD,gD,sD⟩:=bT (o:=.lst [T.str (r0++" zz")]) h1;replace g7:=sD _ _ g7;replace gI:=sD _ _ gI;replace TB:∀t∈bm,BadT HD t:=fun t ht=>(TB t ht).sub sD;rw[eD,g7,yZ,cd1];intro p2 h2;obtain⟨HE,eE,gE,sE⟩:=bT (o:=.lst (((aL W).drop 1).map T.str)) h2;rw[eE,jg];refine jn (sE _ _ gD) gE (by simp only[List.length_map,List.length_drop,List.length_singleton];omega) fun a5 HF sF gF=>?_;have sEF:=sE.trans sF;replace g7:=sEF _ _ g7;replace gI:=sEF _ _ gI;replace TB:∀t∈bm,BadT HF t:=fun t ht=>(TB t ht).sub sEF;have T5:BadT HF (.tup [.ref a5,.int 1]):=⟨a5,_,1,rfl,by rw[gF];rfl,Bs.out.2.2.2.2.1⟩;clear sEF sD sE sF eD eE gD gE gF h1 h2;refine⟨by decide,by decide,fun p3 h3=>?_⟩;obtain⟨HG,eG,gG,sG⟩:=bT (o:=.lst [T.str ""]) h3;rw[eG];refine fM (sG _ _ g7) (by simp only[List.length_map,List.length_singleton];omega) fun a6 HJ sJ gJ=>?_;have sGJ:=sG.trans sJ;replace g7:=sGJ _ _ g7;replace gI:=sGJ _ _ gI;replace TB:∀t∈bm,BadT HJ t:=fun t ht=>(TB t ht).sub sGJ;replace T5:=T5.sub sGJ;have T6:BadT HJ (.tup [.ref a6,.int 50]):=⟨a6,_,50,rfl,by rw[gJ,List.map_append];rfl,Bs.out.2.2.2.2.2.1⟩;clear sGJ sG sJ eG gG gJ h3;refine⟨by decide,?_⟩;rw[g7,fW,z0,eF];refine⟨by decide,fun p4 h4=>?_⟩;obtain⟨HG,eG,gG,sG⟩:=bT (o:=.lst [T.str r0]) h4;rw[eG];refine fM (sG _ _ g7) (by simp only[List.length_map,List.length_singleton];omega) fun a7 HK sK gK=>?_;have sGK:=sG.trans sK;replace g7:=sGK _ _ g7;replace gI:=sGK _ _ gI;replace TB:∀t∈bm,BadT HK t:=fun t ht=>(TB t ht).sub sGK;replace T5:=T5.sub sGK;replace T6:=T6.sub sGK;have T7:BadT HK (.tup [.ref a7,.int 50]):=⟨a7,_,50,rfl,by rw[gK,List.map_append];rfl,Bs.out.2.2.2.2.2.2.1⟩;clear sGK sG sK eG gG gK h4;walk_at "";refine⟨by decide,fun a8 h5=>⟨by decide,by decide,fun p6 h6=>?_⟩⟩;obtain⟨HL,eL,gL,sL⟩:=bT (o:=.lst (((aL W).take 48).map T.str)) h5;rw[eL] at h6 ⊢;obtain⟨HM,eM,gM,sM⟩:=bT (o:=.lst [T.tup [T.ref a5,T.int 1],T.tup [T.ref a6,T.int 50],T.tup [T.ref a7,T.int 50],T.tup [T.ref a8,T.int 49]]) h6;rw[eM];refine fM (sM _ _ (sL _ _ gI)) (by simp only[List.length_cons,List.length_nil];omega) fun pd HO sO gO=>?_;have sLO:=(sL.trans sM).trans sO;have T8:BadT HO (.tup [.ref a8,.int 49]):=⟨a8,_,49,rfl,sO _ _ (sM _ _ gL),Bs.out.2.2.2.2.2.2.2.1⟩;replace g7:=sLO _ _ g7;replace TB:∀t∈bm++[T.tup [T.ref a5,T.int 1],T.tup [T.ref a6,T.int 50],T.tup [T.ref a7,T.int 50],T.tup [T.ref a8,T.int 49]],BadT HO t:=fun t ht=>by
  rcases List.mem_append.mp ht with h | h
  ·exact (TB t h).sub sLO
  simp only[List.mem_cons,List.not_mem_nil,or_false] at h;rcases h with rfl | rfl | rfl | rfl
  ·exact T5.sub sLO
  ·exact T6.sub sLO
  ·exact T7.sub sLO
  exact T8
 replace bl2:(bm++[T.tup [T.ref a5,T.int 1],T.tup [T.ref a6,T.int 50],T.tup [T.ref a7,T.int 50],T.tup [T.ref a8,T.int 49]]).length=8:=by rw[List.length_append,bl2];rfl
 clear T5 T6 T7 T8 sLO sL sM sO eL eM gL gM gI h5 h6 ct;generalize bm++[T.tup [T.ref a5,T.int 1],T.tup [T.ref a6,T.int 50],T.tup [T.ref a7,T.int 50],T.tup [T.ref a8,T.int 49]]=bn at gO TB bl2;walk_at "n";refine aG fun R0 hR0=>?_;walk_at "";refine fun a9 h1=>⟨by decide,by decide,fun b1 h2=>⟨by decide,?_⟩⟩;obtain⟨HL,eL,gL,sL⟩:=bT (o:=.lst (((aL W).drop 48).map T.str)) h1;rw[eL] at h2 ⊢;obtain⟨HM,eM,gM,sM⟩:=bT (o:=.lst [T.str ""]) h2;replace g7:=sM _ _ (sL _ _ g7);replace gO:=sM _ _ (sL _ _ gO);have sLM:=sL.trans sM;replace TB:∀t∈bn,BadT HM t:=fun t ht=>(TB t ht).sub sLM;have T9:BadT HM (.tup [.ref a9,.int 2]):=⟨a9,_,2,rfl,sM _ _ gL,Bs.out.2.2.2.2.2.2.2.2.1⟩;have TX:BadT HM (.tup [.ref b1,.int 1]):=⟨b1,[("":Str)],1,rfl,gM,Bs.out.2.2.2.2.2.2.2.2.2.1⟩;rw[eM];clear sLM sL sM eL eM gL gM h1 h2;walk_at "";refine fun b2 h5=>⟨by decide,by decide,fun p6 h6=>?_⟩;obtain⟨HL,eL,gL,sL⟩:=bT (o:=.lst (((aL W).take 1).map T.str)) h5;rw[eL] at h6 ⊢;obtain⟨HN,eN,gN,sN⟩:=bT (o:=.lst [T.tup [T.ref a9,T.int 2],T.tup [T.ref b1,T.int 1],T.tup [T.ref b2,T.int 2]]) h6;rw[eN];refine fM (sN _ _ (sL _ _ gO)) (by simp only[List.length_cons,List.length_nil];omega) fun pe HP sP gP=>?_;have sLP:=(sL.trans sN).trans sP;have TY:BadT HP (.tup [.ref b2,.int 2]):=⟨b2,_,2,rfl,sP _ _ (sN _ _ gL),Bs.out.2.2.2.2.2.2.2.2.2.2⟩;replace g7:=sLP _ _ g7;replace TB:∀t∈bn++[T.tup [T.ref a9,T.int 2],T.tup [T.ref b1,T.int 1],T.tup [T.ref b2,T.int 2]],BadT HP t:=fun t ht=>by
  rcases List.mem_append.mp ht with h | h
  ·exact (TB t h).sub sLP
  simp only[List.mem_cons,List.not_mem_nil,or_false] at h;rcases h with rfl | rfl | rfl
  ·exact T9.sub sLP
  ·exact TX.sub sLP
  exact TY
 clear T9 TX TY sLP sL sN sP eL eN gL gN gO h5 h6 ct1 cd cd1 bl2 Bs;generalize bn++[T.tup [T.ref a9,T.int 2],T.tup [T.ref b1,T.int 1],T.tup [T.ref b2,T.int 2]]=bo at gP TB;clear z0 z48 L0' L48 el' lu lb lo la lz;walk_at "n";refine aG fun R0 hR0=>?_;walk_at "";refine fJ (fun r U H=>(∀t∈r,t∈bo)/\H=HP/\∃v9 v10:Option T,U=[some (T.ref a),some (T.ref d),some (T.ref pn),some W.enc,some (T.ref q),some (T.ref pr),some (T.str more),some (T.str back),some (T.ref pe),v9,v10,none]) ⟨fun _ h=>h,rfl,none,none,rfl⟩ ?_ ?_;rotate_left
 ·rintro x r U H N ⟨hx,rfl,v9,v10,rfl⟩ hN;have hN':=Box.mk hN;clear hN hR0;refine⟨.inl gP,?_⟩;obtain⟨aa,b,n,rfl,gb,bne,b60,bg,br⟩:=TB x (hx x List.mem_cons_self);have nx:=Box.mk (fun (v9 v10:Option T)=>hN'.out [some (T.ref a),some (T.ref d),some (T.ref pn),some W.enc,some (T.ref q),some (T.ref pr),some (T.str more),some (T.str back),some (T.ref pe),v9,v10,none] H ⟨fun y hy=>hx y (List.mem_cons_of_mem _ hy),rfl,v9,v10,rfl⟩);have jb:jOk "\n" b:=nG lF b60 (fun y hy=>(bg y hy).1) (by decide);have sb:=cG b;have zb:(Txt.join "\n" b).length<=90000:=Nat.le_trans (fj lF b60 fun y hy=>(bg y hy).1) (by decide);have rb:rdW (Txt.split (Txt.join "\n" b) ("\n":Str))=.inl (.row,n):=by rw[rN bne fun y hy=>(bg y hy).2];exact br
  have rb':=Box.mk rb;clear rb br bg hx hN' TB;walk_at "";refine⟨trivial,trivial,trivial,by decide,.str (Txt.join "\n" b),_,"row",.int n,rfl,.inl ⟨_,rfl,zb,rfl⟩,fun s h=>Hl h,fun f n' h=>?_,fun s h=>(nomatch rb'.out.symm.trans h),?_⟩
  ·cases rb'.out.symm.trans h;exact⟨rfl,rfl⟩
  walk_at "";exact nx.out _ _
 rintro U H ⟨_,rfl,v9,v10,rfl⟩;refine⟨.inl gP,?_⟩;clear TB gP;walk_at "n";refine aG fun R0 hR0=>?_;walk_at "";refine⟨by decide,by decide,fun pf hpf=>?_⟩;obtain⟨HQ,eQ,gQ,sQ⟩:=bT (o:=.lst [T.non,T.int 7,T.bl true,T.ref pr,T.tup [T.str "row a"]]) hpf;rw[eQ];replace g7:=sQ _ _ g7;clear sQ eQ hpf;have nS:∀t∈[T.non,T.int 7,T.bl true,T.ref pr,T.tup [T.str "row a"]],FP t HQ:=fun t ht=>by
  simp only[List.mem_cons,List.not_mem_nil,or_false] at ht;rcases ht with rfl | rfl | rfl | rfl | rfl
  ·rfl
  ·rfl
  ·rfl
  ·unfold FP isT;dsimp only;rw[g7];rfl
  rfl
 generalize [T.non,T.int 7,T.bl true,T.ref pr,T.tup [T.str "row a"]]=th at gQ nS;refine fJ (fun r U H=>(∀t∈r,t∈th)/\H=HQ/\∃v:Option T,U=[some (T.ref a),some (T.ref d),some (T.ref pn),some W.enc,some (T.ref q),some (T.ref pr),some (T.str more),some (T.str back),some (T.ref pe),v9,v10,v]) ⟨fun _ h=>h,rfl,none,rfl⟩ ?_ ?_;rotate_left
 ·rintro x r U H N ⟨hx,rfl,v,rfl⟩ hN;clear hR0;refine⟨.inl gQ,?_⟩;have nx:=Box.mk (fun (v:Option T)=>hN [some (T.ref a),some (T.ref d),some (T.ref pn),some W.enc,some (T.ref q),some (T.ref pr),some (T.str more),some (T.str back),some (T.ref pe),v9,v10,v] H ⟨fun y hy=>hx y (List.mem_cons_of_mem _ hy),rfl,v,rfl⟩);have hs:=Box.mk (nS x (hx x List.mem_cons_self));clear hN hx nS;rw[lK];walk_at "";refine⟨by decide,x,.inl (.row,0),"row",.int 0,rfl,.inr ⟨hs.out,rfl⟩,(fun s h=>nomatch h),fun f n' h=>?_,(fun s h=>nomatch h),?_⟩
  ·cases h;exact⟨rfl,rfl⟩
  walk_at "";exact nx.out _
 rintro U H ⟨_,rfl,v,rfl⟩;refine⟨.inl gQ,?_⟩;clear nS gQ;walk_at "n";walk_at "";refine⟨trivial,trivial,by decide,?_⟩;rw[show Txt.join "\n" (aL W)=jD W from rfl];exact whole'.out _ _ (Fin3.of Sub3.refl (k'.out _))
abbrev qg:List Str:=["self","row"]
theorem BJ:FnScope qg qg (au (topm 2 0)):=bG
theorem BK {f:Addr}{fd:FuncData}(F:Fun K "__init__" "NoRow.__init__" (topm 2 0) f fd):FnOk P w K mg base CX0 1 f fd qg (lE K ["row"]):=by
 refine F.ok BJ (fun vs H Q E ⟨e,ys,C,cd,h1,h2,_⟩=>by rw[h1];simp [h2]) fun cdv A outer s H vs Q E hr h=>?_;refine⟨_,jO (zU (pv 0) (pv 1) rfl),?_⟩;obtain⟨e,ys,C,cd,rfl,hl,he,S,hn,k⟩:=h
 match ys,hl with
 |[y],_ =>
 exact⟨y,rfl,V.ref e,rfl,e,C,cd,true,rfl,he,S,hn "row" (by simp),fun dx hdx hne=>k dx hdx hne⟩
abbrev qi:List Str:=["self","row"]
theorem BL:FnScope qi qi (au (topm 3 0)):=bG
theorem BP {f:Addr}{fd:FuncData}(F:Fun K "__init__" "Twice.__init__" (topm 3 0) f fd):FnOk P w K mg base CX0 1 f fd qi (lE K ["row"]):=by
 refine F.ok BL (fun vs H Q E ⟨e,ys,C,cd,h1,h2,_⟩=>by rw[h1];simp [h2]) fun cdv A outer s H vs Q E hr h=>?_;refine⟨_,jO (zU (pv 0) (pv 1) rfl),?_⟩;obtain⟨e,ys,C,cd,rfl,hl,he,S,hn,k⟩:=h
 match ys,hl with
 |[y],_ =>
 exact⟨y,rfl,V.ref e,rfl,e,C,cd,true,rfl,he,S,hn "row" (by simp),fun dx hdx hne=>k dx hdx hne⟩
abbrev lN:List Str:=["self","row"]
theorem xG:FnScope lN lN (au (topm 4 0)):=bG
theorem xH {f:Addr}{fd:FuncData}(F:Fun K "__init__" "NoTask.__init__" (topm 4 0) f fd):FnOk P w K mg base CX0 1 f fd lN (lE K ["row"]):=by
 refine F.ok xG (fun vs H Q E ⟨e,ys,C,cd,h1,h2,_⟩=>by rw[h1];simp [h2]) fun cdv A outer s H vs Q E hr h=>?_;refine⟨_,jO (zU (pv 0) (pv 1) rfl),?_⟩;obtain⟨e,ys,C,cd,rfl,hl,he,S,hn,k⟩:=h
 match ys,hl with
 |[y],_ =>
 exact⟨y,rfl,V.ref e,rfl,e,C,cd,true,rfl,he,S,hn "row" (by simp),fun dx hdx hne=>k dx hdx hne⟩
end
theorem qj (c:Nat) (h0:97<=c) (h1:c<=122) (ws:List Str) (hl:ws.length<=8):∃m:Nat,∀w∈ws,w.cps.toList.head?≠some (97+(c - 97+m)%26):=by
 obtain⟨t,ht,hx⟩:=z9 26 (ws.map fun w=>w.cps.toList.headD 0 - 97) (by rw[List.length_map];omega);refine⟨t+26 - (c - 97),fun w hw e=>hx ?_⟩;rw[List.mem_map];refine⟨w,hw,?_⟩;have e2:(c - 97+(t+26 - (c - 97)))%26=t:=by omega
 rw[e2] at e;cases hq:w.cps.toList with
 |nil=>rw[hq] at e;cases e
 |cons a r=>rw[hq] at e;injection e with e;simp only[List.headD_cons];omega
section
variable {P:Program}{w:World}{K:Frag}{mg:Str->Option Value}{base:Heap}
theorem Pz (k m:Nat) (h:m≠0):(97+((((k:Nat):Int)+((1:Nat):Int))%26).toNat - 97+(m - 1))%26=(k+m)%26:=by
 have e:((k:Int)+((1:Nat):Int))%26=(((k+1)%26:Nat):Int):=rfl;rw[e,Int.toNat_natCast,Nat.add_sub_cancel_left,Nat.mod_add_mod];congr 1;omega
theorem uI {D:Ends3}{d p:Addr}{a b v1 v2:Option T}{ws:List Str}{H:Hp3}(hp:H p=some (.lst (ws.map T.str))) (hw7:ws.length<=8) (l:List Nat) (h1:1<=l.length) (h8:l.length<=8) (hl:∀x∈l,97<=x/\x<=122)
  (hnx:∀l':List Nat,isNm (mkS l')->mkS l'∉ws->D.nx [some (.ref d),some (.ref p),some (.str (mkS lW)),a,b,some (.str (mkS l')),v1,v2] H) :
  uR (km (iw (wN false) (fV 5) (fV 1))) (qG (iw jz (iw wO (fV 2) (iw (rI3 (fun x j=>0<j) fun i j=>T.int (i%j)) (iw jz (Jm "str" oU (fV 2) (tD (iw wO (fV 5) (tC3 (T.int 0))) yu)) (tC3 (T.int 1))) (tC3 (T.int 26)))) (Jj (fV 5) (tL (tC3 (T.int 1))) kO)) (eX 5)) D
   [some (.ref d),some (.ref p),some (.str (mkS lW)),a,b,some (.str (mkS l)),v1,v2] H:=by
 have hsz:sizeLine=16777216:=rfl;refine⟨fun m U H'=>∃(c:Nat) (r:List Nat),U=[some (.ref d),some (.ref p),some (.str (mkS lW)),a,b,some (.str (mkS (c::r))),v1,v2]/\H'=H/\r.length<=7/\(∀x∈c::r,97<=x/\x<=122)/\∀w∈ws,w.cps.toList.head?≠some (97+(c - 97+m)%26),?_,?_⟩
 ·cases l with
  |nil=>simp at h1
  |cons c r =>
  obtain⟨hc0,hc1⟩:=hl c List.mem_cons_self;obtain⟨m,hm⟩:=qj c hc0 hc1 ws hw7;exact⟨m,c,r,rfl,rfl,by simp only[List.length_cons] at h8;omega,hl,hm⟩
 rintro m U H' ⟨c,r,rfl,rfl,hr,hl,hm⟩;obtain⟨hc0,hc1⟩:=hl c List.mem_cons_self;walk_at "";refine⟨Ky _,jW ws,?_⟩;have nxt:isNm (mkS (c::r)):=Ph (by simp) (by simp only[List.length_cons];omega) hl;split
 ·rename_i hin;have hin':mkS (c::r)∈ws:=(Pb jV).mp hin;have hm0:m≠0:=fun e=>hm _ hin' (by rw[bY,e];show some c=_;congr 1;omega);have ha:=z8 ((((c - 97:Nat):Int)+1)%26) (Int.emod_nonneg _ (by decide)) (Int.emod_lt_of_pos _ (by decide));have hix:=KJ c hc0 hc1;clear hin hnx;walk_at "";simp only[bY,at0,eF];walk_at "";rw[show (⟨#[c]⟩:Str)=mkS [c] from rfl];simp only[hix];walk_at "";simp only[bY,ha,eF];walk_at "";rw[show (1:Int)=((1:Nat):Int) from rfl];simp only[vC (c::r) 1 (by simp),List.drop_one,List.tail_cons];rw[show ∀z:Nat,(⟨#[z]⟩:Str)=mkS [z] from fun _=>rfl,pK];simp only[cW,List.length_cons,List.length_nil];refine⟨True.intro,by omega,by decide,by decide,by omega,by omega,m - 1,by omega,_,r,rfl,True.intro,hr,?_,?_⟩
  ·intro x hx;rcases List.mem_cons.mp hx with rfl | hx
   ·omega
   exact hl x (List.mem_cons_of_mem _ hx)
  intro w hw;rw[Pz _ _ hm0];exact hm w hw
 rename_i hin;refine hnx _ nxt fun z=>hin ((Pb jV).mpr z)
abbrev BR:List Str:=["_law_deck_here","_law_words_here","_law_letters","_law_way","_law_number","_law_word_here","_law_k","_law_at"]
theorem sc_word:FnScope BR ["_law_deck_here","_law_words_here"] (au (top 39)):=bG
theorem FW {f:Addr}{fd:FuncData}(g:G3 K mg "_law_word" (top 39) ["_law_deck_here","_law_words_here"] f fd) (B:Bl mg) (F_next:Cal P w K mg base 1 "_law_next" (top 37) ["_law_deck_here"] lJ):Cal P w K mg base 2 "_law_word" (top 39) ["_law_deck_here","_law_words_here"] Bg:=by
 refine⟨f,fd,g,?_⟩;refine fn3 g.fn sc_word (fun ts H Q h=>?_) (fun cdv A outer s H E ts H3 Q hr h=>?_)
 ·obtain⟨d,c,p,ws,rfl,_⟩:=h;rfl
 have hu30:=Room.u30 hr;have hu31:=Room.u31 hr;obtain⟨d,c,p,ws,rfl,D,hpd,hpc,hp,hw7,hws,k⟩:=h;refine⟨_,(aq (aJ (i:=2) sc_word.nd aF)
   (aq (aJ (i:=3) sc_word.nd (bC F_next hr rfl (aj (v3 0) ak)))
   (aq (aJ (i:=4) sc_word.nd (bC F_next hr rfl (aj (v3 0) ak)))
   (aq (aJ (i:=5) sc_word.nd aF)
   (aq (eY PassesOwn.never rfl (b8 rfl B.range_ (aj (aD aM ao (aD bR (v3 3) ao)) ak)) (aR (i:=6) sc_word.nd) (aq (aJ (i:=5) sc_word.nd (aD aM (v3 5) (aN ix3 (v3 2) (aD bR (v3 4) ao))))
    (aB (aJ (i:=4) sc_word.nd (aD fH (v3 4) ao)))))
   (aq (bO (PW3.pt (yq (bu (Gy hu30) (v3 1) (bc ak)) (uQ (bu (cM hu30) (aD bR (aD fH (v3 3) ao) ao) ao)))) (aq (aJ (i:=7) sc_word.nd (aD bR (aD fH (v3 3) ao) (aK bV rfl B.len_ bW (aj (aN ix3 (v3 1) ao) ak))))
    (aB (aJ (i:=5) sc_word.nd (aD aM (aD aM (aY (aN ix3 (v3 1) ao) bf (aX (v3 7))) (aN ix3 (v3 5) ao)) (aY (aN ix3 (v3 1) ao) (aX (aD aM (v3 7) ao)) bf))))) bh)
   (aq (yI PassesOwn.never (bu (mU hu31) (v3 5) (v3 1) rfl) (aB (aJ (i:=5) sc_word.nd (aD aM (aN ix3 (v3 2) (aD bR (aD aM (cU PySem.F.plainAttrs_str PySem.F.slot_str_index PySem.F.type_str_index yV (v3 2) (aj (aN ix3 (v3 5) ao) ak)) ao) ao)) (aY (v3 5) (aX ao) bf)))))
   (aB (aP (v3 5)))))))))),?_⟩
 rw[show aU BR [T.ref d,T.ref p]=[some (T.ref d),some (T.ref p),none,none,none,none,none,none] from rfl];have hsz:sizeLine=16777216:=rfl;walk_at "";simp only[KH];refine⟨d,c,rfl,D,fun way H1 w0 w1 hD1=>?_⟩;walk_at "";refine⟨d,c,rfl,hD1.deck,fun nb H2 b0 b1 hD2=>?_⟩;walk_at "";have hD12:=hD1.trans hD2;have hpH:H2 p=some (.lst (ws.map T.str)):=by rw[hD12.off p hpd hpc];exact hp
 refine⟨by decide,True.intro,by omega,by omega,?_⟩;have hrl:(dD 0 (1+way%8).toNat).length=(1+way%8).toNat:=by simp [dD]
 generalize dD 0 (1+way%8).toNat=ts0 at hrl;refine fJ (fun r U H'=>∃(l:List Nat) (nb:Int) (v:Option T),U=[some (.ref d),some (.ref p),some (.str (mkS lW)),some (.int way),some (.int nb),some (.str (mkS l)),v,none]/\l.length+r.length=(1+way%8).toNat/\(∀x∈l,97<=x/\x<=122)/\H'=H2)
  ⟨[],nb,none,rfl,by simpa using hrl,(fun _ h=>nomatch h),rfl⟩ ?_ ?_
 ·rintro U H' ⟨l,nb,v,rfl,hl,hlet,rfl⟩;simp only[List.length_nil,Nat.add_zero] at hl;refine⟨trivial,?_⟩;walk_at "";clear hD1 hD2;refine⟨by decide,fun q hq=>?_⟩;have hqd:=hD12.deck.nd hq;have hqc:=hD12.deck.nc hq;have hpq:p≠q:=bN hpH hq;have hK:Keep d c H3 (up3 H' q (O3.lst [])):=(Keep.refl.drew hD12).new hq;have hDk:=hD12.deck.new (u:=O3.lst []) hqd hqc;have hpq':up3 H' q (O3.lst []) p=some (.lst (ws.map T.str)):=by rw[aC hpq];exact hpH
  have fin:∀l':List Nat,isNm (mkS l')->mkS l'∉ws->Fin3 Q (.str (mkS l')) (up3 H' q (O3.lst [])):=fun l' h1 h2=>z7 hDk hK fun H'' hDr=>k _ H'' h1 h2 hDr;have l1:1<=l.length:=by omega
  have l8:l.length<=8:=by omega
  have wh:∀(l':List Nat) (a b v1 v2:Option T),1<=l'.length->l'.length<=8->(∀x∈l',97<=x/\x<=122)->_:=fun l' a b v1 v2 g1 g8 gl=>uI (D:={ nx:=yz (fV 5) { nx:=fun x H'=>Fin3 Q T.non H',rt:=Fin3 Q},rt:=Fin3 Q}) (d:=d) (a:=a) (b:=b) (v1:=v1) (v2:=v2) hpq' hw7 l' g1 g8 gl (fun l'' i1 i2=>fin l'' i1 i2);clear hK hDk hpH hD12 k hq;generalize up3 H' q (O3.lst [])=HH at hpq' wh fin;simp only[hpq',GK];refine⟨hpq,jW ws,rfl,?_⟩;walk_at "";split
  ·rename_i hne;have hne':ws≠[]:=by rintro rfl;simp at hne
   refine⟨⟨by decide,by decide +kernel⟩,by decide,?_⟩;split
   ·cases hw:ws with
    |nil=>exact absurd hw hne'
    |cons x0 xr =>
     have hx0:=hws x0 (by rw[hw];exact List.mem_cons_self)
     obtain⟨l0,rfl⟩:=ux x0
     have e1:=hx0.lo
     have e2:=hx0.hi
     have e3:=hx0.az
     rw[cW] at e1 e2
     rw[bY] at e3
     obtain⟨at',hat⟩:=Int.eq_ofNat_of_zero_le (Int.emod_nonneg (way / 16) (show ((l0.length:Int))≠0 by omega))
     have hat2:at'<l0.length:=by have:=Int.emod_lt_of_pos (way / 16) (show (0:Int)<l0.length by omega);omega
     cases l with
     |nil=>simp at l1
     |cons c0 lr =>
      refine⟨⟨by decide,by decide +kernel⟩,?_⟩
      have hpq2:HH p=some (.lst (T.str (mkS l0)::xr.map T.str)):=by rw[hpq',hw];rfl
      simp only[List.map_cons,hpq2,fW,at0,eF,zc,cW,q_I,hat,Jt,za,bY,Pg l0 at' (by omega),tQ]
      rw[show (⟨#[c0]⟩:Str)=mkS [c0] from rfl]
      simp only[oW,tQ,Jt,za,hpq2,fW,at0,eF]
      rw[show (at':Int)+1=((at'+1:Nat):Int) by omega]
      simp only[vC l0 (at'+1) (by omega),pK,cW,oW]
      simp only[List.length_append,List.length_take,List.length_drop,List.length_cons,List.length_nil]
      refine⟨by omega,by omega,by omega,by simp only[List.length_cons] at l8;omega,by omega,by omega,by omega,?_⟩
      refine wh _ _ _ _ _ ?_ ?_ ?_
      ·
       simp only[List.length_append,List.length_take,List.length_drop,List.length_cons,List.length_nil];omega
      ·
       simp only[List.length_append,List.length_take,List.length_drop,List.length_cons,List.length_nil];omega
      ·
       intro x hx
       rcases List.mem_append.mp hx with hx | hx
       ·
        rcases List.mem_append.mp hx with hx | hx
        ·
         exact e3 x (List.mem_of_mem_take hx)
        ·
         rw[List.mem_singleton.mp hx];exact hlet c0 List.mem_cons_self
       ·
        exact e3 x (List.mem_of_mem_drop hx)
   exact wh l _ _ _ _ l1 l8 hlet
  exact wh l _ _ _ _ l1 l8 hlet
 rintro x r U H' N ⟨l,nb,v,rfl,hl,hlet,rfl⟩ hN;simp only[List.length_cons] at hl;refine⟨trivial,?_⟩;have ha:=z8 (nb%26) (Int.emod_nonneg _ (by decide)) (Int.emod_lt_of_pos _ (by decide));have hb:=Int.emod_lt_of_pos nb (show (0:Int)<26 by decide);walk_at "";simp only[bY,ha,eF];walk_at "";rw[show (⟨#[97+(nb%26).toNat]⟩:Str)=mkS [97+(nb%26).toNat] from rfl];refine⟨by decide,by rw[cW];decide,by rw[cW,cW];simp only[List.length_singleton];omega,⟨by decide,by decide +kernel⟩,?_⟩;rw[pK];refine hN _ _ ⟨_,_,_,rfl,by simp only[List.length_append,List.length_singleton];omega,fun y hy=>?_,rfl⟩;rcases List.mem_append.mp hy with hy | hy
 ·exact hlet y hy
 rw[List.mem_singleton.mp hy];omega
end
def BV (K:Frag):Bool:=K.all fun p=>!(p.2.cls==.type "list")
theorem BW {K:Frag}{a:Addr}{o:Obj}(e:K.lookup a=some o):(a,o)∈K:=by
 induction K with
 |nil=>cases e
 |cons p r ih =>
 obtain⟨b,u⟩:=p;rw[List.lookup_cons] at e;split at e
 ·rename_i h;rw[eq_of_beq h,Option.some.inj e];exact List.mem_cons_self
 exact List.mem_cons_of_mem _ (ih e)
theorem xJ {K:Frag}(h:BV K=true) {a:Addr}{o:Obj}(e:K.lookup a=some o):o.cls≠.type "list":=fun z=>by
 have hm:(a,o)∈K:=BW e;have q:=List.all_eq_true.mp h (a,o) hm;rw[z] at q;simp at q
theorem uc {n:Nat}{us:List Value}(h:us.length=n+1):∃(a:Value) (r:List Value),us=a::r/\r.length=n:=by
 cases us with
 |nil=>exact nomatch h
 |cons a r=>exact⟨a,r,rfl,Nat.succ.inj h⟩
theorem uz {us:List Value}(h:us.length=0):us=[]:=List.eq_nil_of_length_eq_zero h
theorem ub1 {fd:FuncData}{x0:Str}(h:∀a0:Value,bindArgs fd ⟨[a0],[]⟩=pure ([x0].zip [a0])) (us:List Value) (e:us.length=1):bindArgs fd ⟨us,[]⟩=pure ([x0].zip us):=by
 obtain⟨a0,r0,q0,e0⟩:=uc e;rw[q0,uz e0];exact h a0
theorem ub2 {fd:FuncData}{x0 x1:Str}(h:∀a0 a1:Value,bindArgs fd ⟨[a0,a1],[]⟩=pure ([x0,x1].zip [a0,a1])) (us:List Value) (e:us.length=2):bindArgs fd ⟨us,[]⟩=pure ([x0,x1].zip us):=by
 obtain⟨a0,r0,q0,e0⟩:=uc e;obtain⟨a1,r1,q1,e1⟩:=uc e0;rw[q0,q1,uz e1];exact h a0 a1
theorem ub3 {fd:FuncData}{x0 x1 x2:Str}(h:∀a0 a1 a2:Value,bindArgs fd ⟨[a0,a1,a2],[]⟩=pure ([x0,x1,x2].zip [a0,a1,a2])) (us:List Value) (e:us.length=3):bindArgs fd ⟨us,[]⟩=pure ([x0,x1,x2].zip us):=by
 obtain⟨a0,r0,q0,e0⟩:=uc e;obtain⟨a1,r1,q1,e1⟩:=uc e0;obtain⟨a2,r2,q2,e2⟩:=uc e1;rw[q0,q1,q2,uz e2];exact h a0 a1 a2
theorem ub4 {fd:FuncData}{x0 x1 x2 x3:Str}(h:∀a0 a1 a2 a3:Value,bindArgs fd ⟨[a0,a1,a2,a3],[]⟩=pure ([x0,x1,x2,x3].zip [a0,a1,a2,a3])) (us:List Value) (e:us.length=4):bindArgs fd ⟨us,[]⟩=pure ([x0,x1,x2,x3].zip us):=by
 obtain⟨a0,r0,q0,e0⟩:=uc e;obtain⟨a1,r1,q1,e1⟩:=uc e0;obtain⟨a2,r2,q2,e2⟩:=uc e1;obtain⟨a3,r3,q3,e3⟩:=uc e2;rw[q0,q1,q2,q3,uz e3];exact h a0 a1 a2 a3
theorem QS {K:Frag}{h:Heap}{mg:Str->Option Value}{x:Str}{st:Stmt}{ps:List Str}{f:Addr}{oc:Value}{od an:Option Addr}{osl:Array (Option Value)}{kV doc pm cdv ct:Value}(X:K.In h) (G:h.Ns mainGlobals mg)
  (a:nsIn K mainGlobals x=some (some (.ref f))) (l:K.lookup f=some ⟨oc,od,.func (fnOf x x (bH st) (bj st) (au st) .none kV doc pm an cdv ct),osl⟩) (c:codeIn K cdv x=true) (k:keepIn K (.ref f)=true)
  (hb:∀(kV doc pm:Value) (an:Option Addr) (cdv ct:Value) (us:List Value),us.length=ps.length->bindArgs (fnOf x x (bH st) (bj st) (au st) .none kV doc pm an cdv ct) ⟨us,[]⟩=pure (ps.zip us)) :
  G3 K mg x st ps f (fnOf x x (bH st) (bj st) (au st) .none kV doc pm an cdv ct) :=
 have F:=oG (st:=st) l c k
 ⟨F,F.binds hb,mg_of X G a⟩
theorem cT (i:Nat) (ps:List Str) (x:Str) (f:Addr) (m:Str) (t c:Nat) {K:Frag}{h:Heap}{mg:Str->Option Value}(X:K.In h) (G:h.Ns mainGlobals mg)
  (hb:∀(kV doc pm:Value) (an:Option Addr) (cdv ct:Value) (us:List Value),us.length=ps.length->bindArgs (fnOf x x (bH (top i)) (bj (top i)) (au (top i)) .none kV doc pm an cdv ct) ⟨us,[]⟩=pure (ps.zip us))
  (a:nsIn K mainGlobals x=some (some (.ref f)):=by kernel_rfl) (l:K.lookup f=some (fO i x m t c):=by kernel_rfl) (e:codeIn K (.ref c) x=true:=by kernel_rfl) (k:keepIn K (.ref f)=true:=by kernel_rfl) :
  G3 K mg x (top i) ps f (fnOf x x (bH (top i)) (bj (top i)) (au (top i)) .none .none .none (.str m t) none (.ref c) .none) :=
 QS X G a l e k hb
def PB:Stmt->Pos->Pos
 |.FunctionDef _ _ _ _ _ _ _ _ _ p,_=>p
 |_,p=>p
def dv:DefRec:=⟨"law",bH (top 47),bj (top 47),au (top 47),PB (top 47) default⟩
theorem all_ok {l:PySem.W.OpenLaw}{w:World}{h:Heap}{mg:Str->Option Value}{fa:Addr}(X:(KK w.params).In h) (G:h.Ns mainGlobals mg) (hfa:mg "law"=some (.ref fa)) :
  ∃fd:FuncData,(∀(s:Shared) (v:Value),BindsTo s fd ⟨[v],[]⟩ [("_law_script",v)])/\∀base:Heap,(KK w.params).In base->base.Ns mainGlobals mg->FnOk3 l.prog w (KK w.params) mg base 9 fa fd ["_law_script"] wg:=by
 have at_:∀{n:Str} {v:Value},nsIn (KK w.params) mainGlobals n=some (some v)->mg n=some v:=fun e=>mg_of X G e;have no_:∀{n:Str},nsIn (KK w.params) mainGlobals n=some none->mg n=none:=fun e=>PySem.W.mg_none_of X G e;have e:=hfa.symm.trans (at_ (v:=.ref 334) (by kernel_rfl));cases e;have B:Bl mg:=⟨no_ (by kernel_rfl),no_ (by kernel_rfl),no_ (by kernel_rfl),no_ (by kernel_rfl),no_ (by kernel_rfl),no_ (by kernel_rfl),no_ (by kernel_rfl),no_ (by kernel_rfl),no_ (by kernel_rfl),no_ (by kernel_rfl),no_ (by kernel_rfl),no_ (by kernel_rfl),no_ (by kernel_rfl),no_ (by kernel_rfl),no_ (by kernel_rfl),no_ (by kernel_rfl),no_ (by kernel_rfl),no_ (by kernel_rfl),no_ (by kernel_rfl),no_ (by kernel_rfl)⟩;have C:Cs (KK w.params) mg:=⟨.int (at_ (v:=.int 8 404) (by kernel_rfl)),
  .int (at_ (v:=.int 60 406) (by kernel_rfl)),
  .int (at_ (v:=.int 8 408) (by kernel_rfl)),
  .int (at_ (v:=.int 4 410) (by kernel_rfl)),
  .int (at_ (v:=.int 28 412) (by kernel_rfl)),
  .int (at_ (v:=.int 12 414) (by kernel_rfl)),
  .int (at_ (v:=.int 8 416) (by kernel_rfl)),
  .str (at_ (v:=.str "abcdefghijklmnopqrstuvwxyz" 418) (by kernel_rfl)),
  .str (at_ (v:=.str "0123456789" 428) (by kernel_rfl)),
  .two (y:="with") (z:="apart") (t:=430) (t':=431) (a:=178) (n:=0) (sl:=#[]) (at_ (v:=.ref 178) (by kernel_rfl)) (by kernel_rfl)⟩
 have g_is_name:=cT 19 ["word"] "is_name" 177 "stationrow.works" 402 176 X G fun _ _ _ _ _ _=>ub1 fun _=>rfl;have g_are_names:=cT 23 ["words"] "are_names" 183 "stationrow.texts" 426 182 X G fun _ _ _ _ _ _=>ub1 fun _=>rfl;have g_is_length:=cT 24 ["word"] "is_length" 188 "stationrow.texts" 426 187 X G fun _ _ _ _ _ _=>ub1 fun _=>rfl;have g_is_task_written:=cT 25 ["words"] "is_task_written" 195 "stationrow.texts" 426 194 X G fun _ _ _ _ _ _=>ub1 fun _=>rfl;have g_is_row_written:=cT 26 ["words"] "is_row_written" 202 "stationrow.texts" 426 201 X G fun _ _ _ _ _ _=>ub1 fun _=>rfl;have g_names_of:=cT 27 ["tasks"] "names_of" 207 "stationrow.texts" 426 206 X G fun _ _ _ _ _ _=>ub1 fun _=>rfl;have g_read_task:=cT 28 ["words","tasks","number"] "read_task" 214 "stationrow.texts" 426 213 X G fun _ _ _ _ _ _=>ub3 fun _ _ _=>rfl;have g_check_new:=cT 29 ["told","ahead","most","number"] "check_new" 221 "stationrow.texts" 426 220 X G fun _ _ _ _ _ _=>ub4 fun _ _ _ _=>rfl;have g_check_ends:=cT 30 ["one","other","tasks","number"] "check_ends" 228 "stationrow.texts" 426 227 X G fun _ _ _ _ _ _=>ub4 fun _ _ _ _=>rfl;have g_read_order:=cT 31 ["words","tasks","orders","number"] "read_order" 235 "stationrow.texts" 426 234 X G fun _ _ _ _ _ _=>ub4 fun _ _ _ _=>rfl;have g_read_pair:=cT 32 ["words","tasks","pairs","number"] "read_pair" 242 "stationrow.texts" 426 241 X G fun _ _ _ _ _ _=>ub4 fun _ _ _ _=>rfl;have g_read_rows:=cT 33 ["rows"] "read_rows" 249 "stationrow.texts" 426 248 X G fun _ _ _ _ _ _=>ub1 fun _=>rfl;have g_read_works:=cT 34 ["text"] "read_works" 256 "stationrow.texts" 426 255 X G fun _ _ _ _ _ _=>ub1 fun _=>rfl;have g_deck:=cT 36 ["_law_script"] "_law_deck" 263 mlw 540 262 X G fun _ _ _ _ _ _=>ub1 fun _=>rfl;have g_next:=cT 37 ["_law_deck_here"] "_law_next" 270 mlw 540 269 X G fun _ _ _ _ _ _=>ub1 fun _=>rfl;have g_great:=cT 38 ["_law_deck_here"] "_law_great" 277 mlw 540 276 X G fun _ _ _ _ _ _=>ub1 fun _=>rfl;have g_word:=cT 39 ["_law_deck_here","_law_words_here"] "_law_word" 284 mlw 540 283 X G fun _ _ _ _ _ _=>ub2 fun _ _=>rfl;have g_words:=cT 40 ["_law_deck_here","_law_many"] "_law_words" 291 mlw 540 290 X G fun _ _ _ _ _ _=>ub2 fun _ _=>rfl;have g_same:=cT 41 ["_law_one","_law_other"] "_law_same" 296 mlw 540 295 X G fun _ _ _ _ _ _=>ub2 fun _ _=>rfl;have g_alone:=cT 42 ["_law_e"] "_law_alone" 303 mlw 540 302 X G fun _ _ _ _ _ _=>ub1 fun _=>rfl;have g_told:=cT 43 ["_law_thing"] "_law_told" 310 mlw 540 309 X G fun _ _ _ _ _ _=>ub1 fun _=>rfl;have g_right:=cT 44 ["_law_text","_law_due"] "_law_right" 317 mlw 540 316 X G fun _ _ _ _ _ _=>ub2 fun _ _=>rfl;have g_full:=cT 45 ["_law_deck_here"] "_law_full" 322 mlw 540 321 X G fun _ _ _ _ _ _=>ub1 fun _=>rfl;have g_texts:=cT 46 ["_law_works"] "_law_texts" 327 mlw 540 326 X G fun _ _ _ _ _ _=>ub1 fun _=>rfl;have g_law:=cT 47 ["_law_script"] "law" 334 mlw 540 333 X G fun _ _ _ _ _ _=>ub1 fun _=>rfl;refine⟨fnOf "law" "law" (bH (top 47)) (bj (top 47)) (au (top 47)) .none .none .none (.str mlw 540) none (.ref 333) .none,fun s v=>.of_eq rfl,fun base _ _=>?_⟩;have I_NoRow:Fun (KK w.params) "__init__" "NoRow.__init__" (topm 2 0) 41 (fnOf "__init__" "NoRow.__init__" (bH (topm 2 0)) (bj (topm 2 0)) (au (topm 2 0)) .none .none .none (.str "stationrow.errors" 187) none (.ref 40) .none):=oG (oc:=.type "function") (od:=none) (osl:=#[]) (by kernel_rfl) (by kernel_rfl) (by kernel_rfl);obtain⟨cd_NoRow,S_NoRow⟩:=pJ (K:=KK w.params) (C:=44) (by kernel_rfl) (by kernel_rfl) (by kernel_rfl);have NF_NoRow:∀n∈(["row"]:List Str),findIn (KK w.params) (.ref 44) n=some none:=fun n hn=>by
  rcases List.mem_cons.mp hn with rfl | hn
  ·kernel_rfl
  exact nomatch hn
 have X_NoRow:ExcC l.prog w (KK w.params) mg base "NoRow" 44 ["row"]:=⟨at_ (v:=.ref 44) (by kernel_rfl),⟨41,_,["self","row"],cd_NoRow,⟨by kernel_rfl,by kernel_rfl,by kernel_rfl⟩,S_NoRow,BK I_NoRow,I_NoRow.binds fun _ _ _ _ _ _=>ub2 fun _ _=>rfl⟩,NF_NoRow,by decide⟩;have I_Twice:Fun (KK w.params) "__init__" "Twice.__init__" (topm 3 0) 60 (fnOf "__init__" "Twice.__init__" (bH (topm 3 0)) (bj (topm 3 0)) (au (topm 3 0)) .none .none .none (.str "stationrow.errors" 187) none (.ref 59) .none):=oG (oc:=.type "function") (od:=none) (osl:=#[]) (by kernel_rfl) (by kernel_rfl) (by kernel_rfl);obtain⟨cd_Twice,S_Twice⟩:=pJ (K:=KK w.params) (C:=63) (by kernel_rfl) (by kernel_rfl) (by kernel_rfl);have NF_Twice:∀n∈(["row"]:List Str),findIn (KK w.params) (.ref 63) n=some none:=fun n hn=>by
  rcases List.mem_cons.mp hn with rfl | hn
  ·kernel_rfl
  exact nomatch hn
 have X_Twice:ExcC l.prog w (KK w.params) mg base "Twice" 63 ["row"]:=⟨at_ (v:=.ref 63) (by kernel_rfl),⟨60,_,["self","row"],cd_Twice,⟨by kernel_rfl,by kernel_rfl,by kernel_rfl⟩,S_Twice,BP I_Twice,I_Twice.binds fun _ _ _ _ _ _=>ub2 fun _ _=>rfl⟩,NF_Twice,by decide⟩;have I_NoTask:Fun (KK w.params) "__init__" "NoTask.__init__" (topm 4 0) 79 (fnOf "__init__" "NoTask.__init__" (bH (topm 4 0)) (bj (topm 4 0)) (au (topm 4 0)) .none .none .none (.str "stationrow.errors" 187) none (.ref 78) .none):=oG (oc:=.type "function") (od:=none) (osl:=#[]) (by kernel_rfl) (by kernel_rfl) (by kernel_rfl);obtain⟨cd_NoTask,S_NoTask⟩:=pJ (K:=KK w.params) (C:=82) (by kernel_rfl) (by kernel_rfl) (by kernel_rfl);have NF_NoTask:∀n∈(["row"]:List Str),findIn (KK w.params) (.ref 82) n=some none:=fun n hn=>by
  rcases List.mem_cons.mp hn with rfl | hn
  ·kernel_rfl
  exact nomatch hn
 have X_NoTask:ExcC l.prog w (KK w.params) mg base "NoTask" 82 ["row"]:=⟨at_ (v:=.ref 82) (by kernel_rfl),⟨79,_,["self","row"],cd_NoTask,⟨by kernel_rfl,by kernel_rfl,by kernel_rfl⟩,S_NoTask,xH I_NoTask,I_NoTask.binds fun _ _ _ _ _ _=>ub2 fun _ _=>rfl⟩,NF_NoTask,by decide⟩;have S1:=iU (P:=l.prog) (w:=w) (base:=base) (d:=0) g_same B ⟨_,_,g_same,zr fun ts H Q ⟨t,h,_⟩=>h rfl⟩;have S2:=iU g_same B S1;have S3:=iU g_same B S2;have S4:=iU g_same B S3;have F_same:=iU g_same B S4;have F_alone:=Bv (P:=l.prog) (w:=w) (base:=base) (C_NoRoom:=170) (C_NoStand:=139) (C_Ring:=101) (C_TooLong:=158) (C_Torn:=120) g_alone B (at_ (v:=.ref 170) (by kernel_rfl)) (at_ (v:=.ref 139) (by kernel_rfl)) (at_ (v:=.ref 101) (by kernel_rfl)) (at_ (v:=.ref 158) (by kernel_rfl)) (at_ (v:=.ref 120) (by kernel_rfl)) (no_ (by kernel_rfl));have F_is_name:=uE (P:=l.prog) (w:=w) (base:=base) g_is_name B C;have F_are_names:=pP g_are_names B C F_is_name;have F_is_length:=pY (P:=l.prog) (w:=w) (base:=base) g_is_length B C;have F_is_task_written:=gZ g_is_task_written B C F_are_names F_is_length F_is_name;have F_is_row_written:=iQ g_is_row_written B C F_are_names F_is_task_written;have F_names_of:=rW (P:=l.prog) (w:=w) (base:=base) g_names_of B C;have F_read_task:=pU g_read_task B C X_NoRow X_Twice F_names_of;have F_check_ends:=lY g_check_ends B C X_NoTask F_names_of;have F_check_new:=pR g_check_new B C X_NoRow X_Twice;have F_read_order:=lZ g_read_order B C F_check_ends F_check_new;have F_read_pair:=pW g_read_pair B C F_check_ends F_check_new;have F_read_rows:=qd g_read_rows B C X_NoRow F_is_row_written F_read_task F_read_order F_read_pair;have F_read_works:=mq g_read_works B C X_NoRow F_read_rows;have F_told:=FQ (C_RowError:=24) (C_NoRoom:=170) (C_NoStand:=139) (C_Ring:=101) (C_TooLong:=158) (C_Torn:=120) (C_NoRow:=44) (C_Twice:=63) (C_NoTask:=82) g_told B ⟨at_ (v:=.ref 44) (by kernel_rfl),⟨by kernel_rfl,by kernel_rfl⟩⟩ ⟨at_ (v:=.ref 63) (by kernel_rfl),⟨by kernel_rfl,by kernel_rfl⟩⟩ ⟨at_ (v:=.ref 82) (by kernel_rfl),⟨by kernel_rfl,by kernel_rfl⟩⟩ (at_ (v:=.ref 44) (by kernel_rfl)) (at_ (v:=.ref 63) (by kernel_rfl)) (at_ (v:=.ref 82) (by kernel_rfl)) (at_ (v:=.ref 24) (by kernel_rfl)) ⟨⟨by kernel_rfl,by kernel_rfl,by kernel_rfl,by kernel_rfl⟩,by kernel_rfl,by kernel_rfl,by kernel_rfl,by kernel_rfl⟩ (by kernel_rfl) (by kernel_rfl) (by kernel_rfl) (by kernel_rfl) (by kernel_rfl) (by kernel_rfl) ⟨⟨by kernel_rfl,by kernel_rfl,by kernel_rfl,by kernel_rfl⟩,by kernel_rfl,by kernel_rfl,by kernel_rfl,by kernel_rfl⟩ (by kernel_rfl) (by kernel_rfl) (by kernel_rfl) (by kernel_rfl) (by kernel_rfl) (by kernel_rfl) ⟨⟨by kernel_rfl,by kernel_rfl,by kernel_rfl,by kernel_rfl⟩,by kernel_rfl,by kernel_rfl,by kernel_rfl,by kernel_rfl⟩ (by kernel_rfl) (by kernel_rfl) (by kernel_rfl) (by kernel_rfl) (by kernel_rfl) (by kernel_rfl) (by kernel_rfl) (by kernel_rfl) (by kernel_rfl) F_alone F_read_works;have F_right:=By g_right B F_same F_told;have F_next:=Fj (P:=l.prog) (w:=w) (base:=base) g_next B;have F_texts:=Br (P:=l.prog) (w:=w) (base:=base) g_texts B;have F_great:=Bf g_great B F_next;have F_word:=FW g_word B F_next;have F_words:=Bh g_words B F_word;have F_full:=Fv g_full B F_next F_great F_words;have F_deck:=Fp (P:=l.prog) (w:=w) (base:=base) g_deck B;exact Lh g_law B F_right F_next F_texts F_full F_deck
theorem walk {l:PySem.W.OpenLaw}{q:Program}{loose:List Str}{XP:(Str->Option Value)->Heap->Prop}{YP:World->Heap->Prop}{d:DefRec}{K:Params->Frag}(hn:l.most=some 63) (hdf:d.params.defaults=[])
  (hY:∀(w:World) (h:Heap),YP w h->(K w.params).In h) (hNL:∀w:World,BV (K w.params)=true)
  (F:∀(w:World) (mg:Str->Option Value) (fa:Addr) (h:Heap),(K w.params).In h->h.Ns mainGlobals mg->mg d.name=some (.ref fa) ->
   ∃fd:FuncData,(∀(s:Shared) (u:Value),BindsTo s fd ⟨[u],[]⟩ [("_law_script",u)])/\∀base:Heap,(K w.params).In base->base.Ns mainGlobals mg->FnOk3 l.prog w (K w.params) mg base 9 fa fd ["_law_script"] wg) :
  PySem.W.WalkO q loose XP YP l.row.toRowW d [] (fun f vs=>PySem.call f vs):=by
 refine L2.walk_of (n:=63) (k:=9) (x:="_law_script") (CX:=fun _=>CX0) (sp:=fun w=>mR (K w.params) wg) hn (by decide) hdf ⟨rfl,by decide,by decide,rfl⟩ hY F (fun w H a ns hl hO hS=>?_) fun _ _ _ _ _ z=>z;refine⟨[.ref a],fun b=>if b=a then some (.rol (ns.map T.int)) else none,fun t _=>t=.bl true,.cons .ofRef .nil,fun b o e=>?_,⟨a,ns,rfl,if_pos rfl,hl,fun _=>rfl⟩,fun v H' t H3' _ _ r q=>?_⟩
 ·dsimp only at e;by_cases hb:b=a
  ·rw[if_pos hb] at e;cases e;subst hb;rcases hS with hS | ⟨o,its,n,hk,hc,_⟩
   ·refine⟨_,hS,?_⟩;have:∀ms:List Int,Reps (K w.params) H (ms.map T.int) (ms.map V.int):=fun ms=>by
     induction ms with
     |nil=>exact .nil
     |cons m r ih=>exact .cons .ofInt ih
    exact this ns
   exact absurd hc (xJ (hNL w) hk)
  rw[if_neg hb] at e;cases e
 subst q;exact r.bl
end M
open PySem PySem.W PyProof.Rows
set_option maxRecDepth 100000 in
set_option maxHeartbeats 0 in
theorem PySem.Challenge.cw_stationrow_k04_one_too_many_holds : PySem.Challenge.rw_stationrow_k04_one_too_many.Holds := by
 refine holds_law (by kernel_rfl) fun said=>?_;refine holds_open (d:=M.dv) (kwd:=[]) (q:=M.qv) (loose:=[]) (Xt:=fun s=>xlAt M.qv [] s&&recOk (RowW.records (OpenLaw.row PySem.Challenge.rw_stationrow_k04_one_too_many).toRowW) s) (XP:=XL M.qv []) (Yf:=Hook.obs M.HK) (Ya:=Hook.val M.HK) (YP:=Hook.says M.HK) (N:=6146) M.left (Hook.of M.HK) (Hook.keeps M.HK) (fun s e=>xl_of s (Bool.and_eq_true_iff.mp e).1) XL.keeps (by kernel_rfl) (by kernel_rfl) (by kernel_rfl) (fun s e=>recFacts_of (Bool.and_eq_true_iff.mp e).2) (by kernel_rfl) (by first | assumption | kernel_rfl) (by kernel_rfl) ⟨rfl,rfl,rfl,rfl,rfl,by decide +kernel⟩ ?hw ?hc
 case hw=>w_witness2
 case hc=>exact M.walk (l:=PySem.Challenge.rw_stationrow_k04_one_too_many) rfl rfl (fun w h Y=>kIn_of Y) (fun w=>by kernel_rfl) fun w mg fa h KX G hmg=>M.all_ok KX G hmg
#print axioms PySem.Challenge.cw_stationrow_k04_one_too_many_holds
