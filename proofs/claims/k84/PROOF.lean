import PyProof.Rows.All
import Wide.All
import OpenK.AllK
import Wide.FinOn
import KE.KLam
import Lean
import PyProof.EqAt
import PyProof.EqKinds
import PyProof.TupleCall
import PySem.Challenge.RW_fivefields_k84_ring_of
local macro_rules
  | `(tactic| omega) => `(tactic| lia)
set_option maxHeartbeats 4000000
set_option compiler.extract_closed false
namespace Hd
open PySem PySem.W PySem.Calls PyProof.Rows
section
set_option maxHeartbeats 0
set_option maxRecDepth 100000
set_option linter.all false
theorem ws:OpenLaw.wellSaid PySem.Challenge.rw_fivefields_k84_ring_of=true:=by
 delta OpenLaw.wellSaid
 with_reducible refine look_both (look_both (look_both (look_both (look_both (look_both (look_both (look_both (look_both (look_both (look_both (look_both (look_both (look_both (look_both (look_both (look_both (look_both ?_ ?_) ?_) ?_) ?_) ?_) ?_) ?_) ?_) ?_) ?_) ?_) ?_) ?_) ?_) ?_) ?_) ?_) ?_
 ·delta OpenRow.wellSaid
  with_reducible refine look_both (look_both ?_ ?_) ?_
  ·delta OpenRow.partSaid
   with_reducible refine look_both (look_both (look_both (look_both (look_both (look_both (look_both (look_both (look_both (look_both (look_both (look_both ?_ ?_) ?_) ?_) ?_) ?_) ?_) ?_) ?_) ?_) ?_) ?_) ?_
   ·delta looksOpen
    with_reducible refine look_both (look_both (look_both (look_both (look_both ?_ ?_) ?_) ?_) ?_) ?_
    all_goals decide +kernel
   all_goals decide +kernel
  all_goals decide +kernel
 all_goals decide +kernel
noncomputable section
noncomputable abbrev pw:Program:=PySem.Challenge.pw_fivefields_k84_ring_of
noncomputable abbrev bi:List Stmt:=behindTheImports pw
noncomputable def nth:List Stmt->Nat->Stmt
 |s::_,0=>s
 |_::r,n+1=>nth r n
 |[],_=>.Pass default
noncomputable def tp(i:Nat):Stmt:=nth pw.main.body i
noncomputable def bd:Stmt->List Stmt
 |.FunctionDef _ _ b _ _ _ _ _ _ _=>b
 |.ClassDef _ _ _ b _ _ _ _ _ _ _=>b
 |_=>[]
noncomputable def ag:Stmt->Arguments
 |.FunctionDef _ a _ _ _ _ _ _ _ _=>a
 |_=>⟨[],[],none,[],[],none,[]⟩
noncomputable def sc:Stmt->Scope
 |.FunctionDef _ _ _ _ _ _ s _ _ _=>s
 |.ClassDef _ _ _ _ _ _ s _ _ _ _=>s
 |_=>pw.main.scope
noncomputable def r(a:Addr):Value:=.ref a
noncomputable def i(n:Int):Value:=.int n 0
noncomputable def de(P:Params)(k:Str)(t:Tok)(v:Value):DictEntry:=⟨PyData.keyHash P k,.str k t,v⟩
noncomputable def tu(l:List Value):Obj:=⟨.type "tuple",none,.seq l.toArray 0,#[]⟩
noncomputable def di(l:List DictEntry)(n:Nat):Obj:=⟨.type "dict",none,.dict l.toArray n,#[]⟩
noncomputable def co(l:List Value):Obj:=⟨.type "code",none,.fields l.toArray,#[]⟩
noncomputable def fd(l:List Value):Obj:=⟨.none,none,.fields l.toArray,#[]⟩
noncomputable def lf(x:Obj):BT:=.node x .nil .nil
noncomputable abbrev nd:Obj->BT->BT->BT:=BT.node
noncomputable def sf(t:Tok):Value:=.str "/claim/cut.py" t
noncomputable def fz(n q:Str)(s:Stmt):Obj:=⟨.none,none,.func ⟨n,q,ag s,.stmts (bd s),sc s,0,[],.none,.none,.none,.none,none,.none,.none,0⟩,#[]⟩
noncomputable def fn(n q:Str)(s:Stmt)(g:Addr)(c:List (Str×Addr))(d k o m:Value)(a:Option Addr)(x y:Value)(b:Addr):Obj:=⟨.type "function",none,.func ⟨n,q,ag s,.stmts (bd s),sc s,g,c,d,k,o,m,a,x,y,b⟩,#[]⟩
noncomputable def ib(s:Stmt)(i:Nat):Stmt:=nth (bd s) i
noncomputable def ev:Env:={scope:=pw.main.scope,locals:=mainNs,globals:=mainNs,cells:=[],code:=(r 13),frame:=some 14}
noncomputable def cd:Code:=.body bi ev
noncomputable abbrev an:Option Value:=(some (r 6))
noncomputable abbrev bk:List Frame:=[topFrame ⟨0,0,0,0⟩]
def cO(n q:Str)(t l c x a u:Nat):Obj:=co [.str n t,.str q (t+1),sf (t+2),i (Int.ofNat l),i (Int.ofNat c),i 0,i 0,i (Int.ofNat x),r a,.bool true,i 181,r (a+1),.none,r (a+2),r (a+3),r (a+4),i (Int.ofNat u),i (Int.ofNat l),sf (u+1)]
def cP(n:Str)(t l c x a u:Nat):Obj:=cO n n t l c x a u
def cK(n q:Str)(t l a u:Nat):Obj:=co [.str n t,.str q (t+1),sf (t+2),i (Int.ofNat l),i 0,i 0,i 0,i 0,r a,.bool false,i 181,r (a+1),.none,.none,.none,.none,i (Int.ofNat u),i (Int.ofNat l),sf (u+1)]
def fQ(n q:Str)(s:Stmt)(m:Value)(a:Addr):Obj:=fn n q s 3 [] .none .none .none m none (r a) .none 0
def fP(n:Str)(k:Nat)(m:Value)(a:Addr):Obj:=fQ n n (tp k) m a
def fY(n:Str)(k:Nat):Obj:=fz n n (tp k)
def fS(n q:Str)(s z:Stmt)(m:Value)(a:Addr):Obj:=⟨(.type "function"),none,(.func ⟨n,q,ag s,.stmts (bd s),sc z,3,[],.none,.none,.none,m,none,r a,.none,0⟩),#[]⟩
def fT(n q:Str)(s z:Stmt):Obj:=⟨.none,none,(.func ⟨n,q,ag s,.stmts (bd s),sc z,0,[],.none,.none,.none,.none,none,.none,.none,0⟩),#[]⟩
def ss:List Str->Nat->List Value
 |[],_=>[]
 |x::l,n=>.str x n::ss l (n+1)
def tS(n:Nat)(l:List Str):Obj:=tu (ss l n)
def dr(P:Params)(k:Str)(t:Tok)(a:Addr):DictEntry:=de P k t (r a)
def f3(k:Nat):List (Nat×Nat)->List Value
 |[]=>[]
 |(a,b)::l=>i (Int.ofNat a)::i (Int.ofNat k)::r b::f3 k l
def fD(k:Nat)(l:List (Nat×Nat)):Obj:=fd (f3 k l)
def fr(a b:Addr)(m:Value):Obj:=⟨(.type "frame"),none,.plain,#[some (r a),some (r 3),some (r b),none,some m,none,some (r 0)]⟩
def bm(s:String)(v:Value):Obj:=⟨(.type "builtin_function_or_method"),none,(.fields #[.builtin s,v]),#[]⟩
def L3(l:List Obj):List Obj×List Obj:=List.rec ([],[]) (fun x _ p=>(x::p.2,p.1)) l
def nz:Nat->List Obj->BT
 |0,_=>.nil
 |_+1,[]=>.nil
 |n+1,x::l=>.node x (nz n (L3 l).1) (nz n (L3 l).2)
def su(a b c:Addr):Obj:=⟨(.type "super"),none,(.fields #[r a,r b,r c]),#[]⟩
def fv:Value:=.str "fivefields.marks" 622
def iG:Value:=.str "fivefields.errors" 194
def kY:Value:=.str "fivefields.days" 305
def rb:Value:=.str "fivefields.months" 426
def mU:Value:=.str "fivefields.ranges" 476
def lU:Value:=.str "fivefields.fields" 528
def gL:Value:=.str "law_fivefields_k84_ring_of" 1431
def iq:Value:=.str "fivefields.rows" 1065
def gX:Value:=.str "fivefields.clocks" 1243
def o0:=tu []
def o1:=fd []
def o2:=cK "<module>" "<module>" 182 1 11 185
def o3:Obj:=⟨(.type "frame"),none,.plain,#[(some (r 13)),(some (r 3)),(some (r 3)),none,(some (.str "__main__" 164)),none,(some (r 0))]⟩
def hA(P:Params):Heap:=⟨⟨[(boot_o_0 P),(boot_o_1 P),(boot_o_2 P),(boot_o_3 P),(boot_o_4 P),(boot_o_5 P),(boot_o_6 P),(boot_o_7 P),(boot_o_8 P),(boot_o_9 P),(boot_o_10 P),o0,o1,o2,o3]⟩,⟨[],[],[],0,[],[],false,#[],[],0,false,false,false,0,[2000,10,10],false,0,true,[],[],0,false⟩⟩
def sA(w:World)(os:OsState):Shared:=⟨hA w.params,#[],⟨0,0,0,0⟩,187,os⟩
theorem pre(w:World)(os:OsState):
  topGo treeTable pw w 11 an 12 ⟨boot_heap w.params,⟨[]⟩,boot_drawn,boot_toks,os⟩ (topStub pw) =
  some (sA w os,⟨denote treeTable cd,cd,⟨0,0,0,0⟩,bk⟩):=by kernel_rfl
def t0(P:Params):BT:=nz 5 [(boot_o_0 P),(boot_o_1 P),(boot_o_2 P),(boot_o_3 P),(boot_o_4 P),(boot_o_5 P),(boot_o_6 P),(boot_o_7 P),(boot_o_8 P),(boot_o_9 P),(boot_o_10 P),o0,o1,o2,o3]
def s0(w:World)(os:OsState):SharedT:=⟨t0 w.params,15,⟨[],[],[],0,[],[],false,#[],[],0,false,false,false,0,[2000,10,10],false,0,true,[],[],0,false⟩,#[],⟨0,0,0,0⟩,187,os⟩
theorem SB(w:World)(os:OsState):
  segRun treeTable pw w 11 an 1 1 (sA w os) (blockOf bi ev cd ⟨0,0,0,0⟩ bk) =
  some (.next,(s0 w os).abs,cd,⟨0,0,0,0⟩):=by kernel_rfl
def o4(P:Params):=di [de P "__name__" 165 fv,de P "__doc__" 166 .none,de P "__package__" 167 .none,de P "__loader__" 168 (.builtin "__main__.__loader__#opaque"),de P "__spec__" 169 .none,dr P "__annotations__" 170 6,dr P "__builtins__" 171 4,de P "__file__" 173 (sf 172),de P "__cached__" 174 .none,dr P "_wall" 193 21,dr P "FieldError" 213 31,dr P "NoDay" 229 44,dr P "NoField" 254 63,dr P "NoRow" 279 82,dr P "NoClock" 295 94,dr P "is_whole" 304 103,dr P "MONTH_LASTS" 319 104,de P "ROUND_YEARS" 321 (.int 400 320),de P "ROUND_DAYS" 323 (.int 146097 322),dr P "is_long" 330 111,dr P "multiples_before" 338 118,dr P "days_before" 346 125,dr P "last_of" 354 132,dr P "is_date" 363 139,dr P "day_of" 369 144,dr P "year_of" 377 151,dr P "date_of" 387 158,dr P "weekday" 394 165,de P "FIGURES" 398 (.str "0123456789" 397),dr P "all_figures" 404 170,dr P "is_written" 411 177,de P "DAY_MINUTES" 415 (.int 1440 414),de P "HOUR_MINUTES" 417 (.int 60 416),dr P "parted" 425 184,de P "KINDS" 429 (.int 91 428),de P "LONG_PLACE" 431 (.int 12 430),de P "LONG_LAST" 433 (.int 29 432),de P "SHORT_YEAR" 435 (.int 1 434),dr P "kind_from" 445 191,dr P "kind_of" 453 198,dr P "month_at" 462 205,dr P "months_of_round" 473 212,de P "ROUND" 475 (.int 210379680 474),dr P "has" 485 219,dr P "lowest" 492 226,dr P "starts_of" 498 231,dr P "end_from" 507 238,dr P "ranges_of" 513 243,dr P "shown_range" 521 250,dr P "shown_ranges" 527 255,de P "MOST_SIGNS" 531 (.int 300 530),de P "MOST_ITEMS" 533 (.int 40 532),de P "MOST_STRIDE" 535 (.int 99 534),dr P "mask_of" 544 262,dr P "numbers_in" 550 267,dr P "run_mask" 559 274,dr P "read_number" 569 281,dr P "read_run" 575 286,dr P "read_strided" 588 293,dr P "read_item" 599 300,dr P "read_field" 613 307,dr P "never" 621 312,de P "MOST_MARKS" 625 (.int 20 624),de P "MOST_DAY" 627 (.int 31 626),de P "MOST_BACK" 629 (.int 30 628),de P "MOST_NTH" 631 (.int 5 630),de P "SUNDAY" 633 (.int 0 632),de P "SATURDAY" 635 (.int 6 634),de P "SUNDAY_TOO" 637 (.int 7 636),de P "ALL_WEEKDAYS" 639 (.int 127 638),dr P "weekday_at" 647 319,dr P "all_days" 654 326,dr P "nearest_work" 664 333,dr P "first_one" 672 340,dr P "Mark" 708 364,dr P "Numbers" 749 399,dr P "Last" 791 433] 77
def o5:=fD 0 [(1,20),(5,27),(7,40),(9,52),(13,71),(17,90),(20,102),(26,110),(28,117),(30,124),(33,131),(37,138),(41,143),(46,150),(51,157),(59,164),(63,169),(65,176),(70,183),(78,190),(81,197),(83,204),(89,211),(100,218),(102,225),(104,230),(107,237),(112,242),(114,249),(118,254),(124,261),(129,266),(131,273),(133,280),(140,285),(147,292),(154,299),(162,306),(176,311),(187,318),(189,325),(191,332),(198,339),(200,346),(207,374),(217,407)]
def o6:=tS 190 ["k"]
def o7:=fY "_wall" 0
def o8:=cP "_wall" 187 1 1 3 15 191
def o9:=fn "_wall" "_wall" (tp 0) 3 [] .none .none .none (.str "__main__" 164) none (r 20) .none 0
def KF:=tu [(.type "ValueError")]
def gk:=bm "type.__prepare__" (.type "type")
def DS(P:Params):=di [de P "__module__" 203 iG,de P "__qualname__" 205 (.str "FieldError" 204),de P "__firstlineno__" 207 (.int 5 206),dr P "__static_attributes__" 208 29] 4
def Iu:=cK "FieldError" "FieldError" 198 5 25 201
def HP:=fr 27 24 iG
def xR(P:Params):=di [de P "__module__" 203 iG,de P "__firstlineno__" 207 (.int 5 206),dr P "__static_attributes__" 208 29,dr P "__weakref__" 210 32,de P "__doc__" 211 .none] 3
def LJ:Obj:=⟨(.type "type"),none,(.cls ⟨"FieldError",[(.type "ValueError")],[(r 31),(.type "ValueError"),(.type "Exception"),(.type "BaseException"),(.type "object")],30,"FieldError",true,[],[(r 44),(r 63),(r 82),(r 94)],false,none,false⟩),#[(some (r 22)),none,(some (.str "FieldError" 196)),(some (.str "FieldError" 204)),(some (.builtin "ValueError.__new__")),(some (.bool true))]⟩
def Kk:Obj:=⟨(.type "getset_descriptor"),none,(.fields #[(.str "__weakref__" 209),(r 31),(.builtin "ExceptionGroup.__weakref__"),.none]),#[]⟩
def MI:=su 31 31 31
def BC:=bm "object.__init_subclass__" (r 31)
def lT:=tu [(r 31)]
def FU(P:Params):=di [de P "__module__" 221 iG,de P "__qualname__" 223 (.str "NoDay" 222),de P "__firstlineno__" 225 (.int 7 224),dr P "__static_attributes__" 226 42] 4
def KO:=cK "NoDay" "NoDay" 216 7 38 219
def DJ:=fr 40 37 iG
def xi(P:Params):=di [de P "__module__" 221 iG,de P "__firstlineno__" 225 (.int 7 224),dr P "__static_attributes__" 226 42,de P "__doc__" 227 .none] 2
def AF:Obj:=⟨(.type "type"),none,(.cls ⟨"NoDay",[(r 31)],[(r 44),(r 31),(.type "ValueError"),(.type "Exception"),(.type "BaseException"),(.type "object")],43,"NoDay",true,[],[],false,none,false⟩),#[(some (r 35)),none,(some (.str "NoDay" 214)),(some (.str "NoDay" 222)),(some (.builtin "ValueError.__new__")),(some (.bool true))]⟩
def JH:=su 44 44 44
def F6:=bm "object.__init_subclass__" (r 44)
def LO(P:Params):=di [de P "__module__" 237 iG,de P "__qualname__" 239 (.str "NoField" 238),de P "__firstlineno__" 241 (.int 9 240),dr P "__init__" 249 60,dr P "__static_attributes__" 251 61] 5
def C4:=fD 4 [(11,59)]
def IJ:=cK "NoField" "NoField" 232 9 50 235
def yc:=fr 52 49 iG
def FC:=tS 245 ["self","at"]
def DK:=fz "__init__" "NoField.__init__" (ib (tp 4) 0)
def Fv:=cO "__init__" "NoField.__init__" 242 11 2 3 54 247
def Li:=fQ "__init__" "NoField.__init__" (ib (tp 4) 0) iG 59
def Kv:=tS 250 ["at"]
def Bd(P:Params):=di [de P "__module__" 237 iG,de P "__firstlineno__" 241 (.int 9 240),dr P "__init__" 249 60,dr P "__static_attributes__" 251 61,de P "__doc__" 252 .none] 2
def Fm:Obj:=⟨(.type "type"),none,(.cls ⟨"NoField",[(r 31)],[(r 63),(r 31),(.type "ValueError"),(.type "Exception"),(.type "BaseException"),(.type "object")],62,"NoField",true,[],[],false,none,false⟩),#[(some (r 47)),none,(some (.str "NoField" 230)),(some (.str "NoField" 238)),(some (.builtin "ValueError.__new__")),(some (.bool true))]⟩
def E3:=su 63 63 63
def Mc:=bm "object.__init_subclass__" (r 63)
def Ar(P:Params):=di [de P "__module__" 262 iG,de P "__qualname__" 264 (.str "NoRow" 263),de P "__firstlineno__" 266 (.int 13 265),dr P "__init__" 274 79,dr P "__static_attributes__" 276 80] 5
def Cm:=fD 4 [(15,78)]
def D9:=cK "NoRow" "NoRow" 257 13 69 260
def D8:=fr 71 68 iG
def zG:=tS 270 ["self","place"]
def Mi:=fz "__init__" "NoRow.__init__" (ib (tp 5) 0)
def Hz:=cO "__init__" "NoRow.__init__" 267 15 2 3 73 272
def G8:=fQ "__init__" "NoRow.__init__" (ib (tp 5) 0) iG 78
def HI:=tS 275 ["place"]
def LI(P:Params):=di [de P "__module__" 262 iG,de P "__firstlineno__" 266 (.int 13 265),dr P "__init__" 274 79,dr P "__static_attributes__" 276 80,de P "__doc__" 277 .none] 2
def DO:Obj:=⟨(.type "type"),none,(.cls ⟨"NoRow",[(r 31)],[(r 82),(r 31),(.type "ValueError"),(.type "Exception"),(.type "BaseException"),(.type "object")],81,"NoRow",true,[],[],false,none,false⟩),#[(some (r 66)),none,(some (.str "NoRow" 255)),(some (.str "NoRow" 263)),(some (.builtin "ValueError.__new__")),(some (.bool true))]⟩
def LA:=su 82 82 82
def GH:=bm "object.__init_subclass__" (r 82)
def Gq(P:Params):=di [de P "__module__" 287 iG,de P "__qualname__" 289 (.str "NoClock" 288),de P "__firstlineno__" 291 (.int 17 290),dr P "__static_attributes__" 292 92] 4
def AV:=cK "NoClock" "NoClock" 282 17 88 285
def BL:=fr 90 87 iG
def LX(P:Params):=di [de P "__module__" 287 iG,de P "__firstlineno__" 291 (.int 17 290),dr P "__static_attributes__" 292 92,de P "__doc__" 293 .none] 2
def zh:Obj:=⟨(.type "type"),none,(.cls ⟨"NoClock",[(r 31)],[(r 94),(r 31),(.type "ValueError"),(.type "Exception"),(.type "BaseException"),(.type "object")],93,"NoClock",true,[],[],false,none,false⟩),#[(some (r 85)),none,(some (.str "NoClock" 280)),(some (.str "NoClock" 288)),(some (.builtin "ValueError.__new__")),(some (.bool true))]⟩
def GT:=su 94 94 94
def IU:=bm "object.__init_subclass__" (r 94)
def xr:=tS 301 ["thing"]
def FJ:=fY "is_whole" 8
def GS:=cP "is_whole" 298 20 1 3 97 302
def GA:=fn "is_whole" "is_whole" (tp 8) 3 [] .none .none .none (.str "fivefields.wholes" 296) none (r 102) .none 0
def Lb:=tu [(.int 31 307),(.int 28 308),(.int 31 309),(.int 30 310),(.int 31 311),(.int 30 312),(.int 31 313),(.int 31 314),(.int 30 315),(.int 31 316),(.int 30 317),(.int 31 318)]
def Jv:=tS 327 ["year"]
def JX:=fY "is_long" 13
def Kb:=cP "is_long" 324 26 1 3 105 328
def Ak:=fP "is_long" 13 kY 110
def EH:=tS 334 ["year","step"]
def yg:=fY "multiples_before" 14
def Dh:=cP "multiples_before" 331 28 2 3 112 336
def L7:=fP "multiples_before" 14 kY 117
def Lo:=tS 342 ["year","longs"]
def IP:=fY "days_before" 15
def Fb:=cP "days_before" 339 30 1 3 119 344
def Ci:=fP "days_before" 15 kY 124
def G1:=tS 350 ["year","month"]
def A5:=fY "last_of" 16
def Fi:=cP "last_of" 347 33 2 3 126 352
def yk:=fP "last_of" 16 kY 131
def zM:=tS 358 ["year","month","day"]
def Hk:=fY "is_date" 17
def zy:=cP "is_date" 355 37 3 3 133 361
def Bl:=fP "is_date" 17 kY 138
def xa:=fY "day_of" 18
def xH:=co [(.str "day_of" 364),(.str "day_of" 365),(sf 366),(i 41),(i 3),(i 0),(i 0),(i 3),(r 140),(.bool true),(i 181),(r 141),.none,.none,.none,(r 142),(i 367),(i 41),(sf 368)]
def Am:=fP "day_of" 18 kY 143
def Aj:=tS 373 ["day","year"]
def HR:=fY "year_of" 19
def z3:=cP "year_of" 370 46 1 3 145 375
def AI:=fP "year_of" 19 kY 150
def DU:=tS 381 ["day","year","month","rest"]
def zY:=fY "date_of" 20
def CI:=cP "date_of" 378 51 1 3 152 385
def xm:=fP "date_of" 20 kY 157
def Jn:=tS 391 ["day"]
def xy:=fY "weekday" 21
def HD:=cP "weekday" 388 59 1 3 159 392
def DN:=fP "weekday" 21 kY 164
def Jr:=fY "all_figures" 24
def GG:=co [(.str "all_figures" 399),(.str "all_figures" 400),(sf 401),(i 63),(i 1),(i 0),(i 0),(i 3),(r 166),(.bool true),(i 181),(r 167),.none,.none,.none,(r 168),(i 402),(i 63),(sf 403)]
def Lk:=fn "all_figures" "all_figures" (tp 24) 3 [] .none .none .none (.str "fivefields.figures" 395) none (r 169) .none 0
def Ca:=tS 408 ["text"]
def zT:=fY "is_written" 25
def FY:=cP "is_written" 405 65 1 3 171 409
def K9:=fn "is_written" "is_written" (tp 25) 3 [] .none .none .none (.str "fivefields.figures" 395) none (r 176) .none 0
def GR:=tS 421 ["moment","time"]
def He:=fY "parted" 29
def DG:=cP "parted" 418 70 1 3 178 423
def Ap:=fn "parted" "parted" (tp 29) 3 [] .none .none .none (.str "fivefields.moments" 412) none (r 183) .none 0
def LV:=tS 439 ["year","month","day","place"]
def AA:=fY "kind_from" 35
def Di:=cP "kind_from" 436 78 3 3 185 443
def Ih:=fP "kind_from" 35 rb 190
def Al:=tS 449 ["year","month"]
def HK:=fY "kind_of" 36
def ye:=cP "kind_of" 446 81 2 3 192 451
def HE:=fP "kind_of" 36 rb 197
def Ip:=tS 457 ["kind","place","first"]
def zu:=fY "month_at" 37
def Be:=cP "month_at" 454 83 1 3 199 460
def En:=fP "month_at" 37 rb 204
def IE:=tS 466 ["found","day","year","month","kind"]
def GD:=fY "months_of_round" 38
def A9:=cP "months_of_round" 463 89 0 3 206 471
def F5:=fP "months_of_round" 38 rb 211
def IV:=tS 481 ["mask","number"]
def xF:=fY "has" 41
def Ea:=cP "has" 478 100 2 3 213 483
def EZ:=fP "has" 41 mU 218
def IR:=tS 489 ["mask"]
def Fg:=fY "lowest" 42
def Ia:=cP "lowest" 486 102 1 3 220 490
def AG:=fP "lowest" 42 mU 225
def MM:=fY "starts_of" 43
def Hq:=co [(.str "starts_of" 493),(.str "starts_of" 494),(sf 495),(i 104),(i 1),(i 0),(i 0),(i 3),(r 227),(.bool true),(i 181),(r 228),.none,.none,.none,(r 229),(i 496),(i 104),(sf 497)]
def IL:=fP "starts_of" 43 mU 230
def D4:=tS 502 ["mask","start","end"]
def Jz:=fY "end_from" 44
def Hu:=cP "end_from" 499 107 2 3 232 505
def xj:=fP "end_from" 44 mU 237
def EK:=fY "ranges_of" 45
def J0:=co [(.str "ranges_of" 508),(.str "ranges_of" 509),(sf 510),(i 112),(i 1),(i 0),(i 0),(i 3),(r 239),(.bool true),(i 181),(r 240),.none,.none,.none,(r 241),(i 511),(i 112),(sf 512)]
def xK:=fP "ranges_of" 45 mU 242
def yh:=tS 517 ["first","last"]
def Mh:=fY "shown_range" 46
def Em:=cP "shown_range" 514 114 2 3 244 519
def Hr:=fP "shown_range" 46 mU 249
def IS:=fY "shown_ranges" 47
def ym:=co [(.str "shown_ranges" 522),(.str "shown_ranges" 523),(sf 524),(i 118),(i 1),(i 0),(i 0),(i 3),(r 251),(.bool true),(i 181),(r 252),.none,.none,.none,(r 253),(i 525),(i 118),(sf 526)]
def LB:=fP "shown_ranges" 47 mU 254
def B4:=tS 539 ["numbers","mask","number"]
def zq:=fY "mask_of" 52
def B6:=cP "mask_of" 536 124 1 3 256 542
def yz:=fP "mask_of" 52 lU 261
def Gh:=fY "numbers_in" 53
def Fj:=co [(.str "numbers_in" 545),(.str "numbers_in" 546),(sf 547),(i 129),(i 1),(i 0),(i 0),(i 3),(r 263),(.bool true),(i 181),(r 264),.none,.none,.none,(r 265),(i 548),(i 129),(sf 549)]
def LP:=fP "numbers_in" 53 lU 266
def Bv:=tS 554 ["first","last","stride"]
def Mn:=fY "run_mask" 54
def EL:=cP "run_mask" 551 131 3 3 268 557
def HQ:=fP "run_mask" 54 lU 273
def zJ:=tS 563 ["text","low","high","number"]
def MN:=fY "read_number" 55
def AO:=cP "read_number" 560 133 3 3 275 567
def E6:=fP "read_number" 55 lU 280
def yC:=fY "read_run" 56
def FH:=co [(.str "read_run" 570),(.str "read_run" 571),(sf 572),(i 140),(i 3),(i 0),(i 0),(i 3),(r 282),(.bool true),(i 181),(r 283),.none,.none,.none,(r 284),(i 573),(i 140),(sf 574)]
def Hv:=fP "read_run" 56 lU 285
def AR:=tS 579 ["run_text","stride_text","low","high","run","stride","last"]
def HC:=fY "read_strided" 57
def Kn:=cP "read_strided" 576 147 4 3 287 586
def Fk:=fP "read_strided" 57 lU 292
def JB:=tS 592 ["item","low","high","parts","run"]
def G7:=fY "read_item" 58
def Av:=cP "read_item" 589 154 3 3 294 597
def Fw:=fP "read_item" 58 lU 299
def Gy:=tS 603 ["text","low","high","items","mask","place","item","told"]
def F9:=fY "read_field" 59
def De:=cP "read_field" 600 162 3 3 301 611
def Fc:=fP "read_field" 59 lU 306
def Ll:=fY "never" 61
def Bx:=co [(.str "never" 616),(.str "never" 617),(sf 618),(i 176),(i 1),(i 0),(i 0),(i 3),(r 308),(.bool true),(i 181),(r 309),.none,.none,.none,(r 310),(i 619),(i 176),(sf 620)]
def Bt:=fn "never" "never" (tp 61) 3 [] .none .none .none (.str "fivefields.leaps" 614) none (r 311) .none 0
def Kl:=tS 643 ["day","first"]
def F7:=fY "weekday_at" 71
def Mo:=cP "weekday_at" 640 187 2 3 313 645
def xP:=fP "weekday_at" 71 fv 318
def MD:=tS 651 ["last"]
def BQ:=fY "all_days" 72
def IM:=cP "all_days" 648 189 1 3 320 652
def xW:=fP "all_days" 72 fv 325
def KY:=tS 658 ["day","last","first","of_week"]
def Ds:=fY "nearest_work" 73
def FP:=cP "nearest_work" 655 191 3 3 327 662
def Bi:=fP "nearest_work" 73 fv 332
def yD:=tS 668 ["weekday","first"]
def x6:=fY "first_one" 74
def FX:=cP "first_one" 665 198 2 3 334 670
def xx:=fP "first_one" 74 fv 339
def My(P:Params):=di [de P "__module__" 680 fv,de P "__qualname__" 682 (.str "Mark" 681),de P "__firstlineno__" 684 (.int 200 683),dr P "days" 693 354,dr P "told" 700 361,dr P "__static_attributes__" 701 362] 6
def Ln:=fD 4 [(202,353),(205,360)]
def Cr:=cK "Mark" "Mark" 675 200 344 678
def Ly:=fr 346 343 fv
def yQ:=tS 688 ["self","last","first"]
def GN:=fz "days" "Mark.days" (ib (tp 75) 0)
def yN:=cO "days" "Mark.days" 685 202 3 3 348 691
def JW:=fQ "days" "Mark.days" (ib (tp 75) 0) fv 353
def zv:=tS 697 ["self"]
def Hm:=fz "told" "Mark.told" (ib (tp 75) 1)
def KL:=cO "told" "Mark.told" 694 205 1 3 355 698
def Bf:=fQ "told" "Mark.told" (ib (tp 75) 1) fv 360
def AW(P:Params):=di [de P "__module__" 680 fv,de P "__firstlineno__" 684 (.int 200 683),dr P "days" 693 354,dr P "told" 700 361,dr P "__static_attributes__" 701 362,dr P "__dict__" 703 365,dr P "__weakref__" 705 366,de P "__doc__" 706 .none] 4
def tM:Obj:=⟨(.type "type"),none,(.cls ⟨"Mark",[(.type "object")],[(r 364),(.type "object")],363,"Mark",true,[],[(r 399),(r 433)],false,none,false⟩),#[none,none,(some (.str "Mark" 673)),(some (.str "Mark" 681)),(some (.builtin "object.__new__")),(some (.bool true))]⟩
def yL:Obj:=⟨(.type "getset_descriptor"),none,(.fields #[(.str "__dict__" 702),(r 364),(.builtin "function.__dict__"),(.builtin "function.__dict__#set")]),#[]⟩
def Hc:Obj:=⟨(.type "getset_descriptor"),none,(.fields #[(.str "__weakref__" 704),(r 364),(.builtin "ExceptionGroup.__weakref__"),.none]),#[]⟩
def Gj:=su 364 364 364
def Ms:=bm "object.__init_subclass__" (r 364)
def jk:=tu [(r 364)]
def yY(P:Params):=di [de P "__module__" 716 fv,de P "__qualname__" 718 (.str "Numbers" 717),de P "__firstlineno__" 720 (.int 207 719),dr P "__init__" 728 382,dr P "days" 737 389,dr P "told" 744 396,dr P "__static_attributes__" 746 397] 7
def Mm:=fD 4 [(209,381),(212,388),(215,395)]
def GI:=cK "Numbers" "Numbers" 711 207 372 714
def yP:=fr 374 371 fv
def Hw:=tS 724 ["self","mask"]
def EX:=fz "__init__" "Numbers.__init__" (ib (tp 76) 0)
def xf:=cO "__init__" "Numbers.__init__" 721 209 2 3 376 726
def Kp:=fQ "__init__" "Numbers.__init__" (ib (tp 76) 0) fv 381
def Eg:=tS 732 ["self","last","first"]
def ED:=fz "days" "Numbers.days" (ib (tp 76) 1)
def CZ:=cO "days" "Numbers.days" 729 212 3 3 383 735
def Da:=fQ "days" "Numbers.days" (ib (tp 76) 1) fv 388
def Iv:=tS 741 ["self"]
def Es:=fz "told" "Numbers.told" (ib (tp 76) 2)
def CW:=cO "told" "Numbers.told" 738 215 1 3 390 742
def Jq:=fQ "told" "Numbers.told" (ib (tp 76) 2) fv 395
def G0:=tS 745 ["mask"]
def G3(P:Params):=di [de P "__module__" 716 fv,de P "__firstlineno__" 720 (.int 207 719),dr P "__init__" 728 382,dr P "days" 737 389,dr P "told" 744 396,dr P "__static_attributes__" 746 397,de P "__doc__" 747 .none] 2
def yw:Obj:=⟨(.type "type"),none,(.cls ⟨"Numbers",[(r 364)],[(r 399),(r 364),(.type "object")],398,"Numbers",true,[],[],false,none,false⟩),#[(some (r 369)),none,(some (.str "Numbers" 709)),(some (.str "Numbers" 717)),(some (.builtin "object.__new__")),(some (.bool true))]⟩
def E4:=su 399 399 399
def HL:=bm "object.__init_subclass__" (r 399)
def xS(P:Params):=di [de P "__module__" 757 fv,de P "__qualname__" 759 (.str "Last" 758),de P "__firstlineno__" 761 (.int 217 760),dr P "__init__" 770 416,dr P "days" 779 423,dr P "told" 786 430,dr P "__static_attributes__" 788 431] 7
def E2:=fD 4 [(219,415),(222,422),(227,429)]
def Fx:=cK "Last" "Last" 752 217 405 755
def CV:=fr 407 404 fv
def IT:=tu [(.int 0 762)]
def xC:=tS 766 ["self","back"]
def A4:=fz "__init__" "Last.__init__" (ib (tp 77) 0)
def J1:=cO "__init__" "Last.__init__" 763 219 2 3 410 768
def CH:=fn "__init__" "Last.__init__" (ib (tp 77) 0) 3 [] (r 409) .none .none fv none (r 415) .none 0
def yi:=tS 774 ["self","last","first"]
def EI:=fT "days" "Last.days" (ib (tp 77) 1) (ib (tp 75) 0)
def zg:=cO "days" "Last.days" 771 222 3 3 417 777
def CQ:=fS "days" "Last.days" (ib (tp 77) 1) (ib (tp 75) 0) fv 422
def Ls:=tS 783 ["self"]
def BB:=fz "told" "Last.told" (ib (tp 77) 2)
def Dc:=cO "told" "Last.told" 780 227 1 3 424 784
def BM:=fQ "told" "Last.told" (ib (tp 77) 2) fv 429
def LC:=tS 787 ["back"]
def yJ(P:Params):=di [de P "__module__" 757 fv,de P "__firstlineno__" 761 (.int 217 760),dr P "__init__" 770 416,dr P "days" 779 423,dr P "told" 786 430,dr P "__static_attributes__" 788 431,de P "__doc__" 789 .none] 2
def HB:Obj:=⟨(.type "type"),none,(.cls ⟨"Last",[(r 364)],[(r 433),(r 364),(.type "object")],432,"Last",true,[],[],false,none,false⟩),#[(some (r 402)),none,(some (.str "Last" 750)),(some (.str "Last" 758)),(some (.builtin "object.__new__")),(some (.bool true))]⟩
def Le:=su 433 433 433
def LK:=bm "object.__init_subclass__" (r 433)
def lM(P:Params)(x0 x1 x2:Obj):List Obj:=[(boot_o_0 P),(boot_o_1 P),(boot_o_2 P),x0,(boot_o_4 P),(boot_o_5 P),(boot_o_6 P),(boot_o_7 P),(boot_o_8 P),(boot_o_9 P),(boot_o_10 P),o0,x1,o2,o3,o0,o1,o6,o0,o7,o8,o9,KF,gk,(DS P),o0,o1,Iu,HP,o0,(xR P),LJ,Kk,MI,BC,lT,gk,(FU P),o0,o1,KO,DJ,o0,(xi P),AF,JH,F6,lT,gk,(LO P),o0,C4,IJ,yc,o0,o1,FC,o0,DK,Fv,Li,Kv,(Bd P),Fm,E3,Mc,lT,gk,(Ar P),o0,Cm,D9,D8,o0,o1,zG,o0,Mi,Hz,G8,HI,(LI P),DO,LA,GH,lT,gk,(Gq P),o0,o1,AV,BL,o0,(LX P),zh,GT,IU,o0,o1,xr,o0,FJ,GS,GA,Lb,o0,o1,Jv,o0,JX,Kb,Ak,o0,o1,EH,o0,yg,Dh,L7,o0,o1,Lo,o0,IP,Fb,Ci,o0,o1,G1,o0,A5,Fi,yk,o0,o1,zM,o0,Hk,zy,Bl,o0,o1,xa,xH,Am,o0,o1,Aj,o0,HR,z3,AI,o0,o1,DU,o0,zY,CI,xm,o0,o1,Jn,o0,xy,HD,DN,o0,o1,Jr,GG,Lk,o0,o1,Ca,o0,zT,FY,K9,o0,o1,GR,o0,He,DG,Ap,o0,o1,LV,o0,AA,Di,Ih,o0,o1,Al,o0,HK,ye,HE,o0,o1,Ip,o0,zu,Be,En,o0,o1,IE,o0,GD,A9,F5,o0,o1,IV,o0,xF,Ea,EZ,o0,o1,IR,o0,Fg,Ia,AG,o0,o1,MM,Hq,IL,o0,o1,D4,o0,Jz,Hu,xj,o0,o1,EK,J0,xK,o0,o1,yh,o0,Mh,Em,Hr,o0,o1,IS,ym,LB,o0,o1,B4,o0,zq,B6,yz,o0,o1,Gh,Fj,LP,o0,o1,Bv,o0,Mn,EL,HQ,o0,o1,zJ,o0,MN,AO,E6,o0,o1,yC,FH,Hv,o0,o1,AR,o0,HC,Kn,Fk,o0,o1,JB,o0,G7,Av,Fw,o0,o1,Gy,o0,F9,De,Fc,o0,o1,Ll,Bx,Bt,o0,o1,Kl,o0,F7,Mo,xP,o0,o1,MD,o0,BQ,IM,xW,o0,o1,KY,o0,Ds,FP,Bi,o0,o1,yD,o0,x6,FX,xx,o0,gk,(My P),o0,Ln,Cr,Ly,o0,o1,yQ,o0,GN,yN,JW,o0,o1,zv,o0,Hm,KL,Bf,o0,(AW P),x2,yL,Hc,Gj,Ms,jk,gk,(yY P),o0,Mm,GI,yP,o0,o1,Hw,o0,EX,xf,Kp,o0,o1,Eg,o0,ED,CZ,Da,o0,o1,Iv,o0,Es,CW,Jq,G0,(G3 P),yw,E4,HL,jk,gk,(xS P),o0,E2,Fx,CV,IT,o0,o1,xC,o0,A4,J1,CH,o0,o1,yi,o0,EI,zg,CQ,o0,o1,Ls,o0,BB,Dc,BM,LC,(yJ P),HB,Le,LK]
def t1(P:Params):BT:=nz 10 (lM P (o4 P) o5 tM)
def s1(w:World)(os:OsState):SharedT:=⟨t1 w.params,436,⟨[],[],[],0,[],[],false,#[],[],0,false,false,false,0,[2000,10,10],false,0,true,[],[],0,false⟩,#[],⟨0,0,0,0⟩,792,os⟩
def l0:List Stmt:=(bi.drop 0).take 78
theorem r0(w:World)(os:OsState):
  segRunT treeTable pw w 11 an 1 3408 (s0 w os) (piecesOf l0 ev cd ⟨0,0,0,0⟩ bk) =
  some (.next,s1 w os,cd,⟨217,0,230,36⟩):=by kernel_rfl
def lY(P:Params):List DictEntry:=[de P "__doc__" 166 .none,de P "__package__" 167 .none,de P "__loader__" 168 (.builtin "__main__.__loader__#opaque"),de P "__spec__" 169 .none,dr P "__annotations__" 170 6,dr P "__builtins__" 171 4,de P "__file__" 173 (sf 172),de P "__cached__" 174 .none,dr P "_wall" 193 21,dr P "FieldError" 213 31,dr P "NoDay" 229 44,dr P "NoField" 254 63,dr P "NoRow" 279 82,dr P "NoClock" 295 94,dr P "is_whole" 304 103,dr P "MONTH_LASTS" 319 104,de P "ROUND_YEARS" 321 (.int 400 320),de P "ROUND_DAYS" 323 (.int 146097 322),dr P "is_long" 330 111,dr P "multiples_before" 338 118,dr P "days_before" 346 125,dr P "last_of" 354 132,dr P "is_date" 363 139,dr P "day_of" 369 144,dr P "year_of" 377 151,dr P "date_of" 387 158,dr P "weekday" 394 165,de P "FIGURES" 398 (.str "0123456789" 397),dr P "all_figures" 404 170,dr P "is_written" 411 177,de P "DAY_MINUTES" 415 (.int 1440 414),de P "HOUR_MINUTES" 417 (.int 60 416),dr P "parted" 425 184,de P "KINDS" 429 (.int 91 428),de P "LONG_PLACE" 431 (.int 12 430),de P "LONG_LAST" 433 (.int 29 432),de P "SHORT_YEAR" 435 (.int 1 434),dr P "kind_from" 445 191,dr P "kind_of" 453 198,dr P "month_at" 462 205,dr P "months_of_round" 473 212,de P "ROUND" 475 (.int 210379680 474),dr P "has" 485 219,dr P "lowest" 492 226,dr P "starts_of" 498 231,dr P "end_from" 507 238,dr P "ranges_of" 513 243,dr P "shown_range" 521 250,dr P "shown_ranges" 527 255,de P "MOST_SIGNS" 531 (.int 300 530),de P "MOST_ITEMS" 533 (.int 40 532),de P "MOST_STRIDE" 535 (.int 99 534),dr P "mask_of" 544 262,dr P "numbers_in" 550 267,dr P "run_mask" 559 274,dr P "read_number" 569 281,dr P "read_run" 575 286,dr P "read_strided" 588 293,dr P "read_item" 599 300,dr P "read_field" 613 307,dr P "never" 621 312,de P "MOST_MARKS" 625 (.int 20 624),de P "MOST_DAY" 627 (.int 31 626),de P "MOST_BACK" 629 (.int 30 628),de P "MOST_NTH" 631 (.int 5 630),de P "SUNDAY" 633 (.int 0 632),de P "SATURDAY" 635 (.int 6 634),de P "SUNDAY_TOO" 637 (.int 7 636),de P "ALL_WEEKDAYS" 639 (.int 127 638),dr P "weekday_at" 647 319,dr P "all_days" 654 326,dr P "nearest_work" 664 333,dr P "first_one" 672 340,dr P "Mark" 708 364,dr P "Numbers" 749 399,dr P "Last" 791 433,dr P "Near" 832 466,dr P "LastWork" 864 492,dr P "Weekdays" 907 525,dr P "Nth" 951 558,dr P "LastOne" 992 591,dr P "any_days" 1003 600,dr P "read_day_mark" 1012 607,dr P "read_weekday" 1020 614,dr P "read_weekday_mark" 1030 621,dr P "read_items" 1047 628,dr P "read_days" 1055 635,dr P "read_weekdays" 1064 642,de P "MOST_ROW_SIGNS" 1068 (.int 1600 1067),de P "MINUTE" 1070 (.int 0 1069),de P "HOUR" 1072 (.int 1 1071),de P "DAY" 1074 (.int 2 1073),de P "MONTH" 1076 (.int 3 1075),de P "WEEKDAY" 1078 (.int 4 1077),de P "NO_PLACE" 1080 (.int 5 1079),dr P "BOUNDS" 1093 643,dr P "times_of" 1103 653,dr P "days_by" 1115 660,dr P "Row" 1219 740,dr P "read_word" 1228 751,dr P "read_at" 1236 758,dr P "read_row" 1242 763,de P "MOST_OFFSET" 1246 (.int 720 1245),de P "MOST_PUTS" 1248 (.int 4 1247),de P "LEAST_BETWEEN" 1250 (.int 4320 1249),dr P "checked_offset" 1257 770,dr P "checked_put" 1265 777,dr P "checked_puts" 1271 782,dr P "check_between" 1280 789,dr P "puts_in" 1293 796,dr P "puts_of_round" 1299 801,dr P "place_up_to" 1310 808,dr P "Clock" 1364 847,dr P "Shifted" 1418 889,dr P "ring_of" 1430 898,dr P "_law_cell_at" 1440 905,dr P "_law_stir" 1449 912,dr P "_law_digits" 1460 919]
def uQ(P:Params):=di (de P "__name__" 165 gL::lY P) 119
def uI:=fD 0 [(1,20),(5,27),(7,40),(9,52),(13,71),(17,90),(20,102),(26,110),(28,117),(30,124),(33,131),(37,138),(41,143),(46,150),(51,157),(59,164),(63,169),(65,176),(70,183),(78,190),(81,197),(83,204),(89,211),(100,218),(102,225),(104,230),(107,237),(112,242),(114,249),(118,254),(124,261),(129,266),(131,273),(133,280),(140,285),(147,292),(154,299),(162,306),(176,311),(187,318),(189,325),(191,332),(198,339),(200,346),(207,374),(217,407),(231,441),(243,474),(250,500),(263,533),(277,566),(287,599),(292,606),(304,613),(307,620),(319,627),(337,634),(344,641),(361,652),(366,659),(374,666),(423,750),(430,757),(435,762),(446,769),(450,776),(461,781),(465,788),(469,795),(476,800),(486,807),(496,814),(509,857),(528,897),(537,904),(541,911),(545,918)]
def AB:Obj:=⟨(.type "type"),none,(.cls ⟨"Mark",[(.type "object")],[(r 364),(.type "object")],363,"Mark",true,[],[(r 399),(r 433),(r 466),(r 492),(r 525),(r 558),(r 591)],false,none,false⟩),#[none,none,(some (.str "Mark" 673)),(some (.str "Mark" 681)),(some (.builtin "object.__new__")),(some (.bool true))]⟩
def FL(P:Params):=di [de P "__module__" 799 fv,de P "__qualname__" 801 (.str "Near" 800),de P "__firstlineno__" 803 (.int 231 802),dr P "__init__" 811 449,dr P "days" 820 456,dr P "told" 827 463,dr P "__static_attributes__" 829 464] 7
def CM:=fD 4 [(233,448),(236,455),(241,462)]
def Fl:=cK "Near" "Near" 794 231 439 797
def zR:=fr 441 438 fv
def xu:=tS 807 ["self","day"]
def Kw:=fz "__init__" "Near.__init__" (ib (tp 78) 0)
def J2:=cO "__init__" "Near.__init__" 804 233 2 3 443 809
def Gx:=fQ "__init__" "Near.__init__" (ib (tp 78) 0) fv 448
def HV:=tS 815 ["self","last","first"]
def GC:=fz "days" "Near.days" (ib (tp 78) 1)
def AH:=cO "days" "Near.days" 812 236 3 3 450 818
def CJ:=fQ "days" "Near.days" (ib (tp 78) 1) fv 455
def Gn:=tS 824 ["self"]
def yy:=fT "told" "Near.told" (ib (tp 78) 2) (ib (tp 77) 2)
def zV:=cO "told" "Near.told" 821 241 1 3 457 825
def xY:=fS "told" "Near.told" (ib (tp 78) 2) (ib (tp 77) 2) fv 462
def JZ:=tS 828 ["day"]
def GO(P:Params):=di [de P "__module__" 799 fv,de P "__firstlineno__" 803 (.int 231 802),dr P "__init__" 811 449,dr P "days" 820 456,dr P "told" 827 463,dr P "__static_attributes__" 829 464,de P "__doc__" 830 .none] 2
def B7:Obj:=⟨(.type "type"),none,(.cls ⟨"Near",[(r 364)],[(r 466),(r 364),(.type "object")],465,"Near",true,[],[],false,none,false⟩),#[(some (r 436)),none,(some (.str "Near" 792)),(some (.str "Near" 800)),(some (.builtin "object.__new__")),(some (.bool true))]⟩
def Lh:=su 466 466 466
def Hf:=bm "object.__init_subclass__" (r 466)
def Lu(P:Params):=di [de P "__module__" 840 fv,de P "__qualname__" 842 (.str "LastWork" 841),de P "__firstlineno__" 844 (.int 243 843),dr P "days" 853 482,dr P "told" 860 489,dr P "__static_attributes__" 861 490] 6
def Fu:=fD 4 [(245,481),(248,488)]
def Ma:=cK "LastWork" "LastWork" 835 243 472 838
def xw:=fr 474 471 fv
def D7:=tS 848 ["self","last","first"]
def y9:=fT "days" "LastWork.days" (ib (tp 79) 0) (ib (tp 78) 1)
def Fd:=cO "days" "LastWork.days" 845 245 3 3 476 851
def IC:=fS "days" "LastWork.days" (ib (tp 79) 0) (ib (tp 78) 1) fv 481
def Lm:=tS 857 ["self"]
def Gs:=fT "told" "LastWork.told" (ib (tp 79) 1) (ib (tp 75) 1)
def BE:=cO "told" "LastWork.told" 854 248 1 3 483 858
def DB:=fS "told" "LastWork.told" (ib (tp 79) 1) (ib (tp 75) 1) fv 488
def AU(P:Params):=di [de P "__module__" 840 fv,de P "__firstlineno__" 844 (.int 243 843),dr P "days" 853 482,dr P "told" 860 489,dr P "__static_attributes__" 861 490,de P "__doc__" 862 .none] 2
def Jo:Obj:=⟨(.type "type"),none,(.cls ⟨"LastWork",[(r 364)],[(r 492),(r 364),(.type "object")],491,"LastWork",true,[],[],false,none,false⟩),#[(some (r 469)),none,(some (.str "LastWork" 833)),(some (.str "LastWork" 841)),(some (.builtin "object.__new__")),(some (.bool true))]⟩
def LY:=su 492 492 492
def x5:=bm "object.__init_subclass__" (r 492)
def C7(P:Params):=di [de P "__module__" 872 fv,de P "__qualname__" 874 (.str "Weekdays" 873),de P "__firstlineno__" 876 (.int 250 875),dr P "__init__" 884 508,dr P "days" 895 515,dr P "told" 902 522,dr P "__static_attributes__" 904 523] 7
def ML:=fD 4 [(252,507),(255,514),(261,521)]
def F8:=cK "Weekdays" "Weekdays" 867 250 498 870
def KZ:=fr 500 497 fv
def KR:=tS 880 ["self","mask"]
def zr:=fT "__init__" "Weekdays.__init__" (ib (tp 80) 0) (ib (tp 76) 0)
def MP:=cO "__init__" "Weekdays.__init__" 877 252 2 3 502 882
def EV:=fS "__init__" "Weekdays.__init__" (ib (tp 80) 0) (ib (tp 76) 0) fv 507
def xG:=tS 888 ["self","last","first","weeks","week"]
def A8:=fz "days" "Weekdays.days" (ib (tp 80) 1)
def Fp:=cO "days" "Weekdays.days" 885 255 3 3 509 893
def Iz:=fQ "days" "Weekdays.days" (ib (tp 80) 1) fv 514
def B2:=tS 899 ["self"]
def F4:=fT "told" "Weekdays.told" (ib (tp 80) 2) (ib (tp 76) 2)
def zK:=cO "told" "Weekdays.told" 896 261 1 3 516 900
def Ej:=fS "told" "Weekdays.told" (ib (tp 80) 2) (ib (tp 76) 2) fv 521
def Iq:=tS 903 ["mask"]
def HM(P:Params):=di [de P "__module__" 872 fv,de P "__firstlineno__" 876 (.int 250 875),dr P "__init__" 884 508,dr P "days" 895 515,dr P "told" 902 522,dr P "__static_attributes__" 904 523,de P "__doc__" 905 .none] 2
def CS:Obj:=⟨(.type "type"),none,(.cls ⟨"Weekdays",[(r 364)],[(r 525),(r 364),(.type "object")],524,"Weekdays",true,[],[],false,none,false⟩),#[(some (r 495)),none,(some (.str "Weekdays" 865)),(some (.str "Weekdays" 873)),(some (.builtin "object.__new__")),(some (.bool true))]⟩
def Gr:=su 525 525 525
def CP:=bm "object.__init_subclass__" (r 525)
def JM(P:Params):=di [de P "__module__" 915 fv,de P "__qualname__" 917 (.str "Nth" 916),de P "__firstlineno__" 919 (.int 263 918),dr P "__init__" 928 541,dr P "days" 938 548,dr P "told" 945 555,dr P "__static_attributes__" 948 556] 7
def MO:=fD 4 [(265,540),(269,547),(275,554)]
def Gb:=cK "Nth" "Nth" 910 263 531 913
def yn:=fr 533 530 fv
def Kt:=tS 923 ["self","weekday","many"]
def yq:=fz "__init__" "Nth.__init__" (ib (tp 81) 0)
def zU:=cO "__init__" "Nth.__init__" 920 265 3 3 535 926
def FI:=fQ "__init__" "Nth.__init__" (ib (tp 81) 0) fv 540
def Fy:=tS 932 ["self","last","first","day"]
def Gw:=fz "days" "Nth.days" (ib (tp 81) 1)
def Dr:=cO "days" "Nth.days" 929 269 3 3 542 936
def A7:=fQ "days" "Nth.days" (ib (tp 81) 1) fv 547
def Ct:=tS 942 ["self"]
def EE:=fT "told" "Nth.told" (ib (tp 81) 2) (ib (tp 77) 2)
def DL:=cO "told" "Nth.told" 939 275 1 3 549 943
def Mb:=fS "told" "Nth.told" (ib (tp 81) 2) (ib (tp 77) 2) fv 554
def MR:=tS 946 ["many","weekday"]
def Ib(P:Params):=di [de P "__module__" 915 fv,de P "__firstlineno__" 919 (.int 263 918),dr P "__init__" 928 541,dr P "days" 938 548,dr P "told" 945 555,dr P "__static_attributes__" 948 556,de P "__doc__" 949 .none] 2
def yK:Obj:=⟨(.type "type"),none,(.cls ⟨"Nth",[(r 364)],[(r 558),(r 364),(.type "object")],557,"Nth",true,[],[],false,none,false⟩),#[(some (r 528)),none,(some (.str "Nth" 908)),(some (.str "Nth" 916)),(some (.builtin "object.__new__")),(some (.bool true))]⟩
def B5:=su 558 558 558
def Ke:=bm "object.__init_subclass__" (r 558)
def IX(P:Params):=di [de P "__module__" 959 fv,de P "__qualname__" 961 (.str "LastOne" 960),de P "__firstlineno__" 963 (.int 277 962),dr P "__init__" 971 574,dr P "days" 980 581,dr P "told" 987 588,dr P "__static_attributes__" 989 589] 7
def yb:=fD 4 [(279,573),(282,580),(285,587)]
def Az:=cK "LastOne" "LastOne" 954 277 564 957
def D5:=fr 566 563 fv
def J3:=tS 967 ["self","weekday"]
def BS:=fz "__init__" "LastOne.__init__" (ib (tp 82) 0)
def EA:=cO "__init__" "LastOne.__init__" 964 279 2 3 568 969
def Aa:=fQ "__init__" "LastOne.__init__" (ib (tp 82) 0) fv 573
def xI:=tS 975 ["self","last","first"]
def Fe:=fz "days" "LastOne.days" (ib (tp 82) 1)
def yo:=cO "days" "LastOne.days" 972 282 3 3 575 978
def Lp:=fQ "days" "LastOne.days" (ib (tp 82) 1) fv 580
def yt:=tS 984 ["self"]
def KB:=fT "told" "LastOne.told" (ib (tp 82) 2) (ib (tp 77) 2)
def BK:=cO "told" "LastOne.told" 981 285 1 3 582 985
def DM:=fS "told" "LastOne.told" (ib (tp 82) 2) (ib (tp 77) 2) fv 587
def JO:=tS 988 ["weekday"]
def Er(P:Params):=di [de P "__module__" 959 fv,de P "__firstlineno__" 963 (.int 277 962),dr P "__init__" 971 574,dr P "days" 980 581,dr P "told" 987 588,dr P "__static_attributes__" 989 589,de P "__doc__" 990 .none] 2
def ID:Obj:=⟨(.type "type"),none,(.cls ⟨"LastOne",[(r 364)],[(r 591),(r 364),(.type "object")],590,"LastOne",true,[],[],false,none,false⟩),#[(some (r 561)),none,(some (.str "LastOne" 952)),(some (.str "LastOne" 960)),(some (.builtin "object.__new__")),(some (.bool true))]⟩
def KI:=su 591 591 591
def MG:=bm "object.__init_subclass__" (r 591)
def Ky:=tS 996 ["marks","last","first","mask","mark"]
def Hi:=fY "any_days" 83
def GU:=cP "any_days" 993 287 3 3 594 1001
def KH:=fP "any_days" 83 fv 599
def EC:=tS 1007 ["item","back","day"]
def JF:=fY "read_day_mark" 84
def FV:=cP "read_day_mark" 1004 292 1 3 601 1010
def LH:=fP "read_day_mark" 84 fv 606
def EY:=tS 1016 ["text","number"]
def Ah:=fY "read_weekday" 85
def BN:=cP "read_weekday" 1013 304 1 3 608 1018
def K4:=fP "read_weekday" 85 fv 613
def DX:=tS 1024 ["item","weekday","parts","many"]
def Cg:=fY "read_weekday_mark" 86
def FD:=cP "read_weekday_mark" 1021 307 1 3 615 1028
def yB:=fP "read_weekday_mark" 86 fv 620
def x9:=tS 1034 ["text","low","high","read_mark","items","mask","marks","place","item","plain","mark"]
def AZ:=fY "read_items" 87
def LL:=cP "read_items" 1031 319 4 3 622 1045
def yF:=fP "read_items" 87 fv 627
def Bs:=tS 1051 ["text","read"]
def xZ:=fY "read_days" 88
def F0:=cP "read_days" 1048 337 1 3 629 1053
def HH:=fP "read_days" 88 fv 634
def I0:=tS 1059 ["text","read","mask"]
def Mt:=fY "read_weekdays" 89
def HN:=cP "read_weekdays" 1056 344 1 3 636 1062
def BY:=fP "read_weekdays" 89 fv 641
def Jb:=di [⟨0,(.int 0 1081),(r 644)⟩,⟨1,(.int 1 1084),(r 645)⟩,⟨3,(.int 3 1087),(r 646)⟩] 3
def Dy:=tu [(.int 0 1082),(.int 59 1083)]
def BJ:=tu [(.int 0 1085),(.int 23 1086)]
def zN:=tu [(.int 1 1088),(.int 12 1089)]
def IB:=tS 1097 ["hours","minutes","times","hour"]
def Kq:=fY "times_of" 99
def FF:=cP "times_of" 1094 361 2 3 647 1101
def zx:=fP "times_of" 99 iq 652
def Ga:=tS 1107 ["days","weekdays","last","first","mask","marks"]
def Ha:=fY "days_by" 100
def EO:=cP "days_by" 1104 366 4 3 654 1113
def Dq:=fP "days_by" 100 iq 659
def KS(P:Params):=di [de P "__module__" 1123 iq,de P "__qualname__" 1125 (.str "Row" 1124),de P "__firstlineno__" 1127 (.int 374 1126),dr P "__init__" 1135 674,dr P "minutes" 1142 681,dr P "hours" 1149 688,dr P "months" 1156 695,dr P "times" 1163 702,dr P "days_in" 1172 709,dr P "on_days" 1180 716,dr P "holds" 1188 723,dr P "shut_by" 1198 730,dr P "shown" 1205 737,dr P "__static_attributes__" 1212 738] 14
def yT:=fD 4 [(376,673),(384,680),(387,687),(390,694),(393,701),(396,708),(402,715),(405,722),(408,729),(421,736)]
def MJ:=cK "Row" "Row" 1118 374 664 1121
def HZ:=fr 666 663 iq
def C6:=tS 1131 ["self","fields"]
def Ax:=fz "__init__" "Row.__init__" (ib (tp 101) 0)
def JC:=cO "__init__" "Row.__init__" 1128 376 2 3 668 1133
def GV:=fQ "__init__" "Row.__init__" (ib (tp 101) 0) iq 673
def Ae:=tS 1139 ["self"]
def KN:=fT "minutes" "Row.minutes" (ib (tp 101) 1) (ib (tp 75) 1)
def Af:=cO "minutes" "Row.minutes" 1136 384 1 3 675 1140
def KW:=fS "minutes" "Row.minutes" (ib (tp 101) 1) (ib (tp 75) 1) iq 680
def Ac:=tS 1146 ["self"]
def Br:=fT "hours" "Row.hours" (ib (tp 101) 2) (ib (tp 75) 1)
def Jm:=cO "hours" "Row.hours" 1143 387 1 3 682 1147
def Mp:=fS "hours" "Row.hours" (ib (tp 101) 2) (ib (tp 75) 1) iq 687
def w6:=tS 1153 ["self"]
def JG:=fT "months" "Row.months" (ib (tp 101) 3) (ib (tp 75) 1)
def zI:=cO "months" "Row.months" 1150 390 1 3 689 1154
def Lj:=fS "months" "Row.months" (ib (tp 101) 3) (ib (tp 75) 1) iq 694
def EF:=tS 1160 ["self"]
def EG:=fT "times" "Row.times" (ib (tp 101) 4) (ib (tp 75) 1)
def Ie:=cO "times" "Row.times" 1157 393 1 3 696 1161
def AK:=fS "times" "Row.times" (ib (tp 101) 4) (ib (tp 75) 1) iq 701
def Ck:=tS 1167 ["self","kind","month"]
def yU:=fz "days_in" "Row.days_in" (ib (tp 101) 5)
def Ij:=cO "days_in" "Row.days_in" 1164 396 2 3 703 1170
def MB:=fQ "days_in" "Row.days_in" (ib (tp 101) 5) iq 708
def Ge:=tS 1176 ["self","kind"]
def xl:=fz "on_days" "Row.on_days" (ib (tp 101) 6)
def LR:=cO "on_days" "Row.on_days" 1173 402 2 3 710 1178
def Ju:=fQ "on_days" "Row.on_days" (ib (tp 101) 6) iq 715
def BI:=tS 1184 ["self","moment"]
def Jc:=fz "holds" "Row.holds" (ib (tp 101) 7)
def FK:=cO "holds" "Row.holds" 1181 405 2 3 717 1186
def Cn:=fQ "holds" "Row.holds" (ib (tp 101) 7) iq 722
def DD:=tS 1192 ["self","moment","parts","date"]
def DH:=fz "shut_by" "Row.shut_by" (ib (tp 101) 8)
def LZ:=cO "shut_by" "Row.shut_by" 1189 408 2 3 724 1196
def C8:=fQ "shut_by" "Row.shut_by" (ib (tp 101) 8) iq 729
def Au:=tS 1202 ["self"]
def D6:=fz "shown" "Row.shown" (ib (tp 101) 9)
def Ir:=cO "shown" "Row.shown" 1199 421 1 3 731 1203
def zW:=fQ "shown" "Row.shown" (ib (tp 101) 9) iq 736
def wZ:=tS 1206 ["day_marks","hour_mask","minute_mask","month_mask","time_mask","weekday_marks"]
def Mj(P:Params):=di [de P "__module__" 1123 iq,de P "__firstlineno__" 1127 (.int 374 1126),dr P "__init__" 1135 674,dr P "minutes" 1142 681,dr P "hours" 1149 688,dr P "months" 1156 695,dr P "times" 1163 702,dr P "days_in" 1172 709,dr P "on_days" 1180 716,dr P "holds" 1188 723,dr P "shut_by" 1198 730,dr P "shown" 1205 737,dr P "__static_attributes__" 1212 738,dr P "__dict__" 1214 741,dr P "__weakref__" 1216 742,de P "__doc__" 1217 .none] 4
def Mr:Obj:=⟨(.type "type"),none,(.cls ⟨"Row",[(.type "object")],[(r 740),(.type "object")],739,"Row",true,[],[],false,none,false⟩),#[none,none,(some (.str "Row" 1116)),(some (.str "Row" 1124)),(some (.builtin "object.__new__")),(some (.bool true))]⟩
def GQ:Obj:=⟨(.type "getset_descriptor"),none,(.fields #[(.str "__dict__" 1213),(r 740),(.builtin "function.__dict__"),(.builtin "function.__dict__#set")]),#[]⟩
def L6:Obj:=⟨(.type "getset_descriptor"),none,(.fields #[(.str "__weakref__" 1215),(r 740),(.builtin "ExceptionGroup.__weakref__"),.none]),#[]⟩
def B0:=su 740 740 740
def E8:=bm "object.__init_subclass__" (r 740)
def Gd:=tS 1223 ["word","place","bounds"]
def yE:=fY "read_word" 102
def Jp:=cP "read_word" 1220 423 2 3 745 1226
def IQ:=fP "read_word" 102 iq 750
def Ce:=tS 1232 ["word","place"]
def CY:=fY "read_at" 103
def Ho:=cP "read_at" 1229 430 2 3 752 1234
def K3:=fP "read_at" 103 iq 757
def yI:=fY "read_row" 104
def AL:=co [(.str "read_row" 1237),(.str "read_row" 1238),(sf 1239),(i 435),(i 1),(i 0),(i 0),(i 3),(r 759),(.bool true),(i 181),(r 760),.none,.none,.none,(r 761),(i 1240),(i 435),(sf 1241)]
def MF:=fP "read_row" 104 iq 762
def Dv:=tS 1254 ["offset"]
def CB:=fY "checked_offset" 109
def BW:=cP "checked_offset" 1251 446 1 3 764 1255
def BX:=fP "checked_offset" 109 gX 769
def Hl:=tS 1261 ["put","times"]
def E7:=fY "checked_put" 110
def KQ:=cP "checked_put" 1258 450 1 3 771 1263
def AC:=fP "checked_put" 110 gX 776
def L5:=fY "checked_puts" 111
def Ji:=co [(.str "checked_puts" 1266),(.str "checked_puts" 1267),(sf 1268),(i 461),(i 1),(i 0),(i 0),(i 3),(r 778),(.bool true),(i 181),(r 779),.none,.none,.none,(r 780),(i 1269),(i 461),(sf 1270)]
def HJ:=fP "checked_puts" 111 gX 781
def xb:=tS 1275 ["table","earlier","later"]
def zZ:=fY "check_between" 112
def CL:=cP "check_between" 1272 465 1 3 783 1278
def zf:=fP "check_between" 112 gX 788
def Ab:=tS 1284 ["puts","kind","found","row","offset","time","day"]
def wY:=fY "puts_in" 113
def HW:=cP "puts_in" 1281 469 2 3 790 1291
def Lv:=fP "puts_in" 113 gX 795
def CD:=fY "puts_of_round" 114
def Lq:=co [(.str "puts_of_round" 1294),(.str "puts_of_round" 1295),(sf 1296),(i 476),(i 1),(i 0),(i 0),(i 3),(r 797),(.bool true),(i 181),(r 798),.none,.none,.none,(r 799),(i 1297),(i 476),(sf 1298)]
def Cz:=fP "puts_of_round" 114 gX 800
def LG:=tS 1303 ["table","moment","low","high","middle"]
def HA:=fY "place_up_to" 115
def yj:=cP "place_up_to" 1300 486 2 3 802 1308
def xV:=fP "place_up_to" 115 gX 807
def BD(P:Params):=di [de P "__module__" 1318 gX,de P "__qualname__" 1320 (.str "Clock" 1319),de P "__firstlineno__" 1322 (.int 496 1321),dr P "__init__" 1331 823,dr P "offset_at" 1339 830,dr P "local" 1347 837,dr P "put_at" 1355 844,dr P "__static_attributes__" 1357 845] 8
def DZ:=fD 4 [(498,822),(501,829),(504,836),(507,843)]
def Ii:=cK "Clock" "Clock" 1313 496 812 1316
def IW:=fr 814 811 gX
def xU:=tu [(.int 0 1323)]
def II:=tS 1327 ["self","base"]
def Lg:=fz "__init__" "Clock.__init__" (ib (tp 116) 0)
def ya:=cO "__init__" "Clock.__init__" 1324 498 2 3 817 1329
def Co:=fn "__init__" "Clock.__init__" (ib (tp 116) 0) 3 [] (r 816) .none .none gX none (r 822) .none 0
def C1:=tS 1335 ["self","true"]
def xO:=fz "offset_at" "Clock.offset_at" (ib (tp 116) 1)
def F3:=cO "offset_at" "Clock.offset_at" 1332 501 2 3 824 1337
def Jf:=fQ "offset_at" "Clock.offset_at" (ib (tp 116) 1) gX 829
def IK:=tS 1343 ["self","true"]
def Jx:=fT "local" "Clock.local" (ib (tp 116) 2) (ib (tp 116) 1)
def Bm:=cO "local" "Clock.local" 1340 504 2 3 831 1345
def Ml:=fS "local" "Clock.local" (ib (tp 116) 2) (ib (tp 116) 1) gX 836
def Mq:=tS 1351 ["self","true"]
def BU:=fT "put_at" "Clock.put_at" (ib (tp 116) 3) (ib (tp 116) 1)
def MA:=cO "put_at" "Clock.put_at" 1348 507 2 3 838 1353
def MC:=fS "put_at" "Clock.put_at" (ib (tp 116) 3) (ib (tp 116) 1) gX 843
def Je:=tS 1356 ["base"]
def Cw(P:Params):=di [de P "__module__" 1318 gX,de P "__firstlineno__" 1322 (.int 496 1321),dr P "__init__" 1331 823,dr P "offset_at" 1339 830,dr P "local" 1347 837,dr P "put_at" 1355 844,dr P "__static_attributes__" 1357 845,dr P "__dict__" 1359 848,dr P "__weakref__" 1361 849,de P "__doc__" 1362 .none] 4
def Ec:Obj:=⟨(.type "type"),none,(.cls ⟨"Clock",[(.type "object")],[(r 847),(.type "object")],846,"Clock",true,[],[(r 889)],false,none,false⟩),#[none,none,(some (.str "Clock" 1311)),(some (.str "Clock" 1319)),(some (.builtin "object.__new__")),(some (.bool true))]⟩
def Cu:Obj:=⟨(.type "getset_descriptor"),none,(.fields #[(.str "__dict__" 1358),(r 847),(.builtin "function.__dict__"),(.builtin "function.__dict__#set")]),#[]⟩
def zS:Obj:=⟨(.type "getset_descriptor"),none,(.fields #[(.str "__weakref__" 1360),(r 847),(.builtin "ExceptionGroup.__weakref__"),.none]),#[]⟩
def JT:=su 847 847 847
def A0:=bm "object.__init_subclass__" (r 847)
def Hy:=tu [(r 847)]
def yx(P:Params):=di [de P "__module__" 1372 gX,de P "__qualname__" 1374 (.str "Shifted" 1373),de P "__firstlineno__" 1376 (.int 509 1375),dr P "__init__" 1384 865,dr P "offset_at" 1392 872,dr P "local" 1400 879,dr P "put_at" 1412 886,dr P "__static_attributes__" 1415 887] 8
def G4:=fD 4 [(511,864),(515,871),(518,878),(521,885)]
def GX:=cK "Shifted" "Shifted" 1367 509 855 1370
def K8:=fr 857 854 gX
def Kc:=tS 1380 ["self","puts"]
def Mw:=fz "__init__" "Shifted.__init__" (ib (tp 117) 0)
def Iw:=cO "__init__" "Shifted.__init__" 1377 511 2 3 859 1382
def Bu:=fQ "__init__" "Shifted.__init__" (ib (tp 117) 0) gX 864
def Mz:=tS 1388 ["self","true"]
def Ja:=fT "offset_at" "Shifted.offset_at" (ib (tp 117) 1) (ib (tp 116) 1)
def yM:=cO "offset_at" "Shifted.offset_at" 1385 515 2 3 866 1390
def Dw:=fS "offset_at" "Shifted.offset_at" (ib (tp 117) 1) (ib (tp 116) 1) gX 871
def Du:=tS 1396 ["self","true"]
def BP:=fT "local" "Shifted.local" (ib (tp 117) 2) (ib (tp 116) 1)
def zO:=cO "local" "Shifted.local" 1393 518 2 3 873 1398
def JY:=fS "local" "Shifted.local" (ib (tp 117) 2) (ib (tp 116) 1) gX 878
def BH:=tS 1404 ["self","true","passed","place","start","put"]
def DQ:=fz "put_at" "Shifted.put_at" (ib (tp 117) 3)
def GK:=cO "put_at" "Shifted.put_at" 1401 521 2 3 880 1410
def yR:=fQ "put_at" "Shifted.put_at" (ib (tp 117) 3) gX 885
def xp:=tS 1413 ["puts","table"]
def GP(P:Params):=di [de P "__module__" 1372 gX,de P "__firstlineno__" 1376 (.int 509 1375),dr P "__init__" 1384 865,dr P "offset_at" 1392 872,dr P "local" 1400 879,dr P "put_at" 1412 886,dr P "__static_attributes__" 1415 887,de P "__doc__" 1416 .none] 2
def Gi:Obj:=⟨(.type "type"),none,(.cls ⟨"Shifted",[(r 847)],[(r 889),(r 847),(.type "object")],888,"Shifted",true,[],[],false,none,false⟩),#[(some (r 852)),none,(some (.str "Shifted" 1365)),(some (.str "Shifted" 1373)),(some (.builtin "object.__new__")),(some (.bool true))]⟩
def JI:=su 889 889 889
def xc:=bm "object.__init_subclass__" (r 889)
def Ik:=tS 1424 ["clock","local","put","early"]
def Dj:=fY "ring_of" 119
def GB:=cP "ring_of" 1421 528 2 3 892 1428
def AY:=fn "ring_of" "ring_of" (tp 119) 3 [] .none .none .none (.str "fivefields.rings" 1419) none (r 897) .none 0
def G9:=tS 1436 ["_law_script","_law_k"]
def DW:=fY "_law_cell_at" 121
def Bq:=cP "_law_cell_at" 1433 537 2 3 899 1438
def K6:=fP "_law_cell_at" 121 gL 904
def MS:=tS 1444 ["_law_number","_law_first","_law_second"]
def G5:=fY "_law_stir" 122
def E1:=cP "_law_stir" 1441 541 1 3 906 1447
def zm:=fP "_law_stir" 122 gL 911
def zk:=tS 1453 ["_law_cell","_law_sizes","_law_mixed","_law_found","_law_size"]
def DA:=fY "_law_digits" 123
def C0:=cP "_law_digits" 1450 545 3 3 913 1458
def KJ:=fP "_law_digits" 123 gL 918
def t2(P:Params):BT:=nz 11 [(boot_o_0 P),(boot_o_1 P),(boot_o_2 P),(uQ P),(boot_o_4 P),(boot_o_5 P),(boot_o_6 P),(boot_o_7 P),(boot_o_8 P),(boot_o_9 P),(boot_o_10 P),o0,uI,o2,o3,o0,o1,o6,o0,o7,o8,o9,KF,gk,(DS P),o0,o1,Iu,HP,o0,(xR P),LJ,Kk,MI,BC,lT,gk,(FU P),o0,o1,KO,DJ,o0,(xi P),AF,JH,F6,lT,gk,(LO P),o0,C4,IJ,yc,o0,o1,FC,o0,DK,Fv,Li,Kv,(Bd P),Fm,E3,Mc,lT,gk,(Ar P),o0,Cm,D9,D8,o0,o1,zG,o0,Mi,Hz,G8,HI,(LI P),DO,LA,GH,lT,gk,(Gq P),o0,o1,AV,BL,o0,(LX P),zh,GT,IU,o0,o1,xr,o0,FJ,GS,GA,Lb,o0,o1,Jv,o0,JX,Kb,Ak,o0,o1,EH,o0,yg,Dh,L7,o0,o1,Lo,o0,IP,Fb,Ci,o0,o1,G1,o0,A5,Fi,yk,o0,o1,zM,o0,Hk,zy,Bl,o0,o1,xa,xH,Am,o0,o1,Aj,o0,HR,z3,AI,o0,o1,DU,o0,zY,CI,xm,o0,o1,Jn,o0,xy,HD,DN,o0,o1,Jr,GG,Lk,o0,o1,Ca,o0,zT,FY,K9,o0,o1,GR,o0,He,DG,Ap,o0,o1,LV,o0,AA,Di,Ih,o0,o1,Al,o0,HK,ye,HE,o0,o1,Ip,o0,zu,Be,En,o0,o1,IE,o0,GD,A9,F5,o0,o1,IV,o0,xF,Ea,EZ,o0,o1,IR,o0,Fg,Ia,AG,o0,o1,MM,Hq,IL,o0,o1,D4,o0,Jz,Hu,xj,o0,o1,EK,J0,xK,o0,o1,yh,o0,Mh,Em,Hr,o0,o1,IS,ym,LB,o0,o1,B4,o0,zq,B6,yz,o0,o1,Gh,Fj,LP,o0,o1,Bv,o0,Mn,EL,HQ,o0,o1,zJ,o0,MN,AO,E6,o0,o1,yC,FH,Hv,o0,o1,AR,o0,HC,Kn,Fk,o0,o1,JB,o0,G7,Av,Fw,o0,o1,Gy,o0,F9,De,Fc,o0,o1,Ll,Bx,Bt,o0,o1,Kl,o0,F7,Mo,xP,o0,o1,MD,o0,BQ,IM,xW,o0,o1,KY,o0,Ds,FP,Bi,o0,o1,yD,o0,x6,FX,xx,o0,gk,(My P),o0,Ln,Cr,Ly,o0,o1,yQ,o0,GN,yN,JW,o0,o1,zv,o0,Hm,KL,Bf,o0,(AW P),AB,yL,Hc,Gj,Ms,jk,gk,(yY P),o0,Mm,GI,yP,o0,o1,Hw,o0,EX,xf,Kp,o0,o1,Eg,o0,ED,CZ,Da,o0,o1,Iv,o0,Es,CW,Jq,G0,(G3 P),yw,E4,HL,jk,gk,(xS P),o0,E2,Fx,CV,IT,o0,o1,xC,o0,A4,J1,CH,o0,o1,yi,o0,EI,zg,CQ,o0,o1,Ls,o0,BB,Dc,BM,LC,(yJ P),HB,Le,LK,jk,gk,(FL P),o0,CM,Fl,zR,o0,o1,xu,o0,Kw,J2,Gx,o0,o1,HV,o0,GC,AH,CJ,o0,o1,Gn,o0,yy,zV,xY,JZ,(GO P),B7,Lh,Hf,jk,gk,(Lu P),o0,Fu,Ma,xw,o0,o1,D7,o0,y9,Fd,IC,o0,o1,Lm,o0,Gs,BE,DB,o0,(AU P),Jo,LY,x5,jk,gk,(C7 P),o0,ML,F8,KZ,o0,o1,KR,o0,zr,MP,EV,o0,o1,xG,o0,A8,Fp,Iz,o0,o1,B2,o0,F4,zK,Ej,Iq,(HM P),CS,Gr,CP,jk,gk,(JM P),o0,MO,Gb,yn,o0,o1,Kt,o0,yq,zU,FI,o0,o1,Fy,o0,Gw,Dr,A7,o0,o1,Ct,o0,EE,DL,Mb,MR,(Ib P),yK,B5,Ke,jk,gk,(IX P),o0,yb,Az,D5,o0,o1,J3,o0,BS,EA,Aa,o0,o1,xI,o0,Fe,yo,Lp,o0,o1,yt,o0,KB,BK,DM,JO,(Er P),ID,KI,MG,o0,o1,Ky,o0,Hi,GU,KH,o0,o1,EC,o0,JF,FV,LH,o0,o1,EY,o0,Ah,BN,K4,o0,o1,DX,o0,Cg,FD,yB,o0,o1,x9,o0,AZ,LL,yF,o0,o1,Bs,o0,xZ,F0,HH,o0,o1,I0,o0,Mt,HN,BY,Jb,Dy,BJ,zN,o0,o1,IB,o0,Kq,FF,zx,o0,o1,Ga,o0,Ha,EO,Dq,o0,gk,(KS P),o0,yT,MJ,HZ,o0,o1,C6,o0,Ax,JC,GV,o0,o1,Ae,o0,KN,Af,KW,o0,o1,Ac,o0,Br,Jm,Mp,o0,o1,w6,o0,JG,zI,Lj,o0,o1,EF,o0,EG,Ie,AK,o0,o1,Ck,o0,yU,Ij,MB,o0,o1,Ge,o0,xl,LR,Ju,o0,o1,BI,o0,Jc,FK,Cn,o0,o1,DD,o0,DH,LZ,C8,o0,o1,Au,o0,D6,Ir,zW,wZ,(Mj P),Mr,GQ,L6,B0,E8,o0,o1,Gd,o0,yE,Jp,IQ,o0,o1,Ce,o0,CY,Ho,K3,o0,o1,yI,AL,MF,o0,o1,Dv,o0,CB,BW,BX,o0,o1,Hl,o0,E7,KQ,AC,o0,o1,L5,Ji,HJ,o0,o1,xb,o0,zZ,CL,zf,o0,o1,Ab,o0,wY,HW,Lv,o0,o1,CD,Lq,Cz,o0,o1,LG,o0,HA,yj,xV,o0,gk,(BD P),o0,DZ,Ii,IW,xU,o0,o1,II,o0,Lg,ya,Co,o0,o1,C1,o0,xO,F3,Jf,o0,o1,IK,o0,Jx,Bm,Ml,o0,o1,Mq,o0,BU,MA,MC,Je,(Cw P),Ec,Cu,zS,JT,A0,Hy,gk,(yx P),o0,G4,GX,K8,o0,o1,Kc,o0,Mw,Iw,Bu,o0,o1,Mz,o0,Ja,yM,Dw,o0,o1,Du,o0,BP,zO,JY,o0,o1,BH,o0,DQ,GK,yR,xp,(GP P),Gi,JI,xc,o0,o1,Ik,o0,Dj,GB,AY,o0,o1,G9,o0,DW,Bq,K6,o0,o1,MS,o0,G5,E1,zm,o0,o1,zk,o0,DA,C0,KJ]
def s2(w:World)(os:OsState):SharedT:=⟨t2 w.params,920,⟨[],[],[],0,[],[],false,#[],[],0,false,false,false,0,[2000,10,10],false,0,true,[],[],0,false⟩,#[],⟨0,0,0,0⟩,1461,os⟩
def l1:List Stmt:=(bi.drop 78).take 46
theorem r1(w:World)(os:OsState):
  segRunT treeTable pw w 11 an 1 3596 (s1 w os) (piecesOf l1 ev cd ⟨217,0,230,36⟩ bk) =
  some (.next,s2 w os,cd,⟨545,0,555,21⟩):=
 byRow2 "special-get-raises" (P:=fun w=>segRunT treeTable pw w 11 an 1 3596 (s1 w os) (piecesOf l1 ev cd ⟨217,0,230,36⟩ bk)=some (.next,s2 w os,cd,⟨545,0,555,21⟩)) (fun w=>by kernel_rfl) (fun w=>by kernel_rfl) w
def vU(P:Params):=di (de P "__name__" 165 gL::(lY P++[dr P "_law_whole" 1467 926,dr P "_law_start" 1474 933,dr P "_law_last" 1482 940,dr P "_law_year" 1490 947,dr P "_law_put" 1508 954,dr P "_law_weekly" 1517 961,dr P "_law_monthly" 1526 968,dr P "_law_rare" 1534 975,dr P "_law_puts" 1540 980,dr P "_law_in_year" 1546 985,dr P "_law_moments" 1559 992,dr P "_law_put_at" 1565 997,dr P "_law_local" 1573 1004,dr P "_law_top" 1584 1011,dr P "_law_true" 1598 1018,dr P "_law_clock" 1604 1023,dr P "_law_right" 1614 1030,dr P "law" 1620 1035])) 137
def tT:=fD 0 [(1,20),(5,27),(7,40),(9,52),(13,71),(17,90),(20,102),(26,110),(28,117),(30,124),(33,131),(37,138),(41,143),(46,150),(51,157),(59,164),(63,169),(65,176),(70,183),(78,190),(81,197),(83,204),(89,211),(100,218),(102,225),(104,230),(107,237),(112,242),(114,249),(118,254),(124,261),(129,266),(131,273),(133,280),(140,285),(147,292),(154,299),(162,306),(176,311),(187,318),(189,325),(191,332),(198,339),(200,346),(207,374),(217,407),(231,441),(243,474),(250,500),(263,533),(277,566),(287,599),(292,606),(304,613),(307,620),(319,627),(337,634),(344,641),(361,652),(366,659),(374,666),(423,750),(430,757),(435,762),(446,769),(450,776),(461,781),(465,788),(469,795),(476,800),(486,807),(496,814),(509,857),(528,897),(537,904),(541,911),(545,918),(556,925),(558,932),(560,939),(564,946),(571,953),(583,960),(586,967),(589,974),(592,979),(605,984),(621,991),(637,996),(643,1003),(645,1010),(648,1017),(654,1022),(656,1029),(661,1034)]
def vi:=tS 1464 ["_law_found"]
def wB:=fY "_law_whole" 124
def vQ:=cP "_law_whole" 1461 556 1 3 920 1465
def uO:=fP "_law_whole" 124 gL 925
def tL:=tS 1471 ["_law_year_here"]
def vy:=fY "_law_start" 125
def wH:=cP "_law_start" 1468 558 1 3 927 1472
def uL:=fP "_law_start" 125 gL 932
def rV:=tS 1478 ["_law_year_here","_law_month"]
def tU:=fY "_law_last" 126
def wX:=cP "_law_last" 1475 560 2 3 934 1480
def uS:=fP "_law_last" 126 gL 939
def sj:=tS 1486 ["_law_number","_law_year_here"]
def wC:=fY "_law_year" 127
def wU:=cP "_law_year" 1483 564 1 3 941 1488
def uG:=fP "_law_year" 127 gL 946
def vo:=tS 1494 ["_law_parts","_law_month","_law_minute","_law_hour","_law_sort","_law_day","_law_named","_law_number","_law_on","_law_days","_law_names","_law_text"]
def vk:=fY "_law_put" 128
def vM:=cP "_law_put" 1491 571 2 3 948 1506
def ue:=fP "_law_put" 128 gL 953
def vn:=tS 1512 ["_law_parts","_law_named","_law_text"]
def ux:=fY "_law_weekly" 129
def vX:=cP "_law_weekly" 1509 583 2 3 955 1515
def rC:=fP "_law_weekly" 129 gL 960
def ve:=tS 1521 ["_law_parts","_law_day","_law_text"]
def uX:=fY "_law_monthly" 130
def vV:=cP "_law_monthly" 1518 586 2 3 962 1524
def wL:=fP "_law_monthly" 130 gL 967
def wJ:=tS 1530 ["_law_parts","_law_text"]
def vT:=fY "_law_rare" 131
def rD:=cP "_law_rare" 1527 589 1 3 969 1532
def vY:=fP "_law_rare" 131 gL 974
def vj:=fY "_law_puts" 132
def sZ:=co [(.str "_law_puts" 1535),(.str "_law_puts" 1536),(sf 1537),(i 592),(i 2),(i 0),(i 0),(i 3),(r 976),(.bool true),(i 181),(r 977),.none,.none,.none,(r 978),(i 1538),(i 592),(sf 1539)]
def vP:=fP "_law_puts" 132 gL 979
def uN:=fY "_law_in_year" 133
def tN:=co [(.str "_law_in_year" 1541),(.str "_law_in_year" 1542),(sf 1543),(i 605),(i 2),(i 0),(i 0),(i 3),(r 981),(.bool true),(i 181),(r 982),.none,.none,.none,(r 983),(i 1544),(i 605),(sf 1545)]
def vD:=fP "_law_in_year" 133 gL 984
def sC:=tS 1550 ["_law_put_here","_law_true_here","_law_last_here","_law_year_here","_law_found","_law_back","_law_moment"]
def ul:=fY "_law_moments" 134
def wM:=cP "_law_moments" 1547 621 2 3 986 1557
def vN:=fP "_law_moments" 134 gL 991
def wR:=fY "_law_put_at" 135
def tP:=co [(.str "_law_put_at" 1560),(.str "_law_put_at" 1561),(sf 1562),(i 637),(i 2),(i 0),(i 0),(i 3),(r 993),(.bool true),(i 181),(r 994),.none,.none,.none,(r 995),(i 1563),(i 637),(sf 1564)]
def uK:=fP "_law_put_at" 135 gL 996
def uc:=tS 1569 ["_law_puts_here","_law_true_here"]
def sW:=fY "_law_local" 136
def sh:=cP "_law_local" 1566 643 2 3 998 1571
def ro:=fP "_law_local" 136 gL 1003
def tE:=tS 1577 ["_law_puts_here","_law_true_here","_law_moment","_law_ahead","_law_behind"]
def ua:=fY "_law_top" 137
def rq:=cP "_law_top" 1574 645 2 3 1005 1582
def uy:=fP "_law_top" 137 gL 1010
def tF:=tS 1588 ["_law_cell","_law_puts_here","_law_mixed","_law_near","_law_year_here","_law_at","_law_on","_law_moment"]
def rL:=fY "_law_true" 138
def se:=cP "_law_true" 1585 648 3 3 1012 1596
def rQ:=fP "_law_true" 138 gL 1017
def rZ:=fY "_law_clock" 139
def rN:=co [(.str "_law_clock" 1599),(.str "_law_clock" 1600),(sf 1601),(i 654),(i 1),(i 0),(i 0),(i 3),(r 1019),(.bool true),(i 181),(r 1020),.none,.none,.none,(r 1021),(i 1602),(i 654),(sf 1603)]
def ww:=fP "_law_clock" 139 gL 1022
def uW:=tS 1608 ["_law_clock_here","_law_puts_here","_law_local_here","_law_found"]
def vZ:=fY "_law_right" 140
def uh:=cP "_law_right" 1605 656 3 3 1024 1612
def uf:=fP "_law_right" 140 gL 1029
def wt:=fY "law" 141
def uo:=co [(.str "law" 1615),(.str "law" 1616),(sf 1617),(i 661),(i 1),(i 0),(i 0),(i 3),(r 1031),(.bool true),(i 181),(r 1032),.none,.none,.none,(r 1033),(i 1618),(i 661),(sf 1619)]
def wK:=fP "law" 141 gL 1034
def hL(P:Params):List Obj:=lM P (vU P) tT AB++[jk,gk,(FL P),o0,CM,Fl,zR,o0,o1,xu,o0,Kw,J2,Gx,o0,o1,HV,o0,GC,AH,CJ,o0,o1,Gn,o0,yy,zV,xY,JZ,(GO P),B7,Lh,Hf,jk,gk,(Lu P),o0,Fu,Ma,xw,o0,o1,D7,o0,y9,Fd,IC,o0,o1,Lm,o0,Gs,BE,DB,o0,(AU P),Jo,LY,x5,jk,gk,(C7 P),o0,ML,F8,KZ,o0,o1,KR,o0,zr,MP,EV,o0,o1,xG,o0,A8,Fp,Iz,o0,o1,B2,o0,F4,zK,Ej,Iq,(HM P),CS,Gr,CP,jk,gk,(JM P),o0,MO,Gb,yn,o0,o1,Kt,o0,yq,zU,FI,o0,o1,Fy,o0,Gw,Dr,A7,o0,o1,Ct,o0,EE,DL,Mb,MR,(Ib P),yK,B5,Ke,jk,gk,(IX P),o0,yb,Az,D5,o0,o1,J3,o0,BS,EA,Aa,o0,o1,xI,o0,Fe,yo,Lp,o0,o1,yt,o0,KB,BK,DM,JO,(Er P),ID,KI,MG,o0,o1,Ky,o0,Hi,GU,KH,o0,o1,EC,o0,JF,FV,LH,o0,o1,EY,o0,Ah,BN,K4,o0,o1,DX,o0,Cg,FD,yB,o0,o1,x9,o0,AZ,LL,yF,o0,o1,Bs,o0,xZ,F0,HH,o0,o1,I0,o0,Mt,HN,BY,Jb,Dy,BJ,zN,o0,o1,IB,o0,Kq,FF,zx,o0,o1,Ga,o0,Ha,EO,Dq,o0,gk,(KS P),o0,yT,MJ,HZ,o0,o1,C6,o0,Ax,JC,GV,o0,o1,Ae,o0,KN,Af,KW,o0,o1,Ac,o0,Br,Jm,Mp,o0,o1,w6,o0,JG,zI,Lj,o0,o1,EF,o0,EG,Ie,AK,o0,o1,Ck,o0,yU,Ij,MB,o0,o1,Ge,o0,xl,LR,Ju,o0,o1,BI,o0,Jc,FK,Cn,o0,o1,DD,o0,DH,LZ,C8,o0,o1,Au,o0,D6,Ir,zW,wZ,(Mj P),Mr,GQ,L6,B0,E8,o0,o1,Gd,o0,yE,Jp,IQ,o0,o1,Ce,o0,CY,Ho,K3,o0,o1,yI,AL,MF,o0,o1,Dv,o0,CB,BW,BX,o0,o1,Hl,o0,E7,KQ,AC,o0,o1,L5,Ji,HJ,o0,o1,xb,o0,zZ,CL,zf,o0,o1,Ab,o0,wY,HW,Lv,o0,o1,CD,Lq,Cz,o0,o1,LG,o0,HA,yj,xV,o0,gk,(BD P),o0,DZ,Ii,IW,xU,o0,o1,II,o0,Lg,ya,Co,o0,o1,C1,o0,xO,F3,Jf,o0,o1,IK,o0,Jx,Bm,Ml,o0,o1,Mq,o0,BU,MA,MC,Je,(Cw P),Ec,Cu,zS,JT,A0,Hy,gk,(yx P),o0,G4,GX,K8,o0,o1,Kc,o0,Mw,Iw,Bu,o0,o1,Mz,o0,Ja,yM,Dw,o0,o1,Du,o0,BP,zO,JY,o0,o1,BH,o0,DQ,GK,yR,xp,(GP P),Gi,JI,xc,o0,o1,Ik,o0,Dj,GB,AY,o0,o1,G9,o0,DW,Bq,K6,o0,o1,MS,o0,G5,E1,zm,o0,o1,zk,o0,DA,C0,KJ,o0,o1,vi,o0,wB,vQ,uO,o0,o1,tL,o0,vy,wH,uL,o0,o1,rV,o0,tU,wX,uS,o0,o1,sj,o0,wC,wU,uG,o0,o1,vo,o0,vk,vM,ue,o0,o1,vn,o0,ux,vX,rC,o0,o1,ve,o0,uX,vV,wL,o0,o1,wJ,o0,vT,rD,vY,o0,o1,vj,sZ,vP,o0,o1,uN,tN,vD,o0,o1,sC,o0,ul,wM,vN,o0,o1,wR,tP,uK,o0,o1,uc,o0,sW,sh,ro,o0,o1,tE,o0,ua,rq,uy,o0,o1,tF,o0,rL,se,rQ,o0,o1,rZ,rN,ww,o0,o1,uW,o0,vZ,uh,uf,o0,o1,wt,uo,wK]
def t3(P:Params):BT:=nz 12 (hL P)
def s3(w:World)(os:OsState):SharedT:=⟨t3 w.params,1036,⟨[],[],[],0,[],[],false,#[],[],0,false,false,false,0,[2000,10,10],false,0,true,[],[],0,false⟩,#[],⟨0,0,0,0⟩,1621,os⟩
def l2:List Stmt:=(bi.drop 124).take 18
theorem r2(w:World)(os:OsState):
  segRunT treeTable pw w 11 an 1 547 (s2 w os) (piecesOf l2 ev cd ⟨545,0,555,21⟩ bk) =
  some (.next,s3 w os,cd,⟨661,0,674,15⟩):=by kernel_rfl
def hF(P:Params):Heap:=⟨⟨hL P⟩,⟨[],[],[],0,[],[],false,#[],[],0,false,false,false,0,[2000,10,10],false,0,true,[],[],0,false⟩⟩
def sF(w:World)(os:OsState):Shared:=⟨hF w.params,#[],⟨0,0,0,0⟩,1621,os⟩
theorem fB(w:World)(os:OsState):
  topRun treeTable pw w 11 an 2 (s3 w os).abs (restOf [] ev cd ⟨661,0,674,15⟩ bk) =
  some (sF w os):=by kernel_rfl
theorem Rp:bi=(l0++(l1++(l2++[]))):=by kernel_rfl
theorem run(w:World)(os:OsState):topRun treeTable pw w 11 an (12+(1+(3408+(3596+(547+(2)))))) ⟨boot_heap w.params,⟨[]⟩,boot_drawn,boot_toks,os⟩ (topStub pw)=some (sF w os):=by
 refine go_top (pre w os) (piece_block (SB w os) ?_)
 rw[Rp]
 exact (piece_app (segRun_of (r0 w os)) (piece_app (segRun_of (r1 w os)) (piece_app (segRun_of (r2 w os)) (fB w os))))
theorem Rx:∀w:World,(fencedOpening treeTable pw w 15222).map (fun s=>(s.heap,s.gens,s.drawn,s.toks))=some (boot_heap w.params,⟨[]⟩,boot_drawn,boot_toks):=
 boot_open (by kernel_rfl) rfl (fun s=>by kernel_rfl)
theorem OX(w:World):((boot_heap w.params).isNs mainGlobals&&(⟨[]⟩:Array GenState).size==0,(boot_heap w.params).objs.size,(boot_heap w.params).nsMap mainGlobals "__annotations__")=(true,11,an):=by kernel_rfl
end
end
theorem WT{q:Program}{loose mods:List Str}{Xt:Shared->Bool}{s:Shared}
  (e1:seen ((recsOf q).map (·.name)) (ownsOf q) [] {s with gens:= #[]}=expectedOf q) (e2:s.heap.bltView=bltViewBooted)
  (a1:s.heap.keysOk (looseW q loose) ((recsOf q).map (·.name)) ((litsOf q).map (·.1)) ((clssOf q (looseW q loose)).map (·.name))=true)
  (a2:s.heap.accountedOkI mods=true) (a3:s.heap.isNs mainGlobals=true) (a4:s.heap.isNs builtinsNs=true)
  (a5:tablesOk q s.heap=true) (a6:Xt s=true) (a7:(s.gens.size==0)=true) (e4:tabsOk q s=true)
  (e5:pinSeenD q (drecsOf q) s=pinGoodD (drecsOf q)) (e6:plainSeenE q (looseW q loose) s=plainGoodE q (looseW q loose))
  (e7:plainSeenD q loose s=plainGoodD q loose) (e8:wideSeen q s=wideGood q) (e9:clsSeenW q loose s=clsGoodW q loose):
  openSeen q loose mods Xt true s=openGood q loose:=by
 unfold openSeen openGood
 rw[e1,e2,a1,a2,a3,a4,a5,a6,if_pos rfl,a7,e4,e5,e6,e7,e8,e9];rfl
noncomputable def tA{α:Type}(n:Nat):List α->List α:=Nat.rec (fun _=>[]) (fun _ ih l=>List.rec [] (fun a as _=>a::ih as) l) n
noncomputable def tB{α:Type}(n:Nat):List α->List α:=Nat.rec (fun _=>[]) (fun _ ih l=>List.rec [] (fun a as _=>a::ih as) l) n
noncomputable def dA{α:Type}(n:Nat):List α->List α:=Nat.rec (fun l=>l) (fun _ ih l=>List.rec [] (fun _ as _=>ih as) l) n
noncomputable def dB{α:Type}(n:Nat):List α->List α:=Nat.rec (fun l=>l) (fun _ ih l=>List.rec [] (fun _ as _=>ih as) l) n
theorem og{α:Type}:∀(n:Nat) {l r:List α},tA n l=tB n r->dA n l=dB n r->l=r
 |0,_,_,_,h=>h
 |n+1,l,r,h1,h2=>by
  cases l with
  |nil=>
   cases r with
   |nil=>rfl
   |cons b s=>cases h1
  |cons a l=>
   cases r with
   |nil=>cases h1
   |cons b s=>
    injection h1 with e1 e2
    rw[e1,og n e2 h2]
noncomputable def f9:Program:=view PySem.Challenge.pw_fivefields_k84_ring_of [0,2,3,4,5,6,8,10,11,12,13,14,15,16,17,18,19,20,21,23,24,25,27,28,29,31,32,33,34,35,36,37,38,39,41,42,43,44,45,46,47,49,50,51,52,53,54,55,56,57,58,59,61,63,64,65,66,67,68,69,70,71,72,73,74,75,76,77,78,79,80,81,82,83,84,85,86,87,88,89,91,92,93,94,95,96,97,98,99,100,101,102,103,104,106,107,108,109,110,111,112,113,114,115,116,117,119,121,122,123,124,125,126,127,128,129,130,131,132,133,134,135,136,137,138,139,140,141]
noncomputable def free:List Str:=[Str.ofString "Last",Str.ofString "BOUNDS"]
noncomputable def read:List (Str×WData):=[]
section
set_option maxHeartbeats 0
set_option maxRecDepth 100000
noncomputable section
def XT:Shared->Bool:=fun z=>xlAt f9 read z&&recOk (RowW.records (OpenRow.toRowW (OpenLaw.row PySem.Challenge.rw_fivefields_k84_ring_of))) z
abbrev SE(w:World)(os:OsState):=openSeen f9 free (importedModules pw.main.body) XT true (sF w os)
section
variable(w:World)(os:OsState)
theorem z1:seen ((recsOf f9).map (·.name)) (ownsOf f9) [] {sF w os with gens:= #[]}=expectedOf f9:=by kernel_rfl
theorem z2:(sF w os).heap.bltView=bltViewBooted:=by kernel_rfl
theorem y1:(sF w os).heap.keysOk (looseW f9 free) ((recsOf f9).map (·.name)) ((litsOf f9).map (·.1)) ((clssOf f9 (looseW f9 free)).map (·.name))=true:=by kernel_rfl
theorem y2:(sF w os).heap.accountedOkI (importedModules pw.main.body)=true:=by kernel_rfl
theorem y3:(sF w os).heap.isNs mainGlobals=true:=by kernel_rfl
theorem y4:(sF w os).heap.isNs builtinsNs=true:=by kernel_rfl
theorem y5:tablesOk f9 (sF w os).heap=true:=by kernel_rfl
theorem y6:XT (sF w os)=true:=by kernel_rfl
theorem y7:((sF w os).gens.size==0)=true:=by kernel_rfl
theorem z4:tabsOk f9 (sF w os)=true:=by kernel_rfl
theorem z5:pinSeenD f9 (drecsOf f9) (sF w os)=pinGoodD (drecsOf f9):=by kernel_rfl
theorem z6:plainSeenE f9 (looseW f9 free) (sF w os)=plainGoodE f9 (looseW f9 free):=by kernel_rfl
theorem z7:plainSeenD f9 free (sF w os)=plainGoodD f9 free:=by kernel_rfl
theorem z8:wideSeen f9 (sF w os)=wideGood f9:=by kernel_rfl
theorem z9:clsSeenW f9 free (sF w os)=clsGoodW f9 free:=by kernel_rfl
theorem look:SE w os=openGood f9 free:=WT (q:=f9) (loose:=free) (mods:=importedModules pw.main.body) (Xt:=XT) (s:=sF w os) (z1 w os) (z2 w os) (y1 w os) (y2 w os) (y3 w os) (y4 w os) (y5 w os) (y6 w os) (y7 w os) (z4 w os) (z5 w os) (z6 w os) (z7 w os) (z8 w os) (z9 w os)
end
theorem N0(w:World)(os:OsState):(staticsOk (importedModules pw.main.body) (boot_heap w.params) (hF w.params)&&namesBound pw (hF w.params)
  &&gensDone (sF w os)&&laidKept (boot_heap w.params) (hF w.params))=true:=by kernel_rfl
section
set_option Elab.async false
local macro_rules
  | `(tactic| o_head $H) => `(tactic| (have kk := $H; assumption))
theorem d0(h:PySem.Challenge.rw_fivefields_k84_ring_of.row.Holds):PySem.Challenge.rw_fivefields_k84_ring_of.row.Holds:=by
 w_on
 k_head
end
def kL(w:World)(os:OsState):List (Option Obj):=((d0.heap_1 w.params).map fun p=>p.1).map (sF w os).heap.get?
def kR(w:World):List (Option Obj):=(d0.heap_1 w.params).map fun p=>some p.2
theorem k0(w:World)(os:OsState):tA 220 (kL w os)=tB 220 (kR w):=by kernel_rfl
theorem k1(w:World)(os:OsState):tA 220 (dA 220 (kL w os))=tB 220 (dB 220 (kR w)):=by kernel_rfl
theorem k2(w:World)(os:OsState):tA 220 (dA 220 (dA 220 (kL w os)))=tB 220 (dB 220 (dB 220 (kR w))):=by kernel_rfl
theorem k3(w:World)(os:OsState):tA 220 (dA 220 (dA 220 (dA 220 (kL w os))))=tB 220 (dB 220 (dB 220 (dB 220 (kR w)))):=by kernel_rfl
theorem k4(w:World)(os:OsState):(dA 220 (dA 220 (dA 220 (dA 220 (kL w os)))))=(dB 220 (dB 220 (dB 220 (dB 220 (kR w))))):=by kernel_rfl
theorem kk(w:World)(os:OsState):((d0.heap_1 w.params).map fun p=>p.1).map (sF w os).heap.get? =(d0.heap_1 w.params).map fun p=>some p.2:=og 220 (k0 w os) (og 220 (k1 w os) (og 220 (k2 w os) (og 220 (k3 w os) (k4 w os))))
abbrev rR:OpenRow:=OpenLaw.row PySem.Challenge.rw_fivefields_k84_ring_of
def as0:List Addr:=(d0.heap_1 {strHash:=fun _=>0,shareClass:=fun _=>0,mergeTok:=fun t=>t,idOf:=fun _=>0,idOfShared:=fun _ _=>0,followText:=fun _=>true,idOfImm:=fun _=>0}).map (·.1)
theorem m7(P:Params):as0=(d0.heap_1 P).map (·.1):=by kernel_rfl
theorem Sy:LeftO rR.prog f9 free XT (kHook d0.heap_1 as0 m7).obs (kHook d0.heap_1 as0 m7).val 15222:=by
 refine LeftO.of_pieces Rx OX run rfl ?_
 intro w
 funext os
 refine looks_pair (N0 w os) (looks_pair (look w os) ?_)
 show as0.map (sF w os).heap.get? =(d0.heap_1 w.params).map fun p=>some p.2
 rw[m7 w.params]
 exact kk w os
theorem dS:(defOf f9 rR.name).isSome=true:=by kernel_rfl
def dL:DefRec:=((defOf f9 rR.name).get dS).1
theorem h1:defOf f9 rR.name=some (dL,[]):=by kernel_rfl
theorem h2:rR.prog.theDef rR.name=some (dL.params,dL.body,dL.scope):=by kernel_rfl
theorem h3:kwWritten? dL.params.kwonlyargs dL.params.kw_defaults=some []:=by kernel_rfl
theorem h4:dL.params.defaults=[]:=by kernel_rfl
theorem h5:dL.name="law":=by kernel_rfl
theorem h6:(!rR.writes||rR.records.isEmpty)=true:=by kernel_rfl
theorem h7:(chainsOk f9&&opensWell rR.prog&&(frees rR.toRowW&&rR.within.isEmpty))=true:=by decide +kernel
theorem h8:rR.prog.bare:=⟨rfl,rfl,rfl,rfl,rfl,by decide +kernel⟩
theorem lst(said:rR.wellSaid=true)(hw:rR.toRowW.promised)
  (hc:WalkO f9 free (XL f9 read) (kHook d0.heap_1 as0 m7).says rR.toRowW dL [] fun f vs=>PySem.call f vs):rR.Holds:=
 holds_open (q:=f9) (loose:=free) (Xt:=XT) (XP:=XL f9 read) Sy (kHook d0.heap_1 as0 m7).of (kHook d0.heap_1 as0 m7).keeps
  (fun z y=>xl_of z (Bool.and_eq_true_iff.mp y).1) XL.keeps h1 h2 h3 (fun z y=>recFacts_of (Bool.and_eq_true_iff.mp y).2) h6 said h7 h8 hw hc
end
end
end Hd
local macro_rules
  | `(⟨$xs,*⟩)=>do
    let s:=xs.getElems
    if s.any (fun y=>match y with|`(())=>true|`((()))=>true|_=>false) then
      let mut z:Array (Lean.TSyntax `term):=#[]
      for y in s do
        match y with
        | `(())=>z:=(z.push (<-`(_))).push (<-`(rfl))
        | `((()))=>z:=(((z.push (<-`(_))).push (<-`(_))).push (<-`(rfl))).push (<-`(rfl))
        | _=>z:=z.push y
      `(⟨$z,*⟩)
    else Lean.Macro.throwUnsupported
local macro_rules
  | `(⋯)=>`(by omega)
local macro_rules
  | `(tactic|trivial)=>`(tactic|(intro _ _ _ _ h;first|(cases h;subst_vars;rfl)|(repeat first|(have e:=h.1;subst e;rfl)|obtain⟨_,h⟩:=h)))
set_option Elab.async false
set_option linter.all false
set_option maxRecDepth 100000
namespace L2
open PySem PySem.Spec PyProof.Rows
abbrev FG:=PySem.W.Frag
abbrev dP:=@wpAny_passesOwn
abbrev dQ:=@wpAny_newObj_type
abbrev dR:=@wpAny_bind
abbrev dU:=@wpAny_mono
abbrev dW:=@sizeLine_eq
abbrev dX:=@wpAny_holding
abbrev dY:=@of_decide_eq_true
abbrev dZ:=@decide_eq_true
abbrev d6:=@decide_eq_true_eq
abbrev d7:=@decide_eq_false
abbrev d8:=@wpAny_Call_Name_kw
abbrev d9:=@wpAny_pure
abbrev eA:=@wpAny_truthy_bool
abbrev aP:=@Nat.le_refl
abbrev aQ:=@List.length_map
abbrev aR:=@Heap.lt_size
abbrev aS:=@List.length_append
abbrev aT:=@List.mem_cons
abbrev aU:=@Heap.get?_push_of_some
abbrev aV:=@Int.le_refl
abbrev aW:=@Nat.ne_of_lt
abbrev aX:=@List.mem_singleton
abbrev aY:=@List.mem_of_getElem?
abbrev aZ:=@Int.eq_ofNat_of_zero_le
abbrev a8:=@Option.some.inj
abbrev a9:=@List.getElem?_eq_some_iff
abbrev bA:=@Bool.false_ne_true
abbrev bB:=@List.size_toArray
abbrev bC:=@Nat.lt_of_lt_of_le
abbrev bD:=@Nat.zero_le
abbrev bE:=@List.map_append
abbrev bF:=@List.mem_cons_self
abbrev bG:=@List.getElem?_map
abbrev bH:=@List.getElem?_eq_getElem
abbrev bI:=@Bool.and_eq_true
abbrev bJ:=@List.mem_map
abbrev bK:=@Nat.le_trans
abbrev bL:=@List.length_cons
abbrev bM:=@Heap.get?_push_size
abbrev bN:=@List.mem_cons_of_mem
abbrev bO:=@List.mem_append_right
abbrev bP:=@Nat.lt_or_ge
abbrev bQ:=@Int.toNat_of_nonneg
abbrev bR:=@List.mem_range
abbrev bS:=@Int.toNat_natCast
abbrev bT:=@List.any_cons
abbrev bU:=@List.cons_ne_nil
abbrev bV:=@List.map_cons
abbrev bW:=@List.take_length
abbrev bX:=@List.length_singleton
abbrev bY:=@List.mem_append
abbrev bZ:=@Int.le_of_lt
abbrev b6:=@List.all_eq_true
abbrev b7:=@List.take_succ
abbrev b8:=@List.append_nil
abbrev b9:=@List.length_take
abbrev cA:=@List.length_range
abbrev cB:=@List.not_mem_nil
abbrev cC:=@Nat.lt_irrefl
abbrev cD:=@List.mem_append_left
abbrev cE:=@Bool.eq_iff_iff
abbrev cF:=@List.getElem?_append_right
abbrev cG:=@List.take_add_one
abbrev cH:=@List.getElem?_append_left
abbrev cI:=@Nat.lt_of_le_of_lt
abbrev cJ:=@Nat.lt_succ_of_lt
abbrev cL:=@List.pairwise_append
abbrev cM:=@List.getElem?_of_mem
abbrev cN:=@List.filterMap_cons
abbrev cQ:=@Array.length_toList
abbrev cR:=@Int.natCast_nonneg
abbrev cS:=@List.any_eq_false
abbrev cT:=@List.length_replicate
abbrev cU:=@List.length_drop
abbrev cV:=@List.lookup_cons
abbrev cW:=@Int.emod_nonneg
abbrev cX:=@Nat.lt_trichotomy
abbrev cY:=@List.range_succ
abbrev cZ:=@Bool.or_eq_true
abbrev c7:=@Nat.le_add_right
abbrev c8:=@List.eq_nil_of_length_eq_zero
abbrev c9:=@List.find?_cons
abbrev dC:=@Int.lt_or_eq_of_le
abbrev dD:=@Heap.get?_update_ne
abbrev dE:=@Option.map_eq_some_iff
abbrev dF:=@List.append_assoc
abbrev dG:=@Option.isSome_iff_exists
abbrev dH:=@Array.getElem?_toList
abbrev dI:=@List.take_of_length_le
abbrev dJ:=@Int.emod_lt_of_pos
abbrev dM:=@List.filterMap_append
abbrev dN:=@Int.lt_trichotomy
abbrev dO:=@List.pairwise_iff_getElem
noncomputable abbrev fO:=Sum Int Str
noncomputable def nJ:fO->Value->Bool
 |.inl k,.bool b=>k==(if b then 1 else 0)
 |.inl k,v=>Value.isInt k v
 |.inr x,v=>Value.isStrOf x v
noncomputable def tH(w:World):fO->Int
 |.inl k=>hashInt k
 |.inr x=>hashStr w x
theorem lB:∀{k:fO} {v:Value},nJ k v=true->(∃i t,k=Sum.inl i/\v=Value.int i t)∨(∃x t,k=Sum.inr x/\v=Value.str x t)∨(∃b:Bool,k=Sum.inl (if b then 1 else 0)/\v=Value.bool b)
 |.inl i,v,h=>by
  by_cases hb:∃b,v=.bool b
  ·obtain⟨b,rfl⟩:=hb;exact .inr (.inr ⟨b,congrArg Sum.inl (eq_of_beq (show (i==(if b then 1 else 0))=true from h)),rfl⟩)
  ·have h':Value.isInt i v=true:=by
    cases v<;>first | exact absurd ⟨_,rfl⟩ hb | exact h
   obtain⟨t,e⟩:=Value.isInt_shape (k:=i) (v:=v) h';exact .inl ⟨i,t,rfl,e⟩
 |.inr x,v,h=>by
  obtain⟨t,e⟩:=Value.isStrOf_shape (x:=x) (v:=v) h;exact .inr (.inl ⟨x,t,rfl,e⟩)
theorem OV(i:Int)(t:Tok):nJ (.inl i) (.int i t)=true:=by simp[nJ,Value.isInt]
theorem Xr(x:Str)(t:Tok):nJ (.inr x) (.str x t)=true:=by simp[nJ,Value.isStrOf]
theorem qR(a b:Int):decide ((Sum.inl a:fO)=Sum.inl b)=(a==b):=by
 by_cases e:a=b
 ·subst e;simp
 ·have h:¬(Sum.inl a:fO)=Sum.inl b:=λq=>e (Sum.inl.inj q);rw[d7 h];exact (beq_eq_false_iff_ne.mpr e).symm
theorem Rz(a b:Str):decide ((Sum.inr a:fO)=Sum.inr b)=decide (a=b):=by
 by_cases e:a=b
 ·subst e;simp
 ·have h:¬(Sum.inr a:fO)=Sum.inr b:=λq=>e (Sum.inr.inj q);rw[d7 h,d7 e]
theorem Gz(a:Int)(b:Str):decide ((Sum.inl a:fO)=Sum.inr b)=false:=d7 (λq=>nomatch q)
theorem JU(a:Str)(b:Int):decide ((Sum.inr a:fO)=Sum.inl b)=false:=d7 (λq=>nomatch q)
theorem QP{prog:Program}{w:World}{A:Around}{E:Value->Shared->Prop}{s:Shared}{b:Bool}{Q:Int->Shared->Prop}(h:Q (hashInt (if b then 1 else 0)) {s with toks:=s.toks+1}):wpAny (model prog w) A (pyHash (.bool b)) Q E s:=by
 refine PySem.W.pyHash_slot (T:="bool") rfl PySem.F.slot_bool_hash entry_int_hash (args_int_hash _) (beq_builtin_none _) (.inl rfl) ?_;cases b
 ·exact (show wpAny _ _ (do ret (←mkInt 0)) _ _ s from dR (wpAny_mkInt (d9 ⟨_,(),h⟩)))
 ·exact (show wpAny _ _ (do ret (←mkInt 1)) _ _ s from dR (wpAny_mkInt (d9 ⟨_,(),h⟩)))
noncomputable def lG(prog:Program)(w:World):PySem.KeyKind prog w fO where
 is:=nJ
 hash:=tH w
 inj:=λv a b ha hb=>by
  rcases lB ha with ⟨i,t,rfl,rfl⟩ | ⟨x,t,rfl,rfl⟩ | ⟨x,rfl,rfl⟩<;>rcases lB hb with ⟨j,u,rfl,e⟩ | ⟨y,u,rfl,e⟩ | ⟨y,rfl,e⟩<;>first | (injection e with e1 _;rw[e1]) | (injection e with e1;rw[e1]) | exact nomatch e
 byValue:=λk v h=>by
  rcases lB h with ⟨i,t,rfl,rfl⟩ | ⟨x,t,rfl,rfl⟩ | ⟨x,rfl,rfl⟩<;>rfl
 pyHash:=λhv h=>by
  rcases lB hv with ⟨i,t,rfl,rfl⟩ | ⟨x,t,rfl,rfl⟩ | ⟨x,rfl,rfl⟩
  ·exact wpAny_pyHash_int h
  ·exact wpAny_pyHash_str h
  ·exact QP h
 eqBool:=λhu hv h=>by
  rcases lB hu with ⟨i,t,rfl,rfl⟩ | ⟨x,t,rfl,rfl⟩ | ⟨x,rfl,rfl⟩
  ·rcases lB hv with ⟨j,u,rfl,rfl⟩ | ⟨y,u,rfl,rfl⟩ | ⟨y,rfl,rfl⟩
   ·rw[qR] at h;exact wpAny_eqBool_int h
   ·rw[Gz] at h;exact SeqAt.EqAt.int_str i t y u _ _ _ _ h
   ·rw[qR] at h;exact SeqAt.EqAt.int_bool i t y _ _ _ _ h
  ·rcases lB hv with ⟨j,u,rfl,rfl⟩ | ⟨y,u,rfl,rfl⟩ | ⟨y,rfl,rfl⟩
   ·rw[JU] at h;exact SeqAt.EqAt.str_int x t j u _ _ _ _ h
   ·rw[Rz] at h;exact wpAny_eqBool_str h
   ·rw[JU] at h;exact SeqAt.EqAt.str_bool x t y _ _ _ _ h
  ·rcases lB hv with ⟨j,u,rfl,rfl⟩ | ⟨y,u,rfl,rfl⟩ | ⟨y,rfl,rfl⟩
   ·rw[qR] at h;exact SeqAt.EqAt.bool_int x j u _ _ _ _ h
   ·rw[Gz] at h;exact SeqAt.EqAt.bool_str x y u _ _ _ _ h
   ·rw[qR,show (((if x=true then 1 else 0:Int))==(if y=true then 1 else 0))=(x==y) by cases x<;>cases y<;>rfl] at h;exact SeqAt.EqAt.bool_bool x y _ _ _ _ h
 «strs»:=λk x t v h=>by
  rcases lB h with ⟨i,u,rfl,e⟩ | ⟨y,u,rfl,e⟩ | ⟨y,rfl,e⟩
  ·exact nomatch e
  ·injection e with e1 _;subst e1;cases v<;>rfl
  ·exact nomatch e
theorem WP(prog:Program)(w:World)(i:Int)(t:Tok):(lG prog w).is (.inl i) (.int i t)=true:=OV i t
theorem WV(prog:Program)(w:World)(x:Str)(t:Tok):(lG prog w).is (.inr x) (.str x t)=true:=Xr x t
inductive V where
 |non | bl (b:Bool) | int (i:Int) | str (x:Str) | byt (b:Array UInt8) | flt (b:UInt64) | ref (a:Addr) | ty (n:String)
 deriving DecidableEq
def RelV:V->Value->Prop
 |.non,u=>u=Value.none
 |.bl b,u=>u=Value.bool b
 |.int i,u=>∃t,u=Value.int i t
 |.str x,u=>∃t,u=Value.str x t
 |.byt b,u=>∃t,u=Value.bytes b t
 |.flt b,u=>∃t,u=Value.float b t
 |.ref a,u=>u=Value.ref a
 |.ty n,u=>u=Value.type n
abbrev Vals:List V->List Value->Prop:=Paired RelV
theorem Vals.length{xs:List V}{us:List Value}(r:Vals xs us):xs.length=us.length:=Paired.length r
theorem Vals.get:∀{xs:List V} {us:List Value} {i:Nat} {x:V},Vals xs us->xs[i]? =some x->∃u,us[i]? =some u/\RelV x u
 |_,_,_,_,.nil,e=>by simp at e
 |_,_,0,_,.cons r _,e=>by simp at e;subst e;exact⟨(),r⟩
 |_,_,i+1,x,.cons _ t,e=>by
  obtain⟨u,h1,h2⟩:=Vals.get (i:=i) (x:=x) t (by simpa using e);exact⟨u,by simpa using h1,h2⟩
theorem Vals.set{x:V}{u:Value}(r:RelV x u):∀{xs:List V} {us:List Value} (i:Nat),Vals xs us->Vals (xs.set i x) (us.set i u)
 |_,_,_,.nil=>.nil
 |_,_,0,.cons _ t=>.cons r t
 |_,_,i+1,.cons q t=>.cons q (Vals.set r i t)
theorem Vals.append:∀{xs ys:List V} {us ws:List Value},Vals xs us->Vals ys ws->Vals (xs++ys) (us++ws)
 |_,_,_,_,.nil,s=>s
 |_,_,_,_,.cons r t,s=>.cons r (Vals.append t s)
theorem Vals.take:∀{xs:List V} {us:List Value} (n:Nat),Vals xs us->Vals (xs.take n) (us.take n)
 |_,_,0,_=>.nil
 |_,_,_+1,.nil=>.nil
 |_,_,n+1,.cons r t=>.cons r (Vals.take n t)
theorem Vals.drop:∀{xs:List V} {us:List Value} (n:Nat),Vals xs us->Vals (xs.drop n) (us.drop n)
 |_,_,0,r=>r
 |_,_,_+1,.nil=>.nil
 |_,_,n+1,.cons _ t=>Vals.drop n t
def RelO:Option V->Option Value->Prop
 |some v,some u=>RelV v u
 |none,none=>True
 |_,_=>False
def KV{κ:Type}:List (κ×V)->List (κ×Value)->Prop:=Paired λ(p:κ×V) (q:κ×Value)=>p.1=q.1/\RelV p.2 q.2
noncomputable def kV:fO->V
 |.inl i=>.int i
 |.inr x=>.str x
noncomputable def Ve:V->Option fO
 |.int i=>some (.inl i)
 |.bl b=>some (.inl (if b then 1 else 0))
 |.str x=>some (.inr x)
 |_=>none
inductive HO where
 |lst (xs:List V)
 |tup (xs:List V)
 |dK (kvs:List (fO×V)) | dT (kvs:List (List fO×V))
 |set (S:Int->Bool) (n:Nat)
 |ins (C dx:Addr) (fs:List (Str×V))
 |own (x:Addr)
 |xd (fs:List (Str×V))
 |met (f x:Addr)
 |rng (lo hi:Int)
 |frz (o:Obj) (u:HO)
 |tbl (ps:Array Value)
 |ext (φ:Heap->Prop)
noncomputable abbrev Hp:=Addr->Option HO
noncomputable def upd(H:Hp)(a:Addr)(o:HO):Hp:=λb=>if b=a then some o else H b
theorem eJ{H:Hp}{a:Addr}{o:HO}:upd H a o a=some o:=by unfold upd;rw[if_pos rfl]
theorem fh{H:Hp}{a b:Addr}{o:HO}(h:b≠a):upd H a o b=H b:=by unfold upd;rw[if_neg h]
theorem Q7{H:Hp}{a b:Addr}{o u:HO}(h:H a=some o)(h':H b=some u)(d:o≠u):a≠b:=by
 intro e;subst e;rw[h] at h';exact d (a8 h')
theorem gF{H:Hp}{a b:Addr}{o:HO}(h:H a=some o)(h':H b=none):a≠b:=by
 intro e;subst e;rw[h] at h';cases h'
def TupK(H:Hp)(b:Addr)(ks:List fO):Prop:=∃ys,H b=some (.tup ys)/\ys.map Ve=ks.map some
theorem TupK.keeps{H H':Hp}{b:Addr}{ks:List fO}(x:TupK H b ks)(ht:∀b xs,H b=some (.tup xs)->H' b=some (.tup xs)):TupK H' b ks:=let ⟨ys,e,r⟩:=x;⟨ys,ht _ _ e,r⟩
section
variable(P:Program)(w:World)
def ObjOk(H:Hp)(h:Heap)(a:Addr):HO->Prop
 |.lst xs=>xs.length<=sizeLine/\∃(its:List Value) (n:Nat),Vals xs its/\h.get? a=some {cls:=.type "list",data:=.seq its.toArray n}
 |.tup xs=>xs.length<=sizeLine/\∃its:List Value,Vals xs its/\IsTup h a its.toArray
 |.dK kvs=>kvs.length<=sizeLine/\(a==sysModules)=false/\∃vs,KV kvs vs/\h.DictOf (lG P w) a vs
 |.dT kvs=>kvs.length<=sizeLine/\(a==sysModules)=false/\∃xs:List (List fO×Addr×Value),
   Paired (λ(p:List fO×V) (q:List fO×Addr×Value)=>p.1=q.1/\TupK H q.2.1 p.1/\RelV p.2 q.2.2) kvs xs/\
   ∃o es ep,h.get? a=some o/\o.ExactDict/\o.data=.dict es ep/\es.toList=xs.map (entryOfKey (tupleKind (lG P w)))/\(xs.map (·.1)).Nodup
 |.set S n=>h.SetOf (intKind P w) a S n
 |.ins C dx fs=>H dx=some (.own a)/\fs.length<=1000/\dx≠a/\h.get? a=some (PySem.W.instObj C dx)/\
   ∃mA,h.Ns1 dx mA/\(∀f,RelO (fs.lookup f) (mA f))/\PySem.Within mA (fs.map (·.1))
 |.own _=>∃o,h.get? a=some o
 |.xd fs=>∃mA,h.Ns1 a mA/\∀f,RelO (fs.lookup f) (mA f)
 |.rng lo hi=>∃t u v,h.get? a=some {cls:=.type "range",data:=.fields #[.int lo t,.int hi u,.int 1 v]}
 |.frz o u=>h.get? a=some o/\ObjOk H h a u
 |.tbl ps=>h.get? a=some {cls:=.none,data:=.fields ps}
 |.met f x=>h.get? a=some (PySem.W.methodObj (.ref f) (.ref x))
 |.ext φ=>φ h/\(∃o,h.get? a=some o)/\∀h1 h2:Heap,φ h1->(∀o,h1.get? a=some o->h2.get? a=some o)->φ h2
def HOk(H:Hp)(h:Heap):Prop:=∀a o,H a=some o->ObjOk P w H h a o
end
section
variable{P:Program}{w:World}{H H':Hp}{h h':Heap}{a:Addr}{o:HO}
theorem ObjOk.lt(x:ObjOk P w H h a o):a<h.objs.size:=by
 cases o with
 |lst xs=>obtain⟨_,_,_,_,e⟩:=x;exact aR e
 |tup xs=>obtain⟨_,_,_,p⟩:=x;exact p.lt
 |dK kvs=>obtain⟨_,_,_,_,o,_,_,e,_⟩:=x;exact aR e
 |dT kvs=>obtain⟨_,_,_,_,o,_,_,e,_⟩:=x;exact aR e
 |set S n=>obtain⟨o,_,_,_,e,_⟩:=x;exact aR e
 |ins C dx fs=>obtain⟨_,_,_,e,_⟩:=x;exact aR e
 |own y=>obtain⟨_,e⟩:=x;exact aR e
 |xd fs=>obtain⟨_,⟨_,_,_,e,_⟩,_⟩:=x;exact aR e
 |rng lo hi=>obtain⟨_,_,_,e⟩:=x;exact aR e
 |frz ob u=>obtain⟨e,_⟩:=x;exact aR e
 |tbl ps=>exact aR (show h.get? a=some _ from x)
 |met f y=>exact aR (show h.get? a=some _ from x)
 |ext φ=>obtain⟨_,⟨_,e⟩,_⟩:=x;exact aR e
theorem Paired.mapP{α β:Type}{F G:α->β->Prop}:∀{l₁:List α} {l₂:List β},Paired F l₁ l₂->(∀a b,F a b->G a b)->Paired G l₁ l₂
 |_,_,.nil,_=>.nil
 |_,_,.cons r t,f=>.cons (f _ _ r) (Paired.mapP t f)
theorem Paired.imp'{α β:Type}{F G:α->β->Prop}(f:∀a b,F a b->G a b){l₁:List α}{l₂:List β}(r:Paired F l₁ l₂):Paired G l₁ l₂:=Paired.mapP r f
theorem ObjOk.stay(x:ObjOk P w H h a o)(k:∀b u,(b=a∨H b=some (.own a))->h.get? b=some u->h'.get? b=some u)
  (ho:∀b,H b=some (.own a)->H' b=some (.own a)) (ht:∀b xs,H b=some (.tup xs)->H' b=some (.tup xs)):ObjOk P w H' h' a o:=by
 induction o with
 |lst xs=>obtain⟨z,its,n,r,e⟩:=x;exact⟨z,its,n,r,k _ _ (.inl rfl) e⟩
 |tup xs=>obtain⟨z,its,r,ob,e,c⟩:=x;exact⟨z,its,r,ob,k _ _ (.inl rfl) e,c⟩
 |dK kvs=>obtain⟨z,y,vs,r,ob,es,ep,e,c⟩:=x;exact⟨z,y,vs,r,ob,es,ep,k _ _ (.inl rfl) e,c⟩
 |dT kvs=>
  obtain⟨z,y,xs,r,ob,es,ep,e,c⟩:=x;exact⟨z,y,xs,Paired.mapP r λp q z=>⟨z.1,z.2.1.keeps ht,z.2.2⟩,ob,es,ep,k _ _ (.inl rfl) e,c⟩
 |set S n=>obtain⟨ob,es,ep,t,e,c⟩:=x;exact⟨ob,es,ep,t,k _ _ (.inl rfl) e,c⟩
 |ins C dx fs=>
  obtain⟨d,z,ne,e,mA,⟨od,es,ep,e2,c⟩,r⟩:=x;exact⟨ho _ d,z,ne,k _ _ (.inl rfl) e,mA,⟨od,es,ep,k _ _ (.inr d) e2,c⟩,r⟩
 |own y=>obtain⟨ob,e⟩:=x;exact⟨ob,k _ _ (.inl rfl) e⟩
 |xd fs=>obtain⟨mA,⟨od,es,ep,e,c⟩,r⟩:=x;exact⟨mA,⟨od,es,ep,k _ _ (.inl rfl) e,c⟩,r⟩
 |rng lo hi=>obtain⟨t,u,v,e⟩:=x;exact⟨t,u,v,k _ _ (.inl rfl) e⟩
 |frz ob u ih=>obtain⟨e,q⟩:=x;exact⟨k _ _ (.inl rfl) e,ih q⟩
 |tbl ps=>
  have e:h.get? a=some {cls:=.none,data:=.fields ps}:=x;show h'.get? a=some {cls:=.none,data:=.fields ps};exact k a _ (.inl rfl) e
 |met f y=>
  have e:h.get? a=some (PySem.W.methodObj (.ref f) (.ref y)):=x;show h'.get? a=some (PySem.W.methodObj (.ref f) (.ref y));exact k a _ (.inl rfl) e
 |ext φ=>obtain⟨p,⟨o,e⟩,st⟩:=x;exact⟨st _ _ p λo q=>k _ _ (.inl rfl) q,⟨o,k _ _ (.inl rfl) e⟩,st⟩
theorem HOk.lt(x:HOk P w H h)(e:H a=some o):a<h.objs.size:=(x a o e).lt
theorem HOk.fresh(x:HOk P w H h)(e:h.objs.size<=a):H a=none:=by
 cases q:H a with
 |none=>rfl
 |some u=>exact absurd (bC (x.lt q) e) (cC _)
theorem HOk.kept(x:HOk P w H h)(k:∀b u,h.get? b=some u->h'.get? b=some u):HOk P w H h':=λa o e=>
 (x a o e).stay (λb u _ q=>k b u q) (λ_ q=>q) λ_ _ q=>q
theorem HOk.laid(x:HOk P w H h)(k:∀b u,h.get? b=some u->h'.get? b=some u)(hp:h.objs.size<=a)(new:ObjOk P w (upd H a o) h' a o):HOk P w (upd H a o) h':=λb u e=>by
 have hn:=x.fresh hp;by_cases hb:b=a
 ·subst hb;rw[eJ] at e;cases e;exact new
 ·rw[fh hb] at e;exact (x b u e).stay (λc v _ q=>k c v q) (λc q=>by rw[fh (gF q hn)];exact q) λc xs q=>by rw[fh (gF q hn)];exact q
end
def Rd(H:Hp)(a:Addr)(u:HO):Prop:=H a=some u∨∃o,H a=some (.frz o u)
theorem Rd.ok{P:Program}{w:World}{H:Hp}{h:Heap}{a:Addr}{u:HO}(r:Rd H a u)(x:HOk P w H h):ObjOk P w H h a u:=by
 rcases r with r | ⟨o,r⟩
 ·exact x a u r
 ·obtain⟨_,q⟩:=x a _ r;exact q
def qS:Option HO->Prop
 |some (.lst _)=>True
 |some (.dK _)=>True
 |some (.dT _)=>True
 |some (.set _ _)=>True
 |some (.ins _ _ _)=>True
 |some (.ext _)=>True
 |_=>False
section
variable{P:Program}{w:World}{H:Hp}{h h':Heap}{x e:Addr}{o':HO}
theorem HOk.write(ok:HOk P w H h)(mu:qS (H x))(he:e=x∨H e=some (.own x))(k:∀b u,b≠e->h.get? b=some u->h'.get? b=some u)(heo:∃u,h'.get? e=some u)
  (new:ObjOk P w (upd H x o') h' x o'):HOk P w (upd H x o') h':=λb u q=>by
 have nown:∀c y,H c=some (.own y)->c≠x:=λc y r z=>by subst z;rw[r] at mu;exact mu
 have ntup:∀c xs,H c=some (.tup xs)->c≠x:=λc xs r z=>by subst z;rw[r] at mu;exact mu
 by_cases hb:b=x
 ·subst hb;rw[eJ] at q;cases q;exact new
 ·rw[fh hb] at q;by_cases hbe:b=e
  ·have q':H b=some (.own x):=by
    rcases he with z | z
    ·exact absurd (hbe.trans z) hb
    ·rw[hbe];exact z
   rw[q] at q';cases q';obtain⟨v,hv⟩:=heo;exact⟨v,by rw[hbe];exact hv⟩
  ·refine (ok b u q).stay (λc v hc r=>k c v ?_ r) (λc r=>by rw[fh (nown c b r)];exact r) λc xs r=>by rw[fh (ntup c xs r)];exact r
   rcases hc with rfl | hc
   ·exact hbe
   ·rintro rfl;rcases he with z | z
    ·exact nown c b hc z
    ·rw[hc] at z;cases z;exact hb rfl
end
structure Un(fs ex:List Addr)(H H':Hp)(h h':Heap):Prop where
 keep:∀b o,h.get? b=some o->H b=none->b∉fs->b∉ex->h'.get? b=some o
 slot:∀b o,h.get? b=some o->H b=none->b∈fs->b∉ex->∃sl,h'.get? b=some {o with slots:=sl}
 free:∀b o,h.get? b=some o->H b=none->b∉ex->H' b=none
 there:∀b o,h.get? b=some o->b∉ex->∃o',h'.get? b=some o'
 tups:∀b xs,H b=some (.tup xs)->H' b=some (.tup xs)
 frzs:∀b o u,H b=some (.frz o u)->H' b=some (.frz o u)
 tbls:∀b ps,H b=some (.tbl ps)->∃more,H' b=some (.tbl (ps++more))
section
variable{fs fs' ex ex':List Addr}{H H1 H2:Hp}{h h1 h2 h':Heap}{a x e:Addr}{o:HO}
theorem Un.any(u:Un fs ex H H1 h h1){b:Addr}{ob:Obj}(q:h.get? b=some ob)(n:H b=none)(hx:b∉ex):∃sl,h1.get? b=some {ob with slots:=sl}:=by
 by_cases hb:b∈fs
 ·exact u.slot b ob q n hb hx
 ·exact⟨ob.slots,u.keep b ob q n hb hx⟩
theorem Un.trans(a:Un fs ex H H1 h h1)(b:Un fs ex H1 H2 h1 h2):Un fs ex H H2 h h2 where
 keep:=λc ob q n hc hx=>b.keep c ob (a.keep c ob q n hc hx) (a.free c ob q n hx) hc hx
 slot:=λc ob q n hc hx=>by
  obtain⟨sl,e1⟩:=a.slot c ob q n hc hx;obtain⟨sl',e2⟩:=b.slot c _ e1 (a.free c ob q n hx) hc hx;exact⟨sl',e2⟩
 free:=λc ob q n hx=>by
  obtain⟨o',e1⟩:=a.there c ob q hx;exact b.free c o' e1 (a.free c ob q n hx) hx
 there:=λc ob q hx=>by
  obtain⟨o',e1⟩:=a.there c ob q hx;exact b.there c o' e1 hx
 tups:=λc xs q=>b.tups c xs (a.tups c xs q)
 frzs:=λc ob xs q=>b.frzs c ob xs (a.frzs c ob xs q)
 tbls:=λc ps q=>by
  obtain⟨m1,e1⟩:=a.tbls c ps q;obtain⟨m2,e2⟩:=b.tbls c _ e1;exact⟨m1++m2,by rw[e2,Array.append_assoc]⟩
theorem Un.kept(k:∀b u,h.get? b=some u->h'.get? b=some u):Un fs ex H H h h':=
 ⟨λb ob q _ _ _=>k b ob q,λb ob q _ _ _=>⟨ob.slots,k b ob q⟩,λ_ _ _ n _=>n,λb ob q _=>⟨ob,k b ob q⟩,λ_ _ q=>q,λ_ _ _ q=>q,λ_ ps q=>⟨#[],by rw[q];simp⟩⟩
theorem Un.refl:Un fs ex H H h h:=Un.kept λ_ _ q=>q
theorem Un.laid(k:∀b u,h.get? b=some u->h'.get? b=some u)(hp:h.objs.size<=a)(hn:H a=none):Un fs ex H (upd H a o) h h' where
 keep:=λb u q _ _ _=>k b u q
 slot:=λb u q _ _ _=>⟨u.slots,k b u q⟩
 free:=λb u q n _=>by rw[fh (aW (bC (aR q) hp))];exact n
 there:=λb u q _=>⟨u,k b u q⟩
 tups:=λb xs q=>by rw[fh (gF q hn)];exact q
 frzs:=λb u xs q=>by rw[fh (gF q hn)];exact q
 tbls:=λb ps q=>⟨#[],by rw[fh (gF q hn),q];simp⟩
theorem Un.write(mu:qS (H x))(he:e=x∨H e=some (.own x))(k:∀b u,b≠e->h.get? b=some u->h'.get? b=some u)(heo:∃u,h'.get? e=some u):Un fs ex H (upd H x o) h h':=by
 have hx:∀b,H b=none->b≠x:=λb n z=>by subst z;rw[n] at mu;exact mu
 have hb:∀b,H b=none->b≠e:=λb n z=>by
  subst z;rcases he with r | r
  ·exact hx b n r
  ·rw[n] at r;cases r
 have hm:∀b u,H b=some u->¬qS (some u)->b≠x:=λb u q nm z=>by subst z;rw[q] at mu;exact nm mu
 refine⟨λb u q n _ _=>k b u (hb b n) q,λb u q n _ _=>⟨u.slots,k b u (hb b n) q⟩,λb u q n _=>by rw[fh (hx b n)];exact n,λb u q _=>?_,
  λb xs q=>by rw[fh (hm b _ q λz=>z)];exact q,λb u xs q=>by rw[fh (hm b _ q λz=>z)];exact q,λb ps q=>⟨#[],by rw[fh (hm b _ q λz=>z),q];simp⟩⟩
 by_cases hbe:b=e
 ·subst hbe;exact heo
 ·exact⟨u,k b u hbe q⟩
end
noncomputable def qB(h:Heap)(H:Hp):List Addr:=(List.range h.objs.size).filter λa=>(H a).isSome
noncomputable def k6(h:Heap)(H:Hp):Heap:=PySem.W.hideAll h (qB h H)
theorem RD(h:Heap)(H:Hp):(k6 h H).objs.size=h.objs.size:=PySem.W.hideAll_size _ _
theorem T2{h:Heap}{H:Hp}{b:Addr}{o:Obj}(e:h.get? b=some o)(n:H b=none):(k6 h H).get? b=some o:=
 PySem.W.hideAll_get _ e λhm=>by
  have q:(H b).isSome=true:=(List.mem_filter.mp hm).2;rw[n] at q;simp at q
theorem N5{h:Heap}{H:Hp}{b:Addr}{o:Obj}(e:(k6 h H).get? b=some o):h.get? b=some o/\H b=none:=by
 have e':h.get? b=some o:=PySem.W.of_hideAll (qB h H) e;refine⟨e',?_⟩;cases q:H b with
 |none=>rfl
 |some x=>
  have hm:b∈qB h H:=List.mem_filter.mpr ⟨bR.mpr (aR e'),by simp[q]⟩;have z:(k6 h H).get? b=none:=PySem.W.hideAll_none (qB h H) hm;rw[z] at e;cases e
structure Mod(K:FG)(mg:Str->Option Value)(base:Heap):Prop where
 kin:K.In base
 glob:base.Ns mainGlobals mg
 blt:∃mb,base.Ns builtinsNs mb/\∀x:Str,x≠"__name__"->mb x=bootBuiltins x
 nolimit:base.NoLimit
structure Cx where
 prog:Program
 w:World
 K:FG
 mg:Str->Option Value
 base:Heap
 A:Around
 N:List Str
 s₀:Shared
 H₀:Hp
 env:Env
 outer:List Env
 stack:List Env
 ex:List Addr
 fn:Str->Bool
 calm:Bool
 pn:List (Addr×Obj)
 xe:Value->Shared->Prop
noncomputable def jm(l:List Env):List Addr:=l.filterMap (·.frame)
noncomputable abbrev Cx.fs(X:Cx):List Addr:=jm X.outer
def qL(sc:Scope)(x:Str):Prop:=sc.names.lookup x=some .local∨sc.names.lookup x=some .cell∨sc.names.lookup x=some .free
def nG(sc:Scope)(x:Str):Prop:=sc.names.lookup x=some .local∨sc.names.lookup x=some .cell
def uj(env:Env)(h:Heap)(m:Str->Option Value)(x:Str)(u:Value):Prop:=
 (env.kindOf x=some .local/\m x=some u)∨((env.kindOf x=some .cell∨env.kindOf x=some .free)/\∃c,env.cells.lookup x=some c/\h.IsCell c (some u))
structure Cx.Ok(X:Cx):Prop where
 mod:Mod X.K X.mg X.base
 kind:X.env.scope.kind=.function
 glob:X.env.globals=mainGlobals
 blt:X.env.builtins=builtinsNs
 above:X.s₀.heap.objs.size<=X.env.locals
 inj:∀x y c,X.env.cells.lookup x=some c->X.env.cells.lookup y=some c->x=y
 has:∀x,(X.env.kindOf x=some .cell∨X.env.kindOf x=some .free)->∃c,X.env.cells.lookup x=some c
 cab:∀x c,X.fn x=true->X.env.cells.lookup x=some c->X.s₀.heap.objs.size<=c
 hd:X.calm=true->X.A.handled=none
 frames:X.A.frames=some X.stack
 stk:X.stack=X.outer∨(X.stack=X.env::X.outer/\X.env.frame=some X.env.locals)
 exf:∀b∈X.ex,b≠X.env.locals/\∀x c,X.env.cells.lookup x=some c->c≠b
 bs:∀b o,X.base.get? b=some o->X.s₀.heap.get? b=some o/\X.H₀ b=none
 bsz:X.base.objs.size<=X.s₀.heap.objs.size
 noex:∀b o,X.base.get? b=some o->b∉X.ex
 exfs:∀b∈X.ex,b∉X.fs
 funs:X.s₀.heap.FunFrames X.base X.outer
 frf:∀b∈X.fs,X.H₀ b=none
structure Inv(X:Cx)(pins:List (Addr×Obj))(σ:List (Option V))(H:Hp)(s:Shared):Prop where
 ok:X.Ok
 os:s.os=X.s₀.os
 bare:AllBare s.gens
 base:Un X.fs X.ex X.H₀ H X.s₀.heap s.heap
 loc:∃m,s.heap.Ns X.env.locals m/\∀(i:Nat) (x:Str) (v:V),X.N[i]? =some x->σ[i]? =some (some v)->qL X.env.scope x->∃u,RelV v u/\uj X.env s.heap m x u
 cell:∀x c,X.env.cells.lookup x=some c->∃v,s.heap.IsCell c v
 free:H X.env.locals=none
 freeC:∀x c,X.env.cells.lookup x=some c->H c=none
 pin:∀p∈X.pn++pins,s.heap.get? p.1=some p.2/\H p.1=none/\p.1≠X.env.locals/\p.1∉X.fs/\∀v,p.2.data≠ .cell v
 hok:HOk X.prog X.w H s.heap
 len:σ.length=X.N.length
section
variable{X:Cx}{pins:List (Addr×Obj)}{σ:List (Option V)}{H H':Hp}{s:Shared}{h':Heap}
theorem Cx.Ok.nofr(ok:X.Ok){b:Addr}{o:Obj}(e:X.base.get? b=some o):b∉X.fs:=λhb=>by
 have:=(ok.funs.mem hb).1;rw[e] at this;cases this
theorem Inv.bs(I:Inv X pins σ H s):∀b o,X.base.get? b=some o->s.heap.get? b=some o/\H b=none:=λb o e=>
 ⟨I.base.keep b o (I.ok.bs b o e).1 (I.ok.bs b o e).2 (I.ok.nofr e) (I.ok.noex b o e),I.base.free b o (I.ok.bs b o e).1 (I.ok.bs b o e).2 (I.ok.noex b o e)⟩
theorem Inv.bk(I:Inv X pins σ H s):∀b o,X.base.get? b=some o->s.heap.get? b=some o:=λb o e=>(I.bs b o e).1
theorem Inv.mod(I:Inv X pins σ H s):Mod X.K X.mg X.base:=I.ok.mod
theorem Inv.kIn(I:Inv X pins σ H s):X.K.In s.heap:=I.ok.mod.kin.keeps I.bk
theorem Inv.nolimit(I:Inv X pins σ H s):s.heap.NoLimit:=I.ok.mod.nolimit.keeps I.bk
theorem Inv.lt(I:Inv X pins σ H s):X.env.locals<s.heap.objs.size:=let ⟨_,hn,_⟩:=I.loc;hn.lt
theorem Inv.sz(I:Inv X pins σ H s):X.s₀.heap.objs.size<=s.heap.objs.size:=bK I.ok.above (Nat.le_of_lt I.lt)
theorem Inv.nofs(I:Inv X pins σ H s){a:Addr}(h:s.heap.objs.size<=a):a∉X.fs:=λhb=>by
 obtain⟨_,o,ho,_⟩:=I.ok.funs.mem hb;exact absurd (bC (aR ho) (bK I.sz h)) (cC _)
theorem Inv.cne(I:Inv X pins σ H s):∀x c,X.env.cells.lookup x=some c->c≠X.env.locals:=λx c e z=>by
 obtain⟨v,o,ho,hd⟩:=I.cell x c e;obtain⟨m,⟨o',es,ep,ho',hd',_⟩,_⟩:=I.loc;rw[z,ho'] at ho;cases ho;rw[hd'] at hd;cases hd
theorem Inv.funs(I:Inv X pins σ H s):s.heap.FunFrames X.base X.outer:=by
 have all:∀(l:List Env),(∀b∈jm l,b∈X.fs)->X.s₀.heap.FunFrames X.base l->s.heap.FunFrames X.base l:=by
  intro l;induction l with
  |nil=>intro _ _;trivial
  |cons env r ih=>
   intro hs hl;obtain⟨hk,⟨L,o,hf,hn,ho,hd⟩,hr⟩:=hl;have hL:L∈X.fs:=hs L (by unfold jm;rw[cN,hf];exact bF);obtain⟨sl,e⟩:=I.base.slot L o ho (I.ok.frf L hL) hL λz=>I.ok.exfs L z hL;exact⟨hk,⟨L,_,hf,hn,e,hd⟩,ih (λb hb=>hs b (by unfold jm;rw[cN,hf];exact bN _ hb)) hr⟩
 exact all X.outer (λ_ hb=>hb) I.ok.funs
theorem Inv.stack(I:Inv X pins σ H s):s.heap.FunFrames X.base X.stack:=by
 rcases I.ok.stk with e | ⟨e,hf⟩
 ·rw[e];exact I.funs
 ·rw[e];obtain⟨m,hn,_⟩:=I.loc;refine .cons (by rw[I.ok.kind];decide) hf hn ?_ I.funs;exact Heap.get?_none_of_le (bK I.ok.bsz I.ok.above)
theorem Inv.stkSub(I:Inv X pins σ H s):∀b∈jm X.stack,b∈X.env.locals::X.fs:=λb hb=>by
 rcases I.ok.stk with e | ⟨e,hf⟩
 ·rw[e] at hb;exact bN _ hb
 ·rw[e] at hb;unfold jm at hb;rw[cN,hf] at hb;exact hb
theorem Inv.stkFree(I:Inv X pins σ H s):∀b∈jm X.stack,H b=none:=λb hb=>by
 rcases aT.mp (I.stkSub b hb) with e | hb
 ·rw[e];exact I.free
 ·obtain⟨_,o,ho,_⟩:=I.ok.funs.mem hb;exact I.base.free b o ho (I.ok.frf b hb) λz=>I.ok.exfs b z hb
theorem Inv.step{g':Array GenState}{t':Nat}{d':Drawn}{ch:List Addr}(I:Inv X pins σ H s)
  (hch:∀b∈ch,(b∈X.ex∨X.s₀.heap.objs.size<=b)/\b≠X.env.locals/\(∀x c,X.env.cells.lookup x=some c->c≠b)/\∀p∈X.pn++pins,p.1≠b)
  (keep:∀b o,b≠X.env.locals->b∉X.fs->b∉ch->s.heap.get? b=some o->H b=none->h'.get? b=some o)
  (slot:∀b o,b≠X.env.locals->b∈X.fs->b∉ch->s.heap.get? b=some o->H b=none->∃sl,h'.get? b=some {o with slots:=sl}) (free:∀b o,b∉ch->s.heap.get? b=some o->H b=none->H' b=none)
  (there:∀b o,b∉ch->s.heap.get? b=some o->∃o',h'.get? b=some o')
  (tups:∀b xs,H b=some (.tup xs)->H' b=some (.tup xs)) (frzs:∀b o u,H b=some (.frz o u)->H' b=some (.frz o u)) (tbls:∀b ps,H b=some (.tbl ps)->∃more,H' b=some (.tbl (ps++more)))
  (ns:∀m,s.heap.Ns X.env.locals m->h'.Ns X.env.locals m) (hok:HOk X.prog X.w H' h') (hg:AllBare g'):
  Inv X pins σ H' {s with heap:=h',gens:=g',drawn:=d',toks:=t'}:=by
 have neL:∀b o,X.s₀.heap.get? b=some o->b≠X.env.locals:=λb o e=>aW (bC (aR e) I.ok.above);have neC:∀b o,X.s₀.heap.get? b=some o->b∉X.ex->b∉ch:=λb o e hx hb=>by
  rcases (hch b hb).1 with z | z
  ·exact hx z
  ·exact absurd (bC (aR e) z) (cC _)
 have cellK:∀x c,X.env.cells.lookup x=some c->∀v,s.heap.IsCell c v->h'.IsCell c v:=λx c e v ⟨o,ho,hd⟩=>by
  have nch:c∉ch:=λz=>(hch c z).2.2.1 x c e rfl;by_cases hc:c∈X.fs
  ·obtain⟨sl,q⟩:=slot c o (I.cne x c e) hc nch ho (I.freeC x c e);exact⟨_,q,hd⟩
  ·exact⟨o,keep c o (I.cne x c e) hc nch ho (I.freeC x c e),hd⟩
 refine⟨I.ok,I.os,hg,⟨λb o e n hb hx=>?_,λb o e n hb hx=>?_,λb o e n hx=>?_,λb o e hx=>?_,λb xs e=>tups b xs (I.base.tups b xs e),λb o xs e=>frzs b o xs (I.base.frzs b o xs e),λb ps e=>?_⟩,?_,λx c e=>?_,?_,λx c e=>?_,λp hp=>?_,hok,I.len⟩
 ·exact keep b o (neL b o e) hb (neC b o e hx) (I.base.keep b o e n hb hx) (I.base.free b o e n hx)
 ·obtain⟨sl,e1⟩:=I.base.slot b o e n hb hx;obtain⟨sl',e2⟩:=slot b _ (neL b o e) hb (neC b o e hx) e1 (I.base.free b o e n hx);exact⟨sl',e2⟩
 ·obtain⟨o',e1⟩:=I.base.there b o e hx;exact free b o' (neC b o e hx) e1 (I.base.free b o e n hx)
 ·obtain⟨o',e1⟩:=I.base.there b o e hx;exact there b o' (neC b o e hx) e1
 ·obtain⟨m1,e1⟩:=I.base.tbls b ps e;obtain⟨m2,e2⟩:=tbls b _ e1;exact⟨m1++m2,by rw[e2,Array.append_assoc]⟩
 ·obtain⟨m,hn,hl⟩:=I.loc;refine⟨m,ns m hn,λi x v e1 e2 e3=>?_⟩;obtain⟨u,r,l⟩:=hl i x v e1 e2 e3;refine⟨u,r,?_⟩;rcases l with l | ⟨k,c,e,z⟩
  ·exact .inl l
  ·exact .inr ⟨k,c,e,cellK x c e _ z⟩
 ·obtain⟨v,z⟩:=I.cell x c e;exact⟨v,cellK x c e v z⟩
 ·obtain⟨m,⟨o,_,_,ho,_⟩,_⟩:=I.loc;exact free _ o (λz=>(hch _ z).2.1 rfl) ho I.free
 ·obtain⟨v,o,ho,hd⟩:=I.cell x c e;exact free c o (λz=>(hch c z).2.2.1 x c e rfl) ho (I.freeC x c e)
 ·obtain⟨e,n,ne,nf,d⟩:=I.pin p hp;have nch:p.1∉ch:=λz=>(hch p.1 z).2.2.2 p hp rfl;exact⟨keep p.1 p.2 ne nf nch e n,free p.1 p.2 nch e n,ne,nf,d⟩
theorem Inv.un{t':Nat}(I:Inv X pins σ H s)(u:Un X.fs [] H H' s.heap h')(hok:HOk X.prog X.w H' h'):Inv X pins σ H' {s with heap:=h',toks:=t'}:=by
 obtain⟨m,⟨o,es,ep,ho,r⟩,_⟩:=id I.loc;obtain⟨sl,hL⟩:=u.any ho I.free (by simp);exact I.step (g':=s.gens) (d':=s.drawn) (ch:=[]) (λ_ z=>nomatch z) (λb o _ hb _ e n=>u.keep b o e n hb (by simp)) (λb o _ hb _ e n=>u.slot b o e n hb (by simp)) (λb o _ e n=>u.free b o e n (by simp)) (λb o _ e=>u.there b o e (by simp)) u.tups u.frzs u.tbls (λm' hm=>by
  obtain⟨o',es',ep',ho',r'⟩:=hm;rw[ho] at ho';cases ho';exact⟨_,es',ep',hL,r'⟩) hok I.bare
theorem Inv.call{g':Array GenState}{t':Nat}{d':Drawn}{ch:List Addr}(I:Inv X pins σ H s)(u:Un (jm X.stack) ch H H' s.heap h')(hok:HOk X.prog X.w H' h')(hg:AllBare g')
  (hch:∀b∈ch,(b∈X.ex∨X.s₀.heap.objs.size<=b)/\b≠X.env.locals/\(∀x c,X.env.cells.lookup x=some c->c≠b)/\∀p∈X.pn++pins,p.1≠b):
  Inv X pins σ H' {s with heap:=h',gens:=g',drawn:=d',toks:=t'}:=by
 obtain⟨m,⟨o,es,ep,ho,r⟩,_⟩:=id I.loc;obtain⟨sl,hL⟩:=u.any ho I.free λz=>(hch _ z).2.1 rfl;exact I.step (ch:=ch) hch (λb o hL hb hc e n=>u.keep b o e n (λz=>(aT.mp (I.stkSub b z)).elim hL hb) hc) (λb o _ _ hc e n=>u.any e n hc) (λb o hc e n=>u.free b o e n hc) (λb o hc e=>u.there b o e hc) u.tups u.frzs u.tbls (λm' hm=>by
  obtain⟨o',es',ep',ho',r'⟩:=hm;rw[ho] at ho';cases ho';exact⟨_,es',ep',hL,r'⟩) hok hg
theorem Inv.turned{t':Nat}{it:Addr}(I:Inv X pins σ H s)(k:∀b o,b≠it->s.heap.get? b=some o->h'.get? b=some o)(hn:H it=none)(hL:it≠X.env.locals)
  (h1:it∈X.ex∨X.s₀.heap.objs.size<=it) (h2:∀x c,X.env.cells.lookup x=some c->c≠it) (h3:∀p∈X.pn++pins,p.1≠it):Inv X pins σ H {s with heap:=h',toks:=t'}:=by
 have nit:∀b u,H b=some u->b≠it:=λb u e z=>by rw[z,hn] at e;cases e
 refine I.step (g':=s.gens) (d':=s.drawn) (ch:=[it]) (λb hb=>?_) (λb o _ _ hc e _=>k b o (λz=>hc (by simp[z])) e) (λb o _ _ hc e _=>⟨o.slots,k b o (λz=>hc (by simp[z])) e⟩) (λ_ _ _ _ n=>n)
  (λb o hc e=>⟨o,k b o (λz=>hc (by simp[z])) e⟩) (λ_ _ e=>e) (λ_ _ _ e=>e) (λb ps e=>⟨#[],by rw[e];simp⟩) (λm hm=>?_) (λb u e=>?_) I.bare
 ·have e:b=it:=by simpa using hb
  subst e;exact⟨h1,hL,h2,h3⟩
 ·obtain⟨o,es,ep,ho,r⟩:=hm;exact⟨o,es,ep,k _ o (Ne.symm hL) ho,r⟩
 ·refine (I.hok b u e).stay (λc v hc q=>k c v ?_ q) (λ_ q=>q) λ_ _ q=>q;rcases hc with z | z
  ·rw[z];exact nit b u e
  ·exact nit c _ z
theorem Inv.tok(I:Inv X pins σ H s)(t:Nat):Inv X pins σ H {s with toks:=t}:=I.un (h':=s.heap) (t':=t) Un.refl I.hok
theorem Inv.kept{t':Nat}(I:Inv X pins σ H s)(k:∀b u,s.heap.get? b=some u->h'.get? b=some u):Inv X pins σ H {s with heap:=h',toks:=t'}:=I.un (Un.kept k) (I.hok.kept k)
theorem Inv.laid{a:Addr}{o:HO}{t':Nat}(I:Inv X pins σ H s)(k:∀b u,s.heap.get? b=some u->h'.get? b=some u)(hp:s.heap.objs.size<=a)(new:ObjOk X.prog X.w (upd H a o) h' a o):
  Inv X pins σ (upd H a o) {s with heap:=h',toks:=t'}:=I.un (Un.laid k hp (I.hok.fresh hp)) (I.hok.laid k hp new)
theorem Inv.write{x e:Addr}{o:HO}{t':Nat}(I:Inv X pins σ H s)(mu:qS (H x))(he:e=x∨H e=some (.own x))(k:∀b u,b≠e->s.heap.get? b=some u->h'.get? b=some u)(heo:∃u,h'.get? e=some u)
  (new:ObjOk X.prog X.w (upd H x o) h' x o):Inv X pins σ (upd H x o) {s with heap:=h',toks:=t'}:=I.un (Un.write mu he k heo) (I.hok.write mu he k heo new)
theorem Inv.pins_of{pins':List (Addr×Obj)}(I:Inv X pins σ H s)(h:∀p∈pins',s.heap.get? p.1=some p.2/\H p.1=none/\p.1≠X.env.locals/\p.1∉X.fs/\∀v,p.2.data≠ .cell v):Inv X pins' σ H s:=
 ⟨I.ok,I.os,I.bare,I.base,I.loc,I.cell,I.free,I.freeC,λp hp=>(bY.mp hp).elim (λz=>I.pin p (cD _ z)) (h p),I.hok,I.len⟩
theorem I8{N:List Str}(hN:N.Nodup){i j:Nat}{x:Str}(a:N[i]? =some x)(b:N[j]? =some x):i=j:=by
 obtain⟨h1,e1⟩:=a9.mp a;obtain⟨h2,e2⟩:=a9.mp b;exact (List.getElem_inj hN).mp (e1.trans e2.symm)
theorem Cv{M:Model}{A:Around}{E:Value->Shared->Prop}{i:Nat}{x:Str}{v:V}{u:Value}{Q:Unit->Shared->Prop}(I:Inv X pins σ H s)(hN:X.N.Nodup)(hi:X.N[i]? =some x)(hx:nG X.env.scope x)(r:RelV v u)
  (h:∀s',Inv X pins (σ.set i (some v)) H s'->(∃a,Heap.SameBut a s.heap s'.heap/\(a=X.env.locals∨X.env.cells.lookup x=some a))->Q () s') (hf:X.fn x=true∨X.env.scope.names.lookup x=some .local:=by first | exact .inl rfl | exact .inr rfl | assumption):wpAny M A (storeName X.env x u) Q E s:=by
 obtain⟨m,hn,hl⟩:=id I.loc;have hcls:(X.env.scope.kind== .class||(X.env.scope.kind== .module&&X.env.locals !=X.env.globals))=false:=by rw[I.ok.kind];rfl
 have hiσ:i<σ.length:=by rw[I.len];exact (a9.mp hi).1
 have cne:=I.cne;have tracked:∀{a:Addr} {h':Heap},(∃o,s.heap.get? a=some o/\H a=none)->Heap.SameBut a s.heap h'->HOk X.prog X.w H h':=λ{a h'} ha hs b ob e=>by
  obtain⟨_,_,hfree⟩:=ha;refine (I.hok b ob e).stay (λc w' hc q=>(hs.2 c ?_).trans q) (λ_ q=>q) λ_ _ q=>q;rintro rfl;rcases hc with rfl | hc
  ·rw[hfree] at e;cases e
  ·rw[hfree] at hc;cases hc
 rcases hx with hk | hk
 ·refine wpAny_storeName_local hk hn (λh' hn' hs=>?_) hcls;obtain⟨oL,_,_,hoL,_⟩:=id hn;refine h _ ⟨I.ok,I.os,I.bare,⟨λb o e n hb hx=>?_,λb o e n hb hx=>?_,I.base.free,λb o e hx=>?_,I.base.tups,I.base.frzs,I.base.tbls⟩,⟨_,hn',λj y v' e1 e2 e3=>?_⟩,λy c e=>?_,I.free,I.freeC,λp hp=>?_,tracked ⟨oL,hoL,I.free⟩ hs,by simpa using I.len⟩ ⟨_,hs,.inl rfl⟩
  ·exact (hs.2 b (aW (bC (aR e) I.ok.above))).trans (I.base.keep b o e n hb hx)
  ·obtain⟨sl,e1⟩:=I.base.slot b o e n hb hx;exact⟨sl,(hs.2 b (aW (bC (aR e) I.ok.above))).trans e1⟩
  ·obtain⟨o',e1⟩:=I.base.there b o e hx;exact⟨o',(hs.2 b (aW (bC (aR e) I.ok.above))).trans e1⟩
  ·by_cases hj:j=i
   ·subst hj;rw[hi] at e1;cases e1;rw[List.getElem?_set_self hiσ] at e2;cases e2;exact⟨u,r,.inl ⟨hk,by simp⟩⟩
   ·rw[List.getElem?_set_ne (Ne.symm hj)] at e2;obtain⟨u',r',q⟩:=hl j y v' e1 e2 e3;refine⟨u',r',?_⟩;rcases q with ⟨k,e⟩ | ⟨k,c,e,z⟩
    ·refine .inl ⟨k,?_⟩;have:y≠x:=λe=>hj (I8 hN e1 (e▸hi));simp[this,e]
    ·exact .inr ⟨k,c,e,z.sameBut hs (cne y c e)⟩
  ·obtain⟨w',z⟩:=I.cell y c e;exact⟨w',z.sameBut hs (cne y c e)⟩
  ·obtain⟨e,n,ne,nf,d⟩:=I.pin p hp;exact⟨(hs.2 p.1 ne).trans e,n,ne,nf,d⟩
 ·have hfn:X.fn x=true:=by
   rcases hf with z | z
   ·exact z
   ·rw[z] at hk;cases hk
  obtain⟨c,hc⟩:=I.ok.has x (.inl hk);obtain⟨w',z⟩:=I.cell x c hc;refine wpAny_storeName_cell I.ok.kind hk hc z (λh' hc' hs=>?_);obtain⟨oc,hoc,hocd⟩:=id z;refine h {s with heap:=h'} ⟨I.ok,I.os,I.bare,⟨λb o e n hb hx=>?_,λb o e n hb hx=>?_,I.base.free,λb o e hx=>?_,I.base.tups,I.base.frzs,I.base.tbls⟩,⟨m,hn.sameBut hs (Ne.symm (cne x c hc)),λj y v' e1 e2 e3=>?_⟩,λy c' e=>?_,I.free,I.freeC,λp hp=>?_,tracked ⟨oc,hoc,I.freeC x c hc⟩ hs,by simpa using I.len⟩ ⟨c,hs,.inr hc⟩
  ·exact (hs.2 b (aW (bC (aR e) (I.ok.cab x c hfn hc)))).trans (I.base.keep b o e n hb hx)
  ·obtain⟨sl,e1⟩:=I.base.slot b o e n hb hx;exact⟨sl,(hs.2 b (aW (bC (aR e) (I.ok.cab x c hfn hc)))).trans e1⟩
  ·obtain⟨o',e1⟩:=I.base.there b o e hx;exact⟨o',(hs.2 b (aW (bC (aR e) (I.ok.cab x c hfn hc)))).trans e1⟩
  ·by_cases hj:j=i
   ·subst hj;rw[hi] at e1;cases e1;rw[List.getElem?_set_self hiσ] at e2;cases e2;exact⟨u,r,.inr ⟨.inl hk,c,hc,hc'⟩⟩
   ·rw[List.getElem?_set_ne (Ne.symm hj)] at e2;obtain⟨u',r',q⟩:=hl j y v' e1 e2 e3;refine⟨u',r',?_⟩;rcases q with q | ⟨k,c',e,z'⟩
    ·exact .inl q
    ·refine .inr ⟨k,c',e,z'.sameBut hs ?_⟩;rintro rfl;exact hj (I8 hN e1 (I.ok.inj _ _ _ e hc▸hi))
  ·by_cases hcc:c'=c
   ·subst hcc;exact⟨_,hc'⟩
   ·obtain⟨w2,z2⟩:=I.cell y c' e;exact⟨w2,z2.sameBut hs hcc⟩
  ·obtain⟨e,n,ne,nf,d⟩:=I.pin p hp;refine⟨(hs.2 p.1 ?_).trans e,n,ne,nf,d⟩;intro q;rw[q,hoc] at e;have q':oc=p.2:=a8 e;exact d w' (by rw[←q'];exact hocd)
theorem Eb{M:Model}{A:Around}{E:Value->Shared->Prop}{i:Nat}{x:Str}{v:V}{u:Value}{Q:Unit->Shared->Prop}(I:Inv X pins σ H s)(hN:X.N.Nodup)(hi:X.N[i]? =some x)(hx:nG X.env.scope x)(r:RelV v u)
  (h:∀s',Inv X pins (σ.set i (some v)) H s'->Q () s') (hf:X.fn x=true∨X.env.scope.names.lookup x=some .local:=by first | exact .inl rfl | exact .inr rfl | assumption):wpAny M A (storeName X.env x u) Q E s:=
 Cv I hN hi hx r (λs' I' _=>h s' I') hf
theorem Inv.call'{s':Shared}{ch:List Addr}(I:Inv X pins σ H s)(ho:s'.os=s.os)(u:Un (jm X.stack) ch H H' s.heap s'.heap)(hok:HOk X.prog X.w H' s'.heap)(hg:AllBare s'.gens)
  (hch:∀b∈ch,(b∈X.ex∨X.s₀.heap.objs.size<=b)/\b≠X.env.locals/\(∀x c,X.env.cells.lookup x=some c->c≠b)/\∀p∈X.pn++pins,p.1≠b):Inv X pins σ H' s':=by
 obtain⟨h',g',d',t',o'⟩:=s';have e:o'=s.os:=ho;subst e;exact I.call (g':=g') (t':=t') (d':=d') u hok hg hch
end
noncomputable abbrev XK:=Value->Option Addr->Hp->Prop
noncomputable abbrev St:=List (Option V)
noncomputable abbrev VK:=V->Hp->Prop
noncomputable abbrev TE:=St->Hp->VK->Prop
noncomputable abbrev TT:=St->Hp->(Bool->Hp->Prop)->Prop
noncomputable abbrev TA:=St->Hp->(List V->Hp->Prop)->Prop
structure gC where
 nx:St->Hp->Prop
 rt:VK
 bk:St->Hp->Prop:=λ_ _=>False
 ct:St->Hp->Prop:=λ_ _=>False
noncomputable abbrev TS:=gC->St->Hp->Prop
def EP(X:Cx)(pins:List (Addr×Obj))(σ:St)(Q:VK)(u:Value)(s':Shared):Prop:=∃v H',Inv X pins σ H' s'/\RelV v u/\Q v H'
def TP(X:Cx)(pins:List (Addr×Obj))(σ:St)(Q:Bool->Hp->Prop)(b:Bool)(s':Shared):Prop:=∃H',Inv X pins σ H' s'/\Q b H'
def AP(X:Cx)(pins:List (Addr×Obj))(σ:St)(Q:List V->Hp->Prop)(us:List Value)(s':Shared):Prop:=∃vs H',Inv X pins σ H' s'/\Vals vs us/\Q vs H'
def SP(X:Cx)(pins:List (Addr×Obj))(D:gC)(f:Flow)(s':Shared):Prop:=
 match f with
 |.next=>∃σ' H',Inv X pins σ' H' s'/\D.nx σ' H'
 |.brk=>∃σ' H',Inv X pins σ' H' s'/\D.bk σ' H'
 |.cont=>∃σ' H',Inv X pins σ' H' s'/\D.ct σ' H'
 |.ret u=>∃v σ' H',Inv X pins σ' H' s'/\RelV v u/\D.rt v H'
def PE(X:Cx)(e:Expr)(t:TE):Prop:=
 ∀(pins:List (Addr×Obj)) (s:Shared) (σ:St) (H:Hp) (Q:VK),Inv X pins σ H s->t σ H Q->wpAny (model X.prog X.w) X.A (eval e X.env) (EP X pins σ Q) X.xe s
def PT(X:Cx)(e:Expr)(t:TT):Prop:=
 ∀(pins:List (Addr×Obj)) (s:Shared) (σ:St) (H:Hp) (Q:Bool->Hp->Prop),Inv X pins σ H s->t σ H Q->wpAny (model X.prog X.w) X.A (isTrue e X.env (eval e X.env)) (TP X pins σ Q) X.xe s
def PW(X:Cx)(e:Expr)(t:TT):Prop:=
 ∀(whole:Sem Value) (pins:List (Addr×Obj)) (s:Shared) (σ:St) (H:Hp) (Q:Bool->Hp->Prop),Inv X pins σ H s->t σ H Q->wpAny (model X.prog X.w) X.A (isTrue e X.env whole) (TP X pins σ Q) X.xe s
theorem PW.pt{X:Cx}{e:Expr}{t:TT}(h:PW X e t):PT X e t:=h _
def PA(X:Cx)(es:List Expr)(t:TA):Prop:=
 ∀(pos:Pos) (pins:List (Addr×Obj)) (s:Shared) (σ:St) (H:Hp) (Q:List V->Hp->Prop),Inv X pins σ H s->t σ H Q->wpAny (model X.prog X.w) X.A (spliced (backTo pos (starEach es X.env))) (AP X pins σ Q) X.xe s
def PS(X:Cx)(st:Stmt)(t:TS):Prop:=
 ∀(pins:List (Addr×Obj)) (s:Shared) (σ:St) (H:Hp) (D:gC),Inv X pins σ H s->t D σ H->wpAny (model X.prog X.w) X.A (exec st X.env) (SP X pins D) X.xe s
def PSs(X:Cx)(st:List Stmt)(t:TS):Prop:=
 ∀(pins:List (Addr×Obj)) (s:Shared) (σ:St) (H:Hp) (D:gC),Inv X pins σ H s->t D σ H->wpAny (model X.prog X.w) X.A (execs st X.env) (SP X pins D) X.xe s
theorem fg{α:Type}{t:Sem α}{Q Q':α->Shared->Prop}{M:Model}{A:Around}{E:Value->Shared->Prop}{s:Shared}(h:wpAny M A t Q E s)(hQ:∀a s,Q a s->Q' a s):wpAny M A t Q' E s:=dU h hQ λ_ _ x=>x
section
variable{X:Cx}
inductive QU (i:Nat) (σ:St) (H:Hp) (Q:VK):Prop
 |mk (v:V) (e:σ[i]? =some (some v)) (r:Q v H)
def uA(i:Nat):TE:=QU i
def tC(v:V):TE:=λ_ H Q=>Q v H
theorem CO{i:Nat}{x:Str}{pos:Pos}(hN:X.N[i]? =some x)(hv:qL X.env.scope x)(hd:(x==("__debug__":Str))=false:=by decide)(hcd:(x==("__classdict__":Str))=false:=by decide):PE X (.Name x pos) (uA i):=by
 intro pins s σ H Q I h;obtain⟨v,e,h⟩:=h;obtain⟨m,hn,hl⟩:=I.loc;obtain⟨u,r,l⟩:=hl i x v hN e hv;have fB:EP X pins σ Q u s:=⟨v,H,I,r,h⟩;rcases l with ⟨hk,hm⟩ | ⟨hk,c,hc,hcell⟩
 ·exact wpAny_Name (wpAny_loadName_local I.ok.kind hk hn hm fB) hd
 ·rcases hk with hk | hk
  ·exact wpAny_Name (wpAny_loadName_cell I.ok.kind hk hc hcell fB) hd
  ·exact wpAny_Name (wpAny_loadName_free I.ok.kind hk hc hcell fB hcd) hd
theorem Ig{i j pos}:PE X (.Constant (.int i) j pos) (tC (.int i)):=λ_ _ _ H _ I h=>wpAny_Constant_int ⟨.int i,H,I.tok _,⟨()⟩,h⟩
theorem Qe{b j pos}:PE X (.Constant (.bool b) j pos) (tC (.bl b)):=λ_ _ _ H _ I h=>Constant_bool ⟨.bl b,H,I,rfl,h⟩
theorem UW{j pos}:PE X (.Constant .none j pos) (tC .non):=λ_ _ _ H _ I h=>Constant_none ⟨.non,H,I,rfl,h⟩
theorem WB{x j pos}:PE X (.Constant (.str x) j pos) (tC (.str x)):=λ_ _ _ H _ I h=>Calls.Constant_str ⟨.str x,H,I.tok _,⟨()⟩,h⟩
def Gl(X:Cx)(x:Str):Prop:=X.env.kindOf x=some .globalImplicit
theorem mC{E:Value->Shared->Prop}{pins:List (Addr×Obj)}{s:Shared}{σ:St}{H:Hp}{x:Str}{u:Value}{pos:Pos}{Q:Value->Shared->Prop}(I:Inv X pins σ H s)(hg:Gl X x)(hm:X.mg x=some u)(h:Q u s)
  (hd:(x==("__debug__":Str))=false:=by decide):wpAny (model X.prog X.w) X.A (eval (.Name x pos) X.env) Q E s:=
 Calls.Name_function_global I.ok.kind hg (Calls.loadGlobal_global (by rw[I.ok.glob];exact I.mod.glob.keeps I.bk) hm h) hd
theorem mh{E:Value->Shared->Prop}{pins:List (Addr×Obj)}{s:Shared}{σ:St}{H:Hp}{x:Str}{u:Value}{pos:Pos}{Q:Value->Shared->Prop}(I:Inv X pins σ H s)(hg:Gl X x)(hm:X.mg x=none)(hv:bootBuiltins x=some u)(h:Q u s)
  (hn:x≠"__name__":=by decide) (hd:(x==("__debug__":Str))=false:=by decide):wpAny (model X.prog X.w) X.A (eval (.Name x pos) X.env) Q E s:=by
 obtain⟨mb,h1,h2⟩:=I.mod.blt;exact Calls.Name_function_global I.ok.kind hg (Calls.loadGlobal_builtin (by rw[I.ok.glob];exact I.mod.glob.keeps I.bk) hm (by rw[I.ok.blt];exact h1.keeps I.bk) ((h2 x hn).trans hv) h) hd
theorem SN{x:Str}{v:V}{u:Value}{pos:Pos}(hg:Gl X x)(hm:X.mg x=some u)(r:RelV v u)(hd:(x==("__debug__":Str))=false:=by decide):PE X (.Name x pos) (tC v):=
 λ_ _ _ H _ I h=>mC I hg hm ⟨v,H,I,r,h⟩ hd
theorem Vo{x:Str}{v:V}{u:Value}{pos:Pos}(hg:Gl X x)(hm:X.mg x=none)(hv:bootBuiltins x=some u)(r:RelV v u)(hn:x≠"__name__":=by decide)(hd:(x==("__debug__":Str))=false:=by decide):PE X (.Name x pos) (tC v):=
 λ_ _ _ H _ I h=>mh I hg hm hv ⟨v,H,I,r,h⟩ hn hd
variable{a b:Expr}{ta tb:TE}{pos:Pos}
inductive oW (x:V) (H:Hp) (Q:Bool->Hp->Prop):Prop
 |mk (c:Bool) (e:x=.bl c) (r:Q c H)
def tB(t:TE):TT:=λσ H Q=>t σ H λx H1=>oW x H1 Q
theorem XQ{e:Expr}{t:TE}(h:PE X e t)(he:∀whole,isTrue e X.env whole=(do let v ←whole;standAt e.pos;holding [v] (truthy v)):=by intro _;rfl):PT X e (tB t):=by
 intro pins s σ H Q I hw;refine isTrue_plain (fg (h pins s σ H _ I hw) λv s1 ⟨x,H1,I1,r1,q1⟩=>?_) (he _);obtain⟨d,rfl,q⟩:=q1;cases r1;exact eA ⟨H1,I1,q⟩
variable{tA tB':TT}{rest:List Expr}
def Et(t u:TT):TT:=λσ H Q=>t σ H λc H1=>if c=true then u σ H1 Q else Q false H1
def Cy(t u:TT):TT:=λσ H Q=>t σ H λc H1=>if c=true then Q true H1 else u σ H1 Q
def Cc(t:TT):TT:=λσ H Q=>t σ H λc H1=>Q (!c) H1
theorem VI(ha:PT X a tA):PW X (.BoolOp .And [a] pos) tA:=by
 intro wh pins s σ H Q I h;refine isTrue_and (fg (ha pins s σ H Q I h) λc s1 e=>?_);cases c with
 |true=>exact isTrue_and_nil e
 |false=>exact e
theorem NR(ha:PT X a tA):PW X (.BoolOp .Or [a] pos) tA:=by
 intro wh pins s σ H Q I h;refine isTrue_or (fg (ha pins s σ H Q I h) λc s1 e=>?_);cases c with
 |false=>exact isTrue_or_nil e
 |true=>exact e
theorem Wg(ha:PT X a tA)(hb:PW X (.BoolOp .And (b::rest) pos) tB'):PW X (.BoolOp .And (a::b::rest) pos) (Et tA tB'):=by
 intro wh pins s σ H Q I h;refine isTrue_and (fg (ha pins s σ H _ I h) λc s1 ⟨H1,I1,q1⟩=>?_);cases c with
 |true=>exact hb wh pins s1 σ H1 Q I1 q1
 |false=>exact⟨H1,I1,q1⟩
theorem Sr(ha:PT X a tA)(hb:PW X (.BoolOp .Or (b::rest) pos) tB'):PW X (.BoolOp .Or (a::b::rest) pos) (Cy tA tB'):=by
 intro wh pins s σ H Q I h;refine isTrue_or (fg (ha pins s σ H _ I h) λc s1 ⟨H1,I1,q1⟩=>?_);cases c with
 |true=>exact⟨H1,I1,q1⟩
 |false=>exact hb wh pins s1 σ H1 Q I1 q1
theorem Xn(ha:PT X a tA):PT X (.UnaryOp .Not a pos) (Cc tA):=by
 intro pins s σ H Q I h;exact isTrue_not (ha pins s σ H (λc H1=>Q (!c) H1) I h)
def DF(ta tb:TE):TE:=λσ H Q=>ta σ H λx H1=>oW x H1 λc H1=>if c=true then tb σ H1 Q else Q (.bl false) H1
def Gf(ta tb:TE):TE:=λσ H Q=>ta σ H λx H1=>oW x H1 λc H1=>if c=true then Q (.bl true) H1 else tb σ H1 Q
def G6(ta:TE):TE:=λσ H Q=>ta σ H λx H1=>oW x H1 λc H1=>Q (.bl (!c)) H1
theorem Wy{op}{t:TE}(h:PE X a t):PE X (.BoolOp op [a] pos) t:=λpins s σ H Q I hw=>BoolOp_one (h pins s σ H Q I hw)
theorem Q5(ha:PE X a ta)(hb:PE X (.BoolOp .And (b::rest) pos) tb):PE X (.BoolOp .And (a::b::rest) pos) (DF ta tb):=by
 intro pins s σ H Q I h;refine BoolOp_and (fg (ha pins s σ H _ I h) λv s1 ⟨x,H1,I1,r1,q1⟩=>?_);obtain⟨c,rfl,q1⟩:=q1;cases r1;refine eA ?_;cases c with
 |true=>exact hb pins s1 σ H1 Q I1 q1
 |false=>exact⟨.bl false,H1,I1,rfl,q1⟩
theorem RV(ha:PE X a ta)(hb:PE X (.BoolOp .Or (b::rest) pos) tb):PE X (.BoolOp .Or (a::b::rest) pos) (Gf ta tb):=by
 intro pins s σ H Q I h;refine BoolOp_or (fg (ha pins s σ H _ I h) λv s1 ⟨x,H1,I1,r1,q1⟩=>?_);obtain⟨c,rfl,q1⟩:=q1;cases r1;refine eA ?_;cases c with
 |false=>exact hb pins s1 σ H1 Q I1 q1
 |true=>exact⟨.bl true,H1,I1,rfl,q1⟩
theorem NL(ha:PE X a ta):PE X (.UnaryOp .Not a pos) (G6 ta):=by
 intro pins s σ H Q I h;refine UnaryOp_ (fg (ha pins s σ H _ I h) λv s1 ⟨x,H1,I1,r1,q1⟩=>?_);obtain⟨c,rfl,q1⟩:=q1;cases r1;exact not_of (eA ⟨.bl (!c),H1,I1,rfl,q1⟩)
def zo(t:TT)(ta tb:TE):TE:=λσ H Q=>t σ H λc H1=>if c=true then ta σ H1 Q else tb σ H1 Q
theorem NC{c:Expr}(hc:PT X c tA)(ha:PE X a ta)(hb:PE X b tb):PE X (.IfExp c a b pos) (zo tA ta tb):=by
 intro pins s σ H Q I h;refine wpAny_IfExp (fg (hc pins s σ H _ I h) λd s1 ⟨H1,I1,q1⟩=>?_);cases d with
 |true=>exact ha pins s1 σ H1 Q I1 q1
 |false=>exact hb pins s1 σ H1 Q I1 q1
end
def SqL(K:FG)(H:Hp)(a:Addr)(xs:List V):Prop:=
 Rd H a (.lst xs)∨
  ∃(o:Obj) (its:Array Value) (n:Nat),K.lookup a=some o/\o.cls=.type "list"/\o.dict=none/\o.data=.seq its n/\its.size<=sizeLine/\Vals xs its.toList
def SqT(K:FG)(H:Hp)(a:Addr)(xs:List V):Prop:=
 Rd H a (.tup xs)∨
  ∃(o:Obj) (its:Array Value) (n:Nat),K.lookup a=some o/\o.cls=.type "tuple"/\o.data=.seq its n/\its.size<=sizeLine/\Vals xs its.toList
noncomputable def uH:Value->Option V
 |.none=>some .non
 |.bool b=>some (.bl b)
 |.int i _=>some (.int i)
 |.str x _=>some (.str x)
 |.bytes b _=>some (.byt b)
 |.float b _=>some (.flt b)
 |.ref a=>some (.ref a)
 |.type n=>some (.ty n)
 |_=>none
theorem RelV.abs{x:V}{u:Value}(r:RelV x u):uH u=some x:=by
 cases x with
 |non=>cases r;rfl
 |bl _=>cases r;rfl
 |int _=>obtain⟨t,rfl⟩:=r;rfl
 |str _=>obtain⟨t,rfl⟩:=r;rfl
 |byt _=>obtain⟨t,rfl⟩:=r;rfl
 |flt _=>obtain⟨t,rfl⟩:=r;rfl
 |ref _=>cases r;rfl
 |ty _=>cases r;rfl
theorem RelV.inj{x y:V}{u:Value}(r:RelV x u)(q:RelV y u):x=y:=a8 (r.abs.symm.trans q.abs)
theorem Vals.inj:∀{xs ys:List V} {us:List Value},Vals xs us->Vals ys us->xs=ys
 |_,_,_,.nil,.nil=>rfl
 |_,_,_,.cons r t,.cons r' t'=>by rw[r.inj r',Vals.inj t t']
section
variable{X:Cx}{pins:List (Addr×Obj)}{σ:St}{H:Hp}{s:Shared}{a:Addr}{xs ys:List V}
theorem SqL.of{K:FG}(h:H a=some (.lst xs)):SqL K H a xs:=.inl (.inl h)
theorem SqT.of{K:FG}(h:H a=some (.tup xs)):SqT K H a xs:=.inl (.inl h)
theorem Inv.list(I:Inv X pins σ H s)(h:SqL X.K H a xs):∃its:List Value,Vals xs its/\PlainL s.heap a its.toArray/\xs.length<=sizeLine:=by
 rcases h with h | ⟨o,its,n,hk,hc,hd,hs,hz,r⟩
 ·obtain⟨z,its,n,r,e⟩:=h.ok I.hok;exact⟨its,r,⟨_,n,e,rfl,rfl,rfl⟩,z⟩
 ·refine⟨its.toList,r,⟨o,n,I.kIn a o hk,hc,hd,by simpa using hs⟩,?_⟩;have e:=r.length;simp only[cQ] at e;omega
theorem Inv.tuple(I:Inv X pins σ H s)(h:SqT X.K H a xs):∃its:List Value,Vals xs its/\IsTup s.heap a its.toArray/\xs.length<=sizeLine:=by
 rcases h with h | ⟨o,its,n,hk,hc,hs,hz,r⟩
 ·obtain⟨z,its,r,p⟩:=h.ok I.hok;exact⟨its,r,p,z⟩
 ·refine⟨its.toList,r,⟨o,I.kIn a o hk,hc,n,by simpa using hs⟩,?_⟩;have e:=r.length;simp only[cQ] at e;omega
theorem Inv.list_inj(I:Inv X pins σ H s)(h:SqL X.K H a xs)(h':SqL X.K H a ys):xs=ys:=by
 obtain⟨its,r,⟨o,n,e,_,_,d⟩,_⟩:=I.list h;obtain⟨its',r',⟨o',n',e',_,_,d'⟩,_⟩:=I.list h';rw[e] at e';cases e';rw[d] at d';injection d' with d1 _;have:its=its':=by simpa using congrArg Array.toList d1
 subst this;exact r.inj r'
theorem Inv.tuple_inj(I:Inv X pins σ H s)(h:SqT X.K H a xs)(h':SqT X.K H a ys):xs=ys:=by
 obtain⟨its,r,⟨o,e,_,n,d⟩,_⟩:=I.tuple h;obtain⟨its',r',⟨o',e',_,n',d'⟩,_⟩:=I.tuple h';rw[e] at e';cases e';rw[d] at d';injection d' with d1 _;have:its=its':=by simpa using congrArg Array.toList d1
 subst this;exact r.inj r'
end
noncomputable abbrev Cx.wish(X:Cx)(E:Value->Shared->Prop):Cx:={X with xe:=E}
noncomputable abbrev Cx.nox(X:Cx):Cx:=X.wish λ_ _=>False
theorem Cx.Ok.wish{X:Cx}(ok:X.Ok)(E:Value->Shared->Prop):(X.wish E).Ok:=
 ⟨ok.mod,ok.kind,ok.glob,ok.blt,ok.above,ok.inj,ok.has,ok.cab,ok.hd,ok.frames,ok.stk,ok.exf,ok.bs,ok.bsz,ok.noex,ok.exfs,ok.funs,ok.frf⟩
theorem Cx.Ok.unwish{X:Cx}{E:Value->Shared->Prop}(ok:(X.wish E).Ok):X.Ok:=
 ⟨ok.mod,ok.kind,ok.glob,ok.blt,ok.above,ok.inj,ok.has,ok.cab,ok.hd,ok.frames,ok.stk,ok.exf,ok.bs,ok.bsz,ok.noex,ok.exfs,ok.funs,ok.frf⟩
section
variable{X:Cx}{pins:List (Addr×Obj)}{σ:St}{H:Hp}{s:Shared}{E:Value->Shared->Prop}
theorem Inv.wish(I:Inv X pins σ H s)(E:Value->Shared->Prop):Inv (X.wish E) pins σ H s:=⟨I.ok.wish E,I.os,I.bare,I.base,I.loc,I.cell,I.free,I.freeC,I.pin,I.hok,I.len⟩
theorem Inv.unwish(I:Inv (X.wish E) pins σ H s):Inv X pins σ H s:=⟨I.ok.unwish,I.os,I.bare,I.base,I.loc,I.cell,I.free,I.freeC,I.pin,I.hok,I.len⟩
theorem SP.unwish{D:gC}{f:Flow}{s':Shared}(h:SP (X.wish E) pins D f s'):SP X pins D f s':=by
 cases f with
 |next=>obtain⟨σ',H',I,q⟩:=h;exact⟨σ',H',I.unwish,q⟩
 |brk=>obtain⟨σ',H',I,q⟩:=h;exact⟨σ',H',I.unwish,q⟩
 |cont=>obtain⟨σ',H',I,q⟩:=h;exact⟨σ',H',I.unwish,q⟩
 |ret u=>obtain⟨v,σ',H',I,r,q⟩:=h;exact⟨v,σ',H',I.unwish,r,q⟩
theorem PSs.nox{st:List Stmt}{t:TS}(h:PSs X.nox st t):PSs X st t:=λpins s σ H D I hw=>
 dU (h pins s σ H D (I.wish _) hw) (λ_ _ q=>q.unwish) λ_ _ z=>False.elim z
end
section
variable{X:Cx}{st:Stmt}{rest:List Stmt}{t u:TS}{e:Expr}{te:TE}{pos:Pos}
def Kf:TS:=λD σ H=>D.nx σ H
def uP(t u:TS):TS:=λD σ H=>t {D with nx:=u D} σ H
theorem Oh:PSs X [] Kf:=λ_ _ σ H _ I h=>wpAny_execs_nil ⟨σ,H,I,h⟩
theorem VV(h1:PS X st t)(h2:PSs X rest u):PSs X (st::rest) (uP t u):=by
 intro pins s σ H D I h;refine wpAny_execs_cons (fg (h1 pins s σ H {D with nx:=u D} I h) λf s1 q=>?_);cases f with
 |next=>
  obtain⟨σ',H',I',q⟩:=q;exact h2 pins s1 σ' H' D I' q
 |ret v=>exact q
 |brk=>exact q
 |cont=>exact q
theorem Rg(h1:PS X st t):PSs X [st] t:=by
 intro pins s σ H D I h;refine wpAny_execs_cons (fg (h1 pins s σ H D I h) λf s1 q=>?_);cases f with
 |next=>exact wpAny_execs_nil q
 |ret v=>exact q
 |brk=>exact q
 |cont=>exact q
theorem Inv.quiet{pins:List (Addr×Obj)}{σ:St}{H:Hp}{s:Shared}(I:Inv X pins σ H s):interactive X.env=false:=by simp[interactive,I.ok.kind]
def E5(te:TE):TS:=λD σ H=>te σ H λ_ H1=>D.nx σ H1
theorem SX(he:PE X e te)(hs:swapsWith e none pos.line X.env=pure false:=by rfl):PS X (.Expr e pos) (E5 te):=by
 intro pins s σ H D I h;exact wpAny_Expr_any (fg (he pins s σ H _ I h) λv s1 ⟨x,H1,I1,r1,q1⟩=>⟨σ,H1,I1,q1⟩) I.quiet hs
def IY(te:TE):TS:=λD σ H=>te σ H D.rt
theorem Rc(he:PE X e te):PS X (.Return (some e) pos) (IY te):=by
 intro pins s σ H D I h;exact wpAny_Return_some (fg (he pins s σ H _ I h) λv s1 ⟨x,H1,I1,r1,q1⟩=>⟨x,σ,H1,I1,r1,q1⟩)
def L8(c:TT)(t u:TS):TS:=λD σ H=>c σ H λb H1=>if b=true then t D σ H1 else u D σ H1
theorem NH{c:Expr}{a b:List Stmt}{tc:TT}(hc:PT X c tc)(ha:PSs X a t)(hb:PSs X b u):PS X (.If c a b pos) (L8 tc t u):=by
 intro pins s σ H D I h;refine wpAny_If (fg (hc pins s σ H _ I h) λd s1 ⟨H1,I1,q1⟩=>?_);cases d with
 |true=>exact ha pins s1 σ H1 D I1 q1
 |false=>exact hb pins s1 σ H1 D I1 q1
def Me:TS:=λ_ _ _=>False
theorem SC:PS X st Me:=λ_ _ _ _ _ _ h=>h.elim
end
noncomputable abbrev TG:=V->St->Hp->(St->Hp->Prop)->Prop
noncomputable abbrev iV:=List V->St->Hp->(St->Hp->Prop)->Prop
def PG(X:Cx)(target:Expr)(t:TG):Prop:=
 ∀(pins:List (Addr×Obj)) (s:Shared) (σ:St) (H:Hp) (v:V) (u:Value) (Q:St->Hp->Prop),Inv X pins σ H s->RelV v u->t v σ H Q->
  wpAny (model X.prog X.w) X.A (assign target X.env u) (λ_ s'=>∃σ' H',Inv X pins σ' H' s'/\Q σ' H') X.xe s
def ot(X:Cx)(ts:List Expr)(t:iV):Prop:=
 ∀(pins:List (Addr×Obj)) (s:Shared) (σ:St) (H:Hp) (vs:List V) (us:List Value) (Q:St->Hp->Prop),Inv X pins σ H s->Vals vs us->t vs σ H Q->
  wpAny (model X.prog X.w) X.A (assignInOrder ((assignEach ts X.env).map (·.2)) us) (λ_ s'=>∃σ' H',Inv X pins σ' H' s'/\Q σ' H') X.xe s
section
variable{X:Cx}{pos:Pos}
def jG(i:Nat):TG:=λv σ H Q=>Q (σ.set i (some v)) H
theorem Kh{i:Nat}{x:Str}(hN:X.N.Nodup)(hi:X.N[i]? =some x)(hx:nG X.env.scope x)(hf:X.fn x=true∨X.env.scope.names.lookup x=some .local:=by first | exact .inl rfl | exact .inr rfl | assumption):PG X (.Name x pos) (jG i):=by
 intro pins s σ H v u Q I r h;exact wpAny_assign_Name (Eb I hN hi hx r (λs' I'=>⟨_,H,I',h⟩) hf)
inductive XN (vs:List V) (σ:St) (H:Hp) (Q:St->Hp->Prop):Prop
 |mk (e:vs=[]) (r:Q σ H)
def uC:iV:=XN
inductive Vh (t:TG) (u:iV) (vs:List V) (σ:St) (H:Hp) (Q:St->Hp->Prop):Prop
 |mk (v:V) (r:List V) (e:vs=v::r) (h:t v σ H λσ' H'=>u r σ' H' Q)
def qK(t:TG)(u:iV):iV:=Vh t u
theorem Pw:ot X [] uC:=by
 intro pins s σ H vs us Q I r h;obtain⟨e,h⟩:=h;subst e;cases r;exact assignInOrder_nil ⟨σ,H,I,h⟩
theorem Tp{e:Expr}{es:List Expr}{t:TG}{u:iV}(h1:PG X e t)(h2:ot X es u)
  (hs:(assignEach (e::es) X.env).map (·.2)=assign e X.env::(assignEach es X.env).map (·.2):=by rfl):ot X (e::es) (qK t u):=by
 intro pins s σ H vs us Q I r h;obtain⟨v,vr,e1,h⟩:=h;subst e1;cases r with
 |cons r rr=>
  rw[hs];refine assignInOrder_cons (fg (h1 pins s σ H _ _ _ I r h) λ_ s1 ⟨σ1,H1,I1,q1⟩=>?_);exact h2 pins s1 σ1 H1 _ _ Q I1 rr q1
inductive R1 (K:FG) (n:Nat) (t:iV) (v:V) (σ:St) (H:Hp) (Q:St->Hp->Prop):Prop
 |mk (a:Addr) (xs:List V) (e:v=.ref a) (s:SqT K H a xs) (l:xs.length=n) (r:t xs σ H Q)
def pR(K:FG)(n:Nat)(t:iV):TG:=R1 K n t
theorem M1{es:List Expr}{k:Nat}{t:iV}{n:Nat}(hc:X.calm=true)(h:ot X es t)
  (hn:(assignEach es X.env).length=n:=by rfl) (hst:(assignEach es X.env).findIdx? (·.1)=none:=by rfl):PG X (.Tuple es k pos) (pR X.K n t):=by
 intro pins s σ H v u Q I r hw;obtain⟨a,xs,e1,hq,hl,hw⟩:=hw;subst e1;cases r;obtain⟨its,rv,ht,hz⟩:=I.tuple hq;refine assign_Tuple_tuple (I.ok.hd hc) ht (by simp[hn,←hl,rv.length]) hst λh' hx=>?_;have I1:Inv X pins σ H {s with heap:=h'}:=I.kept (t':=s.toks) λb o e=>hx b o (aW (aR e)) e;exact h pins _ σ H xs _ Q I1 (by simpa using rv) hw
def oH(te:TE)(g:TG):TS:=λD σ H=>te σ H λx H1=>g x σ H1 D.nx
theorem VA{tg e:Expr}{te:TE}{g:TG}(he:PE X e te)(hg:PG X tg g)(hs:swapsWithSole [tg] e pos.line X.env=pure false:=by rfl)(hw:swappedStores [tg] e X.env=pure none:=by rfl)
  (h1:(assignEach [tg] X.env).map (·.2)=[assign tg X.env]:=by rfl):PS X (.Assign [tg] e pos) (oH te g):=by
 intro pins s σ H D I h;refine wpAny_Assign_stores (fg (he pins s σ H _ I h) λv s1 ⟨x,H1,I1,r1,q1⟩=>?_) hs hw;rw[h1];exact fg (hg pins s1 σ H1 x v _ I1 r1 q1) λ_ s2 q=>q
theorem Se{i:Nat}{x:Str}{e:Expr}{te:TE}{pos':Pos}(hN:X.N.Nodup)(hi:X.N[i]? =some x)(hx:nG X.env.scope x)(he:PE X e te)(hs:swapsWith e (some (.Name x pos')) pos.line X.env=pure false:=by rfl)(hf:X.fn x=true∨X.env.scope.names.lookup x=some .local:=by first | exact .inl rfl | exact .inr rfl | assumption):
  PS X (.Assign [.Name x pos'] e pos) (oH te (jG i)):=by
 intro pins s σ H D I h;refine wpAny_Assign_Name (fg (he pins s σ H _ I h) λv s1 ⟨y,H1,I1,r1,q1⟩=>?_) hs;exact Eb I1 hN hi hx r1 (λs2 I2=>⟨_,H1,I2,q1⟩) hf
def u5(c:TT)(tb:TS):TS:=λD σ H=>∃W:Nat->St->Hp->Prop,(∃m,W m σ H)/\∀m σ H,W m σ H->
 c σ H λb H1=>if b=true then ∃N:St->Hp->Prop,(∀σ' H',N σ' H'->∃m',m'<m/\W m' σ' H')/\tb {D with nx:=N,ct:=N,bk:=D.nx} σ H1 else D.nx σ H1
theorem VQ{c:Expr}{body:List Stmt}{tc:TT}{tb:TS}(hp:PassesOwn (model X.prog X.w) X.A X.env X.xe)(hc:PT X c tc)(hb:PSs X body tb):PS X (.While c body [] pos) (u5 tc tb):=by
 intro pins s σ H D I h;obtain⟨W,⟨m0,w0⟩,turn⟩:=h;refine wpAny_While (codeAny_whileLoop (λn s'=>∃σ' H',Inv X pins σ' H' s'/\W n σ' H') ?_ m0 ⟨σ,H,I,w0⟩);rintro n s1 ⟨σ1,H1,I1,w1⟩;refine dP hp (fg (hc pins s1 σ1 H1 _ I1 (turn n σ1 H1 w1)) λb s2 ⟨H2,I2,q2⟩=>?_);cases b with
 |true=>
  obtain⟨N,hN,q2⟩:=q2;rw[if_pos rfl];refine dP hp (fg (hb pins s2 σ1 H2 _ I2 q2) λf s3 q3=>?_);cases f with
  |next=>
   obtain⟨σ3,H3,I3,n3⟩:=q3;obtain⟨m',hm,w3⟩:=hN σ3 H3 n3;exact⟨m',hm,σ3,H3,I3,w3⟩
  |cont=>
   obtain⟨σ3,H3,I3,n3⟩:=q3;obtain⟨m',hm,w3⟩:=hN σ3 H3 n3;exact⟨m',hm,σ3,H3,I3,w3⟩
  |brk=>exact q3
  |ret v=>exact q3
 |false=>
  rw[if_neg bA];exact wpAny_execs_nil ⟨σ1,H2,I2,q2⟩
end
structure It where
 go:Nat->Hp->Prop
 yld:Nat->Hp->V->Hp->Prop
 stop:Nat->Hp->Prop
def jo(X:Cx)(pins:List (Addr×Obj))(H:Hp)(b:Addr):Prop:=
 H b=none/\b≠X.env.locals/\b∉X.fs/\(b∈X.ex∨X.s₀.heap.objs.size<=b)/\(∀x c,X.env.cells.lookup x=some c->c≠b)/\∀p∈X.pn++pins,p.1≠b
theorem Inv.fpOk{X:Cx}{pins:List (Addr×Obj)}{σ:St}{H H':Hp}{s:Shared}{b:Addr}(I:Inv X pins σ H s)(hb:s.heap.objs.size<=b)(hn:H' b=none):jo X pins H' b:=by
 refine⟨hn,Nat.ne_of_gt (bC I.lt hb),I.nofs hb,.inr (bK I.sz hb),λx c e z=>?_,λp hp z=>?_⟩
 ·obtain⟨v,q⟩:=I.cell x c e;exact absurd (bC q.lt (by rw[z];exact hb)) (cC _)
 ·exact absurd (bC (aR (I.pin p hp).1) (by rw[z];exact hb)) (cC _)
structure ij(P:Program)(w:World)(K:FG)(tg:Expr)(J:It)(fp:List Addr)(it:Addr)(tn:Nat->Heap->Prop):Prop where
 mem:it∈fp
 obj:∀i h,tn i h->∀b∈fp,∃o,h.get? b=some o/\∀v,o.data≠ .cell v
 keep:∀i h h',tn i h->(∀b∈fp,∀o,h.get? b=some o->h'.get? b=some o)->tn i h'
 item:∀(X:Cx),X.prog=P->X.w=w->X.K=K->X.calm=true->∀(i:Nat) (pins:List (Addr×Obj)) (s:Shared) (σ:St) (H:Hp) (E:Value->Shared->Prop),Inv X pins σ H s->(∀b∈fp,jo X pins H b)->tn i s.heap->J.go i H->
  wpAny (model P w) X.A (pyNext (.ref it)) (λr s1=>∃u,r=some u/\
   wpAny (model P w) X.A (letOwnedTupleGo tg (.ref it) u) (λ_ s2=>∃x H',Inv X pins σ H' s2/\RelV x u/\J.yld i H x H'/\tn (i+1) s2.heap/\∀b∈fp,H' b=none) E s1) E s
 done:∀(X:Cx),X.prog=P->X.w=w->X.K=K->X.calm=true->∀(i:Nat) (pins:List (Addr×Obj)) (s:Shared) (σ:St) (H:Hp) (E:Value->Shared->Prop),Inv X pins σ H s->(∀b∈fp,jo X pins H b)->tn i s.heap->J.stop i H->
  wpAny (model P w) X.A (pyNext (.ref it)) (λr s1=>r=none/\Inv X pins σ H s1) E s
 self:∀(A:Around) (i:Nat) (s:Shared) (Q:Value->Shared->Prop) (E:Value->Shared->Prop),tn i s.heap->Q (.ref it) s->wpAny (model P w) A (pyIter (.ref it)) Q E s
noncomputable abbrev TI:=St->Hp->(It->Hp->Prop)->Prop
def DI(X:Cx)(pins:List (Addr×Obj))(σ:St)(tg:Expr)(R:It->Hp->Prop)(itv:Value)(s2:Shared):Prop:=
 ∃(it:Addr) (fp:List Addr) (tn:Nat->Heap->Prop) (J:It) (H':Hp),itv=.ref it/\Inv X pins σ H' s2/\ij X.prog X.w X.K tg J fp it tn/\tn 0 s2.heap/\(∀b∈fp,jo X pins H' b)/\R J H'
def PI(X:Cx)(tg iter:Expr)(wi:TI):Prop:=
 ∀(pins:List (Addr×Obj)) (s:Shared) (σ:St) (H:Hp) (R:It->Hp->Prop),Inv X pins σ H s->wi σ H R->
  wpAny (model X.prog X.w) X.A (eval iter X.env) (λv s1=>wpAny (model X.prog X.w) X.A (pyIter v) (DI X pins σ tg R) X.xe s1) X.xe s
theorem oz{M:Model}{A:Around}{E:Value->Shared->Prop}{s:Shared}{tg:Expr}{it:Addr}{u:Value}{o:Obj}{n:String}{vs:Array Value}{Q:Unit->Shared->Prop}(ho:s.heap.get? it=some o)(hc:o.cls=.type n)(hd:o.data=.fields vs)
  (hn:["enumerate","zip","dict_itemiterator","dict_reverseitemiterator","odict_iterator","itertools.zip_longest","itertools.pairwise"].contains n=false) (hQ:Q () s):wpAny M A (letOwnedTupleGo tg (.ref it) u) Q E s:=by
 unfold letOwnedTupleGo;cases tg<;>first
  |exact d9 hQ
  |(cases u<;>first
    |exact d9 hQ
    |(refine dR (wpAny_load ho ?_)
      rw[hc,hd];show wpAny M A (if (["enumerate","zip","dict_itemiterator","dict_reverseitemiterator","odict_iterator","itertools.zip_longest","itertools.pairwise"].contains n&&vs[0]? ==some (rawInt _))=true then _ else _) Q E s;rw[if_neg (by intro h;rw[hn,Bool.false_and] at h;cases h)];exact d9 hQ))
noncomputable def mR(K:FG)(a:Addr):It:=
 ⟨λi H=>∃xs x,SqL K H a xs/\xs[i]? =some x,λi H x H'=>H'=H/\∀xs,SqL K H a xs->xs[i]? =some x,λi H=>∃xs,SqL K H a xs/\xs.length<=i⟩
noncomputable def pD(K:FG)(a:Addr):It:=
 ⟨λi H=>∃xs x,SqT K H a xs/\xs[i]? =some x,λi H x H'=>H'=H/\∀xs,SqT K H a xs->xs[i]? =some x,λi H=>∃xs,SqT K H a xs/\xs.length<=i⟩
noncomputable def ki(lo:Int)(n:Nat):It:=⟨λi _=>i<n,λi H x H'=>H'=H/\x=.int (lo+i),λi _=>n<=i⟩
theorem RY{P:Program}{w:World}{K:FG}{tg:Expr}(a it:Addr):ij P w K tg (mR K a) [it] it (λi h=>h.IsListIter it a i) where
 mem:=by simp
 obj:=λi h st b hb=>by
  have e:b=it:=by simpa using hb
  subst e;obtain⟨o,e,c,d⟩:=st;exact⟨o,e,λv z=>by rw[d] at z;cases z⟩
 keep:=λi h h' st k=>st.at λo e=>k it (by simp) o e
 item:=by
  intro X hP hw hK hc i pins s σ H E I hf st hg;subst hP hw hK;obtain⟨xs,x,hq,hx⟩:=hg;obtain⟨its,rv,p,hz⟩:=I.list hq;obtain⟨u,hu,ru⟩:=rv.get hx;obtain⟨f0,f1,f2,f3,f4,f5⟩:=hf it (by simp);refine wpAny_pyNext_list_item st p.isList (x:=u) (by simpa using hu) λh' st' sb=>?_;have I1:Inv X pins σ H {s with heap:=h'}:=I.turned (t':=s.toks) (λb o hb e=>(sb.2 b hb).trans e) f0 f1 f3 f4 f5;obtain⟨o,e,c,d⟩:=id st'
  exact⟨u,rfl,oz (s:={s with heap:=h'}) e c d (by decide) ⟨x,H,I1,ru,⟨rfl,λys hy=>by rw[I.list_inj hy hq];exact hx⟩,st',λb hb=>(hf b hb).1⟩⟩
 done:=by
  intro X hP hw hK hc i pins s σ H E I hf st hg;subst hP hw hK;obtain⟨xs,hq,hx⟩:=hg;obtain⟨its,rv,p,hz⟩:=I.list hq;obtain⟨f0,f1,f2,f3,f4,f5⟩:=hf it (by simp);have hl:=rv.length;exact wpAny_pyNext_list_end (I.ok.hd hc) st p.isList (by simp;omega) λh' eb=>⟨rfl,I.turned (t':=s.toks) (λb o hb e=>eb b o hb e) f0 f1 f3 f4 f5⟩
 self:=λ_ _ _ _ _ st h=>wpAny_pyIter_listiter st h
theorem S1{P:Program}{w:World}{K:FG}{tg:Expr}(a it:Addr):ij P w K tg (pD K a) [it] it (λi h=>h.IsTupleIter it a i) where
 mem:=by simp
 obj:=λi h st b hb=>by
  have e:b=it:=by simpa using hb
  subst e;obtain⟨o,e,c,d⟩:=st;exact⟨o,e,λv z=>by rw[d] at z;cases z⟩
 keep:=λi h h' st k=>st.at λo e=>k it (by simp) o e
 item:=by
  intro X hP hw hK hc i pins s σ H E I hf st hg;subst hP hw hK;obtain⟨xs,x,hq,hx⟩:=hg;obtain⟨its,rv,p,hz⟩:=I.tuple hq;obtain⟨u,hu,ru⟩:=rv.get hx;obtain⟨f0,f1,f2,f3,f4,f5⟩:=hf it (by simp);refine wpAny_pyNext_tuple_item st (show s.heap.IsTuple a its.toArray from p) (x:=u) (by simpa using hu) λh' st' sb=>?_;have I1:Inv X pins σ H {s with heap:=h'}:=I.turned (t':=s.toks) (λb o hb e=>(sb.2 b hb).trans e) f0 f1 f3 f4 f5
  obtain⟨o,e,c,d⟩:=id st';exact⟨u,rfl,oz (s:={s with heap:=h'}) e c d (by decide) ⟨x,H,I1,ru,⟨rfl,λys hy=>by rw[I.tuple_inj hy hq];exact hx⟩,st',λb hb=>(hf b hb).1⟩⟩
 done:=by
  intro X hP hw hK hc i pins s σ H E I hf st hg;subst hP hw hK;obtain⟨xs,hq,hx⟩:=hg;obtain⟨its,rv,p,hz⟩:=I.tuple hq;obtain⟨f0,f1,f2,f3,f4,f5⟩:=hf it (by simp);have hl:=rv.length;exact wpAny_pyNext_tuple_end (I.ok.hd hc) st (show s.heap.IsTuple a its.toArray from p) (by simp;omega) λh' eb=>⟨rfl,I.turned (t':=s.toks) (λb o hb e=>eb b o hb e) f0 f1 f3 f4 f5⟩
 self:=λ_ _ _ _ _ st h=>wpAny_pyIter_tupleiter st h
theorem RZ{P:Program}{w:World}{K:FG}{tg:Expr}(it:Addr)(lo:Int)(n:Nat):ij P w K tg (ki lo n) [it] it (λi h=>IsRangeIter h it (lo+(i:Nat)*1) ((n:Int)-(i:Nat)) 1) where
 mem:=by simp
 obj:=λi h st b hb=>by
  have e:b=it:=by simpa using hb
  subst e;exact⟨_,st,λv z=>by
   have z':Data.fields _=Data.cell v:=z;cases z'⟩
 keep:=λi h h' st k=>k it (by simp) _ st
 item:=by
  intro X hP hw hK hc i pins s σ H E I hf st hg;subst hP hw hK;obtain⟨f0,f1,f2,f3,f4,f5⟩:=hf it (by simp);have W:=Walks.range (prog:=X.prog) (w:=X.w) (I.ok.hd hc) it lo 1 n;refine W.item i s _ _ hg st λv h' tk hv st' kk=>?_;obtain⟨t,rfl⟩:=hv;have I1:Inv X pins σ H {s with heap:=h',toks:=tk}:=I.turned (λb o hb e=>kk b o (by simpa using hb) e) f0 f1 f3 f4 f5;refine⟨(),oz (s:={s with heap:=h',toks:=tk}) (n:="range_iterator") st' rfl rfl (by decide) ⟨.int (lo+i),H,I1,⟨t,?_⟩,⟨rfl,rfl⟩,st',λb hb=>(hf b hb).1⟩⟩
  rw[Int.mul_one]
 done:=by
  intro X hP hw hK hc i pins s σ H E I hf st hg;subst hP hw hK;obtain⟨f0,f1,f2,f3,f4,f5⟩:=hf it (by simp);exact wpAny_pyNext_range_end (I.ok.hd hc) st (by have:n<=i:=hg;omega) λh' eb=>⟨rfl,I.turned (t':=s.toks) (λb o hb e=>eb b o hb e) f0 f1 f3 f4 f5⟩
 self:=λ_ _ _ _ _ st h=>wpAny_pyIter_rangeiter st h
section
variable{X:Cx}{tg:Expr}
def rX(K:FG)(tl:TE):TI:=λσ H R=>tl σ H λx H1=>∃a,x=.ref a/\(∃xs,SqL K H1 a xs)/\R (mR K a) H1
def DR(K:FG)(tl:TE):TI:=λσ H R=>tl σ H λx H1=>∃a,x=.ref a/\(∃xs,SqT K H1 a xs)/\R (pD K a) H1
theorem VD{l:Expr}{tl:TE}(hl:PE X l tl):PI X tg l (rX X.K tl):=by
 intro pins s σ H R I h;refine fg (hl pins s σ H _ I h) λv s1 ⟨x,H1,I1,r1,q1⟩=>?_;obtain⟨a,e,⟨xs,hq⟩,q⟩:=q1;subst e;cases r1;obtain⟨its,rv,p,hz⟩:=I1.list hq;refine wpAny_pyIter_list p.isList ?_;refine⟨s1.heap.objs.size,[s1.heap.objs.size],_,_,H1,rfl,I1.kept (t':=s1.toks) λb o e=>aU _ e,RY a _,⟨_,bM _ rfl,rfl,rfl⟩,λb hb=>?_,q⟩;have e:b=s1.heap.objs.size:=by simpa using hb
 subst e;exact I1.fpOk (aP _) (I1.hok.fresh (aP _))
theorem Tf{l:Expr}{tl:TE}(hl:PE X l tl):PI X tg l (DR X.K tl):=by
 intro pins s σ H R I h;refine fg (hl pins s σ H _ I h) λv s1 ⟨x,H1,I1,r1,q1⟩=>?_;obtain⟨a,e,⟨xs,hq⟩,q⟩:=q1;subst e;cases r1;obtain⟨its,rv,p,hz⟩:=I1.tuple hq;refine wpAny_pyIter_tuple (show s1.heap.IsTuple a its.toArray from p) ?_;refine⟨s1.heap.objs.size,[s1.heap.objs.size],_,_,H1,rfl,I1.kept (t':=s1.toks) λb o e=>aU _ e,S1 a _,⟨_,bM _ rfl,rfl,rfl⟩,λb hb=>?_,q⟩;have e:b=s1.heap.objs.size:=by simpa using hb
 subst e;exact I1.fpOk (aP _) (I1.hok.fresh (aP _))
theorem Hn{pins:List (Addr×Obj)}{σ:St}{H:Hp}{s:Shared}{R:It->Hp->Prop}{E:Value->Shared->Prop}{lo hi:Int}{t u v:Tok}{tk:Nat}(I:Inv X pins σ H s)(h1: -(2^62)<=lo)(h2:lo<2^62)(h3: -(2^62)<=hi)(h4:hi<2^62)
  (q:R (ki lo (hi-lo).toNat) H):wpAny (model X.prog X.w) X.A (pyIter (.ref s.heap.objs.size)) (DI X pins σ tg R) E {s with heap:=s.heap.push {cls:=.type "range",data:=.fields #[.int lo t,.int hi u,.int 1 v]},toks:=tk}:=by
 refine wpAny_pyIter_range (IsRange.new ..) (small_one h1 h2 h3 h4) ?_;have I1:Inv X pins σ H {s with heap:=s.heap.push {cls:=.type "range",data:=.fields #[.int lo t,.int hi u,.int 1 v]},toks:=tk}:=I.kept λb o e=>aU _ e;refine⟨(s.heap.push {cls:=.type "range",data:=.fields #[.int lo t,.int hi u,.int 1 v]}).objs.size,[(s.heap.push {cls:=.type "range",data:=.fields #[.int lo t,.int hi u,.int 1 v]}).objs.size],_,_,H,rfl,
  I1.kept (t':=tk) λb o e=>aU _ e,RZ _ lo (hi-lo).toNat,?_,λb hb=>?_,q⟩
 ·have e1:lo+((0:Nat):Int)*1=lo:=by simp
  have e2:(((hi-lo).toNat:Nat):Int)-((0:Nat):Int)=Builtin.Range.rangeSize lo hi 1:=by rw[rangeSize_one];split<;>omega
  show IsRangeIter _ _ (lo+((0:Nat):Int)*1) ((((hi-lo).toNat:Nat):Int)-((0:Nat):Int)) 1;rw[e1,e2];exact bM _ rfl
 ·have e:b=(s.heap.push {cls:=.type "range",data:=.fields #[.int lo t,.int hi u,.int 1 v]}).objs.size:=by simpa using hb
  subst e;exact I1.fpOk (aP _) (I1.hok.fresh (aP _))
def Ks(ta:TA):TI:=λσ H R=>ta σ H λvs H1=>∃j:Int,vs=[.int j]/\ -(2^62)<=j/\j<2^62/\R (ki 0 j.toNat) H1
def Aw(ta:TA):TI:=λσ H R=>ta σ H λvs H1=>∃i j:Int,vs=[.int i,.int j]/\(-(2^62)<=i/\i<2^62/\ -(2^62)<=j/\j<2^62)/\R (ki i (j-i).toNat) H1
theorem Tj{a:Expr}{ta:TA}{p pos:Pos}(hg:Gl X "range")(hm:X.mg "range"=none)(ha:PA X [a] ta)(hs:starEach [a] X.env=[(false,eval a X.env)]:=by rfl):PI X tg (.Call (.Name "range" p) [a] [] pos) (Ks ta):=by
 intro pins s σ H R I h;refine Call_ (mh I hg hm boot_range (PyProof.Rows.callWith_type1 (fg (ha pos pins s σ H _ I h) λus s1 ⟨vs,H1,I1,r1,q1⟩=>?_) hs rfl));obtain⟨j,e,q1,q2,q⟩:=q1;subst e;cases r1 with
 |cons r rr=>
  cases rr;obtain⟨t,rfl⟩:=r;exact call_range_1 (Hn I1 ⋯ ⋯ q1 q2 (by simpa using q))
theorem Vm{a b:Expr}{ta:TA}{p pos:Pos}(hg:Gl X "range")(hm:X.mg "range"=none)(ha:PA X [a,b] ta)(hs:starEach [a,b] X.env=[(false,eval a X.env),(false,eval b X.env)]:=by rfl)(hs2:starEach [b] X.env=[(false,eval b X.env)]:=by rfl):
  PI X tg (.Call (.Name "range" p) [a,b] [] pos) (Aw ta):=by
 intro pins s σ H R I h;refine Call_ (mh I hg hm boot_range (PyProof.Rows.callWith_type1 (fg (ha pos pins s σ H _ I h) λus s1 ⟨vs,H1,I1,r1,q1⟩=>?_) (by rw[hs,hs2]) (by rw[hs2];rfl)));obtain⟨i,j,e,⟨q1,q2,q3,q4⟩,q⟩:=q1;subst e;cases r1 with
 |cons r rr=>
  cases rr with
  |cons r' rr=>
   cases rr;obtain⟨t,rfl⟩:=r;obtain⟨t',rfl⟩:=r';exact call_range_2 (Hn I1 q1 q2 q3 q4 q)
def Ic(wi:TI)(g:TG)(tb:TS):TS:=λD σ H=>wi σ H λJ H1=>∃W:Nat->Nat->St->Hp->Prop,(∃m,W 0 m σ H1)/\∀i m σ H,W i m σ H->
 (J.stop i H/\D.nx σ H)∨(J.go i H/\∃N:St->Hp->Prop,(∀σ' H',N σ' H'->∃m',m'<m/\W (i+1) m' σ' H')/\∀x H',J.yld i H x H'->g x σ H' λσ2 H2=>tb {D with nx:=N,ct:=N,bk:=D.nx} σ2 H2)
noncomputable def pz(fp:List Addr)(h:Heap):List (Addr×Obj):=fp.filterMap λb=>(h.get? b).map λo=>(b,o)
theorem pL{fp:List Addr}{h:Heap}{b:Addr}{o:Obj}(hb:b∈fp)(e:h.get? b=some o):(b,o)∈pz fp h:=List.mem_filterMap.mpr ⟨b,hb,by rw[e];rfl⟩
theorem VZ{fp:List Addr}{h:Heap}{p:Addr×Obj}(hp:p∈pz fp h):p.1∈fp/\h.get? p.1=some p.2:=by
 obtain⟨b,hb,e⟩:=List.mem_filterMap.mp hp;cases q:h.get? b with
 |none=>rw[q] at e;cases e
 |some o=>
  rw[q] at e;have e':(b,o)=p:=a8 e;subst e';exact⟨hb,q⟩
theorem Inv.pinned{pins:List (Addr×Obj)}{σ:St}{H:Hp}{s:Shared}{fp:List Addr}(I:Inv X pins σ H s)(hf:∀b∈fp,jo X pins H b)(ho:∀b∈fp,∃o,s.heap.get? b=some o/\∀v,o.data≠ .cell v):Inv X (pins++pz fp s.heap) σ H s:=
 I.pins_of λp hp=>(bY.mp hp).elim (λz=>I.pin p (bO _ z)) λz=>by
  obtain⟨hb,e⟩:=VZ z;obtain⟨f0,f1,f2,_⟩:=hf p.1 hb;obtain⟨o,e',d⟩:=ho p.1 hb;rw[e] at e';cases e';exact⟨e,f0,f1,f2,d⟩
theorem Inv.unpinned{pins pl:List (Addr×Obj)}{σ:St}{H:Hp}{s:Shared}(I:Inv X (pins++pl) σ H s):Inv X pins σ H s:=I.pins_of λp hp=>I.pin p (bO _ (cD _ hp))
theorem PL{iter:Expr}{body:List Stmt}{wi:TI}{g:TG}{tb:TS}{pos:Pos}(hp:PassesOwn (model X.prog X.w) X.A X.env X.xe)(hc:X.calm=true)(hi:PI X tg iter wi)(hg:PG X tg g)(hb:PSs X body tb)
  (hs:∀x,foldedSetIterable iter X.env x=pure x:=by intro _;rfl):PS X (.For tg iter body [] pos) (Ic wi g tb):=by
 intro pins s σ H D I h;refine wpAny_For (fg (hi pins s σ H _ I h) λv s1 h1=>fg h1 λitv s2 h2=>?_) hs;obtain⟨it,fp,tn,J,H2,e,I2,T,st2,f2,W,⟨m0,w0⟩,turn⟩:=h2;subst e
 -- what stays true of the iterator's objects through the loop
 have stat:∀{H':Hp},(∀b∈fp,H' b=none)->∀b∈fp,jo X pins H' b:=λhn b hb=>⟨hn b hb,(f2 b hb).2⟩;refine codeAny_forLoop_any (λn s'=>∃i σ' H',Inv X pins σ' H' s'/\tn i s'.heap/\(∀b∈fp,H' b=none)/\W i n σ' H') ?_ m0 ⟨0,σ,H2,I2,st2,λb hb=>(f2 b hb).1,w0⟩;rintro n s3 ⟨i,σ3,H3,I3,st3,fr3,w3⟩;rcases turn i n σ3 H3 w3 with ⟨stop,qn⟩ | ⟨go,N,hN,step⟩
 ·refine dP hp (fg (T.done X rfl rfl rfl hc i pins s3 σ3 H3 X.xe I3 (stat fr3) st3 stop) λr s4 ⟨hr,I4⟩=>?_);subst hr;exact wpAny_execs_nil ⟨σ3,H3,I4,qn⟩
 ·refine dP hp (fg (T.item X rfl rfl rfl hc i pins s3 σ3 H3 X.xe I3 (stat fr3) st3 go) λr s4 ⟨u,hr,h4⟩=>?_);subst hr;refine dP hp (fg h4 λ_ s5 ⟨x,H5,I5,r5,y5,st5,fr5⟩=>?_);have I5':=I5.pinned (stat fr5) (T.obj _ _ st5);refine dP hp (fg (hg _ s5 σ3 H5 x u _ I5' r5 (step x H5 y5)) λ_ s6 ⟨σ6,H6,I6,q6⟩=>?_);refine dP hp (fg (hb _ s6 σ6 H6 _ I6 q6) λf s7 q7=>?_);have again:∀{σ7:St} {H7:Hp},Inv X (pins++pz fp s5.heap) σ7 H7 s7->N σ7 H7->∃m,m<n/\∃i σ' H',Inv X pins σ' H' s7/\tn i s7.heap/\(∀b∈fp,H' b=none)/\W i m σ' H':=λ{σ7 H7} I7 n7=>by
   obtain⟨m',hm,w7⟩:=hN σ7 H7 n7;refine⟨m',hm,i+1,σ7,H7,I7.unpinned,T.keep _ _ _ st5 λb hb o e=>(I7.pin (b,o) (bO _ (bO _ (pL hb e)))).1,λb hb=>?_,w7⟩;obtain⟨o,e,d⟩:=T.obj _ _ st5 b hb;exact (I7.pin (b,o) (bO _ (bO _ (pL hb e)))).2.1
  cases f with
  |next=>obtain⟨σ7,H7,I7,n7⟩:=q7;exact again I7 n7
  |cont=>obtain⟨σ7,H7,I7,n7⟩:=q7;exact again I7 n7
  |brk=>obtain⟨σ7,H7,I7,q7⟩:=q7;exact⟨σ7,H7,I7.unpinned,q7⟩
  |ret v=>obtain⟨x7,σ7,H7,I7,r7,q7⟩:=q7;exact⟨x7,σ7,H7,I7.unpinned,r7,q7⟩
end
theorem kE{K:FG}{a:Addr}{xs:List V}{g:TG}{tb:TS}{D:gC}{σ:St}{H:Hp}(Pv:Nat->St->Hp->Prop)(h0:Pv 0 σ H)(hl:∀i σ H,i<=xs.length->Pv i σ H->SqL K H a xs)
  (hs:∀i x σ H,xs[i]? =some x->Pv i σ H->g x σ H λσ2 H2=>tb {D with nx:=Pv (i+1),ct:=Pv (i+1),bk:=D.nx} σ2 H2) (hd:∀σ H,Pv xs.length σ H->D.nx σ H):
  ∃W:Nat->Nat->St->Hp->Prop,(∃m,W 0 m σ H)/\∀i m σ H,W i m σ H->
   ((mR K a).stop i H/\D.nx σ H)∨((mR K a).go i H/\∃N:St->Hp->Prop,(∀σ' H',N σ' H'->∃m',m'<m/\W (i+1) m' σ' H')/\∀x H',(mR K a).yld i H x H'->g x σ H' λσ2 H2=>tb {D with nx:=N,ct:=N,bk:=D.nx} σ2 H2):=by
 refine⟨λi m σ H=>m=xs.length-i/\i<=xs.length/\Pv i σ H,⟨xs.length,by simp,bD _,h0⟩,?_⟩;rintro i m σ H ⟨rfl,hi,p⟩;have q:=hl i σ H hi p;by_cases hlt:i<xs.length
 ·refine .inr ⟨⟨xs,xs[i],q,by simp[hlt]⟩,Pv (i+1),λσ' H' p'=>⟨xs.length-(i+1),⋯,rfl,hlt,p'⟩,λx H' y=>?_⟩;obtain⟨e,y⟩:=y;subst e;exact hs i x σ _ (y xs q) p
 ·have e:i=xs.length:=⋯;subst e;exact .inl ⟨⟨xs,q,aP _⟩,hd σ H p⟩
theorem ql{K:FG}{a:Addr}{xs:List V}{g:TG}{tb:TS}{D:gC}{σ:St}{H:Hp}(Pv:Nat->St->Hp->Prop)(h0:Pv 0 σ H)(hl:∀i σ H,i<=xs.length->Pv i σ H->SqT K H a xs)
  (hs:∀i x σ H,xs[i]? =some x->Pv i σ H->g x σ H λσ2 H2=>tb {D with nx:=Pv (i+1),ct:=Pv (i+1),bk:=D.nx} σ2 H2) (hd:∀σ H,Pv xs.length σ H->D.nx σ H):
  ∃W:Nat->Nat->St->Hp->Prop,(∃m,W 0 m σ H)/\∀i m σ H,W i m σ H->
   ((pD K a).stop i H/\D.nx σ H)∨((pD K a).go i H/\∃N:St->Hp->Prop,(∀σ' H',N σ' H'->∃m',m'<m/\W (i+1) m' σ' H')/\∀x H',(pD K a).yld i H x H'->g x σ H' λσ2 H2=>tb {D with nx:=N,ct:=N,bk:=D.nx} σ2 H2):=by
 refine⟨λi m σ H=>m=xs.length-i/\i<=xs.length/\Pv i σ H,⟨xs.length,by simp,bD _,h0⟩,?_⟩;rintro i m σ H ⟨rfl,hi,p⟩;have q:=hl i σ H hi p;by_cases hlt:i<xs.length
 ·refine .inr ⟨⟨xs,xs[i],q,by simp[hlt]⟩,Pv (i+1),λσ' H' p'=>⟨xs.length-(i+1),⋯,rfl,hlt,p'⟩,λx H' y=>?_⟩;obtain⟨e,y⟩:=y;subst e;exact hs i x σ _ (y xs q) p
 ·have e:i=xs.length:=⋯;subst e;exact .inl ⟨⟨xs,q,aP _⟩,hd σ H p⟩
theorem pJ{lo:Int}{n:Nat}{g:TG}{tb:TS}{D:gC}{σ:St}{H:Hp}(Pv:Nat->St->Hp->Prop)(h0:Pv 0 σ H)
  (hs:∀i σ H,i<n->Pv i σ H->g (.int (lo+i)) σ H λσ2 H2=>tb {D with nx:=Pv (i+1),ct:=Pv (i+1),bk:=D.nx} σ2 H2) (hd:∀σ H,Pv n σ H->D.nx σ H):
  ∃W:Nat->Nat->St->Hp->Prop,(∃m,W 0 m σ H)/\∀i m σ H,W i m σ H->
   ((ki lo n).stop i H/\D.nx σ H)∨((ki lo n).go i H/\∃N:St->Hp->Prop,(∀σ' H',N σ' H'->∃m',m'<m/\W (i+1) m' σ' H')/\∀x H',(ki lo n).yld i H x H'->g x σ H' λσ2 H2=>tb {D with nx:=N,ct:=N,bk:=D.nx} σ2 H2):=by
 refine⟨λi m σ H=>m=n-i/\i<=n/\Pv i σ H,⟨n,by simp,bD _,h0⟩,?_⟩;rintro i m σ H ⟨rfl,hi,p⟩;by_cases hlt:i<n
 ·refine .inr ⟨hlt,Pv (i+1),λσ' H' p'=>⟨n-(i+1),⋯,rfl,hlt,p'⟩,λx H' y=>?_⟩;obtain⟨e,y⟩:=y;subst e y;exact hs i σ _ hlt p
 ·have e:i=n:=⋯;subst e;exact .inl ⟨aP _,hd σ H p⟩
noncomputable abbrev R2:=V->V->Hp->VK->Prop
def gq(X:Cx)(f:Value->Value->Sem Value)(r:R2):Prop:=
 ∀(pins:List (Addr×Obj)) (s:Shared) (σ:St) (H:Hp) (x y:V) (v u:Value) (Q:VK),Inv X pins σ H s->RelV x v->RelV y u->r x y H Q->
  wpAny (model X.prog X.w) X.A (f v u) (EP X pins σ Q) X.xe s
def rg(X:Cx)(f:Value->Sem Value)(r:V->Hp->VK->Prop):Prop:=
 ∀(pins:List (Addr×Obj)) (s:Shared) (σ:St) (H:Hp) (x:V) (v:Value) (Q:VK),Inv X pins σ H s->RelV x v->r x H Q->
  wpAny (model X.prog X.w) X.A (f v) (EP X pins σ Q) X.xe s
def jx(X:Cx)(f:Value)(r:List V->Hp->VK->Prop):Prop:=
 ∀(pins:List (Addr×Obj)) (s:Shared) (σ:St) (H:Hp) (xs:List V) (us:List Value) (Q:VK),Inv X pins σ H s->Vals xs us->r xs H Q->
  wpAny (model X.prog X.w) X.A (call f us) (EP X pins σ Q) X.xe s
def lX(r:R2)(ta tb:TE):TE:=λσ H Q=>ta σ H λx H1=>tb σ H1 λy H2=>r x y H2 Q
def xh(r:V->Hp->VK->Prop)(ta:TE):TE:=λσ H Q=>ta σ H λx H1=>r x H1 Q
inductive Vx (C:Int->Int->Prop) (g:Int->Int->V) (x y:V) (H:Hp) (Q:VK):Prop
 |mk (i j:Int) (a:x=.int i) (b:y=.int j) (c:C i j) (r:Q (g i j) H)
def rI(C:Int->Int->Prop)(g:Int->Int->V):R2:=Vx C g
inductive T7 (g:Int->Int->V) (x y:V) (H:Hp) (Q:VK):Prop
 |mk (i j:Int) (a:x=.int i) (b:y=.int j) (r:Q (g i j) H)
def iz(g:Int->Int->V):R2:=T7 g
inductive XH (g:Int->V) (x:V) (H:Hp) (Q:VK):Prop
 |mk (i:Int) (a:x=.int i) (r:Q (g i) H)
def rU(g:Int->V):V->Hp->VK->Prop:=XH g
section
variable{X:Cx}{a b c:Expr}{ta tb tc:TE}{pos:Pos}
theorem wI(ha:PE X a ta)(hb:PE X b tb){pins:List (Addr×Obj)}{s:Shared}{σ:St}{H:Hp}{R:V->V->Hp->Prop}(I:Inv X pins σ H s)
  (h:ta σ H λx H1=>tb σ H1 λy H2=>R x y H2) {Q:Value->Shared->Prop} {f:Value->Value->Sem Value}
  (hf:∀v u s2 x y H2,Inv X pins σ H2 s2->RelV x v->RelV y u->R x y H2->wpAny (model X.prog X.w) X.A (f v u) Q X.xe s2):
  wpAny (model X.prog X.w) X.A (eval a X.env) (λv s₁=>wpAny (model X.prog X.w) X.A (eval b X.env) (λu s₂=>wpAny (model X.prog X.w) X.A (f v u) Q X.xe s₂) X.xe s₁) X.xe s:=by
 refine fg (ha pins s σ H _ I h) λv s1 ⟨x,H1,I1,r1,q1⟩=>?_;refine fg (hb pins s1 σ H1 _ I1 q1) λu s2 ⟨y,H2,I2,r2,q2⟩=>?_;exact hf v u s2 x y H2 I2 r1 r2 q2
theorem XM{op:Operator}{r:R2}(ho:gq X (binaryOp op) r)(ha:PE X a ta)(hb:PE X b tb):PE X (.BinOp a op b pos) (lX r ta tb):=by
 intro pins s σ H Q I h;exact wpAny_BinOp (wI ha hb I h λv u s2 x y H2 I2 rx ry q=>ho pins s2 σ H2 x y v u Q I2 rx ry q)
theorem Ta{op:UnaryOp}{r:V->Hp->VK->Prop}(ho:rg X (unaryOp op) r)(ha:PE X a ta):PE X (.UnaryOp op a pos) (xh r ta):=by
 intro pins s σ H Q I h;exact UnaryOp_ (fg (ha pins s σ H _ I h) λv s1 ⟨x,H1,I1,r1,q1⟩=>ho pins s1 σ H1 x v Q I1 r1 q1)
theorem nH{f:Value->Value->Sem Value}{C:Int->Int->Prop}{g:Int->Int->Int}
  (rule:∀(i j:Int) (t u:Tok) (s:Shared) (Q:Value->Shared->Prop) (E:Value->Shared->Prop),C i j->Q (.int (g i j) s.toks) {s with toks:=s.toks+1}->wpAny (model X.prog X.w) X.A (f (.int i t) (.int j u)) Q E s):
  gq X f (rI C λi j=>.int (g i j)):=by
 intro pins s σ H x y v u Q I rx ry h;obtain⟨i,j,rfl,rfl,hc,q⟩:=h;obtain⟨t,rfl⟩:=rx;obtain⟨t',rfl⟩:=ry;exact rule i j t t' s _ _ hc ⟨.int (g i j),H,I.tok _,⟨()⟩,q⟩
theorem qP{f:Value->Value->Sem Value}{g:Int->Int->Int}
  (rule:∀(i j:Int) (t u:Tok) (s:Shared) (Q:Value->Shared->Prop) (E:Value->Shared->Prop),Q (.int (g i j) s.toks) {s with toks:=s.toks+1}->wpAny (model X.prog X.w) X.A (f (.int i t) (.int j u)) Q E s):
  gq X f (iz λi j=>.int (g i j)):=by
 intro pins s σ H x y v u Q I rx ry h;obtain⟨i,j,rfl,rfl,q⟩:=h;obtain⟨t,rfl⟩:=rx;obtain⟨t',rfl⟩:=ry;exact rule i j t t' s _ _ ⟨.int (g i j),H,I.tok _,⟨()⟩,q⟩
theorem qM{f:Value->Value->Sem Value}{g:Int->Int->Bool}
  (rule:∀(i j:Int) (t u:Tok) (s:Shared) (Q:Value->Shared->Prop) (E:Value->Shared->Prop),Q (.bool (g i j)) s->wpAny (model X.prog X.w) X.A (f (.int i t) (.int j u)) Q E s):
  gq X f (iz λi j=>.bl (g i j)):=by
 intro pins s σ H x y v u Q I rx ry h;obtain⟨i,j,rfl,rfl,q⟩:=h;obtain⟨t,rfl⟩:=rx;obtain⟨t',rfl⟩:=ry;exact rule i j t t' s _ _ ⟨.bl (g i j),H,I,rfl,q⟩
def Kx(i j:Int):Prop:=0<j/\j<1073741824
def qF(i j:Int):Prop:=0<=j/\j<=1000000/\i.natAbs<2^64
def CMul(i j:Int):Prop:=(-(2^64)<i/\i<2^64)∨(-(2^64)<j/\j<2^64)
theorem CMul.ok{i j:Int}(h:CMul i j):IntMulOk i j:=by
 rcases h with ⟨h1,h2⟩ | ⟨h1,h2⟩
 ·exact .of_left (intBits_le_64 h1 h2)
 ·exact .of_right (intBits_le_64 h1 h2)
theorem Nb(k:Nat):(0:Int)<=2^k:=by
 rw[two_pow_cast];exact cR _
theorem QJ:gq X (binaryOp .Add) (iz λi j=>.int (i+j)):=qP λ_ _ _ _ _ _ _ q=>add_int q
theorem Xy:gq X (binaryOp .Sub) (iz λi j=>.int (i-j)):=qP λ_ _ _ _ _ _ _ q=>sub_int q
theorem SW:gq X (binaryOp .Mult) (rI CMul λi j=>.int (i*j)):=nH λ_ _ _ _ _ _ _ hc q=>mul_int q hc.ok
theorem XD:gq X (binaryOp .FloorDiv) (rI Kx λi j=>.int (i / j)):=nH λi j _ _ _ _ _ hc q=>by
 have h1:(0:Int)<j:=hc.1;have h2:j<1073741824:=hc.2;exact floordiv_int ⋯ (by rw[Int.fdiv_eq_ediv_of_nonneg i ⋯];exact q) (.inl (PyProof.noPylong_small ⋯))
theorem SA:gq X (binaryOp .Mod) (rI (λ_ j=>0<j) λi j=>.int (i%j)):=nH λi j _ _ _ _ _ hc q=>by
 have h1:(0:Int)<j:=hc;exact mod_int' ⋯ (by rw[Int.fmod_eq_emod_of_nonneg i ⋯];exact q)
theorem OB:gq X (binaryOp .Pow) (rI qF λi j=>.int (i^j.toNat)):=nH λ_ _ _ _ _ _ _ hc q=>pow_int_small hc.1 hc.2.1 hc.2.2 q
theorem Qq:gq X (binaryOp .LShift) (rI qF λi j=>.int (i*2^j.toNat)):=nH λ_ _ _ _ _ _ _ hc q=>lshift_int_small hc.1 hc.2.1 hc.2.2 q
theorem Vr:gq X (binaryOp .RShift) (rI (λ_ j=>0<=j) λi j=>.int (i / 2^j.toNat)):=nH λi j _ _ _ _ _ hc q=>
 rshift_int hc (by rw[Int.fdiv_eq_ediv_of_nonneg i (Nb _)];exact q)
theorem P0:gq X (binaryOp .BitAnd) (iz λi j=>.int (Builtin.bitAnd i j)):=qP λ_ _ _ _ _ _ _ q=>and_int q
theorem Wr:gq X (binaryOp .BitOr) (iz λi j=>.int (Builtin.bitOr i j)):=qP λ_ _ _ _ _ _ _ q=>or_int q
theorem WG{f:Value->Sem Value}{g:Int->Int}
  (rule:∀(i:Int) (t:Tok) (s:Shared) (Q:Value->Shared->Prop) (E:Value->Shared->Prop),Q (.int (g i) s.toks) {s with toks:=s.toks+1}->wpAny (model X.prog X.w) X.A (f (.int i t)) Q E s):
  rg X f (rU λi=>.int (g i)):=by
 intro pins s σ H x v Q I rx h;obtain⟨i,rfl,q⟩:=h;obtain⟨t,rfl⟩:=rx;exact rule i t s _ _ ⟨.int (g i),H,I.tok _,⟨()⟩,q⟩
theorem SK:rg X (unaryOp .USub) (rU λi=>.int (-i)):=WG λ_ _ _ _ _ q=>neg_int q
end
noncomputable def Dg:V->V->Bool
 |.non,.non=>true | .non,.int _=>true | .int _,.non=>true | .non,.bl _=>true | .bl _,.non=>true | .non,.str _=>true | .str _,.non=>true
 |.int _,.int _=>true | .bl _,.bl _=>true | .str _,.str _=>true | .byt _,.byt _=>true
 |.int _,.str _=>true | .str _,.int _=>true | .bl _,.str _=>true | .str _,.bl _=>true
 |_,_=>false
inductive Vl (x y:V) (H:Hp) (Q:VK):Prop
 |mk (s:Dg x y=true) (r:Q (.bl (decide (x=y))) H)
def FE:R2:=Vl
inductive P7 (x y:V) (H:Hp) (Q:VK):Prop
 |mk (s:Dg x y=true) (r:Q (.bl (!decide (x=y))) H)
def Bb:R2:=P7
theorem qp{i j:Int}:decide (V.int i=V.int j)=(i==j):=by
 rw[cE];simp
theorem GY{i j:Bool}:decide (V.bl i=V.bl j)=(i==j):=by
 rw[cE];simp
theorem FR{i j:Str}:decide (V.str i=V.str j)=(i==j):=by
 rw[cE];simp
theorem FA{i j:Array UInt8}:decide (V.byt i=V.byt j)=(i.toList==j.toList):=by
 rw[cE];cases i;cases j;simp
section
variable{X:Cx}{a b c:Expr}{ta tb tc:TE}{pos:Pos}
theorem gi{pins:List (Addr×Obj)}{σ:St}{H:Hp}{s:Shared}{Q:VK}{k k':Bool}(I:Inv X pins σ H s)(q:Q (.bl k) H)(e:k=k'):EP X pins σ Q (.bool k') s:=by
 subst e;exact⟨.bl k,H,I,rfl,q⟩
theorem Qv:gq X (compareOp .Eq) FE:=by
 intro pins s σ H x y v u Q I rx ry h;obtain⟨hs,q⟩:=h;cases x with
 |non=>
  cases rx;cases y with
  |non=>cases ry;exact PySem.EqNone.eq_none_none (gi I q (by simp))
  |bl j=>cases ry;exact PySem.EqNone.eq_none_bool (gi I q (by simp))
  |int j=>obtain⟨t',rfl⟩:=ry;exact PySem.EqNone.eq_none_int (gi I q (by simp))
  |str j=>obtain⟨t',rfl⟩:=ry;exact PySem.EqNone.eq_none_str (gi I q (by simp))
  |_=>exact absurd (show false=true from hs) bA
 |bl i=>
  cases rx;cases y with
  |non=>cases ry;exact PySem.EqNone.eq_bool_none (gi I q (by simp))
  |bl j=>cases ry;exact eq_bool (gi I q GY)
  |str j=>obtain⟨t',rfl⟩:=ry;exact PySem.EqMixed.eq_bool_str (gi I q (by simp))
  |_=>exact absurd (show false=true from hs) bA
 |int i=>
  obtain⟨t,rfl⟩:=rx;cases y with
  |non=>cases ry;exact PySem.EqNone.eq_int_none (gi I q (by simp))
  |int j=>obtain⟨t',rfl⟩:=ry;exact eq_int (gi I q qp)
  |str j=>obtain⟨t',rfl⟩:=ry;exact PySem.EqMixed.eq_int_str (gi I q (by simp))
  |_=>exact absurd (show false=true from hs) bA
 |str i=>
  obtain⟨t,rfl⟩:=rx;cases y with
  |non=>cases ry;exact PySem.EqNone.eq_str_none (gi I q (by simp))
  |bl j=>cases ry;exact PySem.EqMixed.eq_str_bool (gi I q (by simp))
  |int j=>obtain⟨t',rfl⟩:=ry;exact PySem.EqMixed.eq_str_int (gi I q (by simp))
  |str j=>obtain⟨t',rfl⟩:=ry;exact eq_str (gi I q FR)
  |_=>exact absurd (show false=true from hs) bA
 |byt i=>
  obtain⟨t,rfl⟩:=rx;cases y with
  |byt j=>obtain⟨t',rfl⟩:=ry;exact PySem.W.eq_bytes (gi I q FA)
  |_=>exact absurd (show false=true from hs) bA
 |_=>cases y<;>exact absurd (show false=true from hs) bA
theorem Xw:gq X (compareOp .NotEq) Bb:=by
 intro pins s σ H x y v u Q I rx ry h;obtain⟨hs,q⟩:=h;cases x with
 |non=>
  cases rx;cases y with
  |non=>cases ry;exact PySem.EqNone.ne_none_none (gi I q (by simp))
  |bl j=>cases ry;exact PySem.EqNone.ne_none_bool (gi I q (by simp))
  |int j=>obtain⟨t',rfl⟩:=ry;exact PySem.EqNone.ne_none_int (gi I q (by simp))
  |str j=>obtain⟨t',rfl⟩:=ry;exact PySem.EqNone.ne_none_str (gi I q (by simp))
  |_=>exact absurd (show false=true from hs) bA
 |bl i=>
  cases rx;cases y with
  |non=>cases ry;exact PySem.EqNone.ne_bool_none (gi I q (by simp))
  |bl j=>cases ry;exact ne_bool (gi I q (congrArg not GY))
  |str j=>obtain⟨t',rfl⟩:=ry;exact PySem.EqMixed.ne_bool_str (gi I q (by simp))
  |_=>exact absurd (show false=true from hs) bA
 |int i=>
  obtain⟨t,rfl⟩:=rx;cases y with
  |non=>cases ry;exact PySem.EqNone.ne_int_none (gi I q (by simp))
  |int j=>obtain⟨t',rfl⟩:=ry;exact ne_int (gi I q (congrArg not qp))
  |str j=>obtain⟨t',rfl⟩:=ry;exact PySem.EqMixed.ne_int_str (gi I q (by simp))
  |_=>exact absurd (show false=true from hs) bA
 |str i=>
  obtain⟨t,rfl⟩:=rx;cases y with
  |non=>cases ry;exact PySem.EqNone.ne_str_none (gi I q (by simp))
  |bl j=>cases ry;exact PySem.EqMixed.ne_str_bool (gi I q (by simp))
  |int j=>obtain⟨t',rfl⟩:=ry;exact PySem.EqMixed.ne_str_int (gi I q (by simp))
  |str j=>obtain⟨t',rfl⟩:=ry;exact ne_str (gi I q (congrArg not FR))
  |_=>exact absurd (show false=true from hs) bA
 |byt i=>
  obtain⟨t,rfl⟩:=rx;cases y with
  |byt j=>obtain⟨t',rfl⟩:=ry;exact PySem.W.ne_bytes (gi I q (congrArg not FA))
  |_=>exact absurd (show false=true from hs) bA
 |_=>cases y<;>exact absurd (show false=true from hs) bA
theorem RH:gq X (compareOp .Lt) (iz λi j=>.bl (decide (i<j))):=qM λ_ _ _ _ _ _ _ q=>lt_int q
theorem Ts:gq X (compareOp .LtE) (iz λi j=>.bl (decide (i<=j))):=qM λ_ _ _ _ _ _ _ q=>le_int q
theorem O5:gq X (compareOp .Gt) (iz λi j=>.bl (decide (j<i))):=qM λ_ _ _ _ _ _ _ q=>gt_int q
theorem T1:gq X (compareOp .GtE) (iz λi j=>.bl (decide (j<=i))):=qM λ_ _ _ _ _ _ _ q=>ge_int q
theorem Xu:gq X (compareOp .In) (λx y H Q=>∃i j,x=.str i/\y=.str j/\Q (.bl (!(Builtin.Str.occurrences j i 0 j.length 1).isEmpty)) H):=by
 intro pins s σ H x y v u Q I rx ry h;obtain⟨i,j,rfl,rfl,q⟩:=h;obtain⟨t,rfl⟩:=rx;obtain⟨t',rfl⟩:=ry;exact in_str (gi I q rfl)
theorem M3:gq X (compareOp .Is) (λx y H Q=>y=.non/\Q (.bl (decide (x=.non))) H):=by
 intro pins s σ H x y v u Q I rx ry h;obtain⟨rfl,q⟩:=h;cases ry;refine is_none_gen (gi I q ?_);cases x<;>first
  |(cases rx;rfl)
  |(obtain⟨t,rfl⟩:=rx;rfl)
theorem QC:gq X (compareOp .IsNot) (λx y H Q=>y=.non/\Q (.bl (!decide (x=.non))) H):=by
 intro pins s σ H x y v u Q I rx ry h;obtain⟨rfl,q⟩:=h;cases ry;refine isnot_none_gen (gi I q ?_);cases x<;>first
  |(cases rx;rfl)
  |(obtain⟨t,rfl⟩:=rx;rfl)
theorem IG(b:Expr){op:CmpOp}(h:op≠ .In:=by decide)(h2:op≠ .NotIn:=by decide):behindInMarks op b=false:=by
 have e1:(op==CmpOp.In)=false:=by cases op<;>first | rfl | exact absurd rfl h
 have e2:(op==CmpOp.NotIn)=false:=by cases op<;>first | rfl | exact absurd rfl h2
 cases b<;>simp[behindInMarks,e1,e2]
theorem SF{op:CmpOp}{r:R2}(ho:gq X (compareOp op) r)(ha:PE X a ta)(hb:PE X b tb)(hm:behindInMarks op b=false):PE X (.Compare a [op] [b] pos) (lX r ta tb):=by
 intro pins s σ H Q I h;exact wpAny_Compare1 (wI ha hb I h λv u s2 x y H2 I2 rx ry q=>ho pins s2 σ H2 x y v u Q I2 rx ry q) hm
def p8(t:TE):TT:=λσ H Q=>t σ H λx H'=>oW x H' Q
theorem Pr{op:CmpOp}{r:R2}(ho:gq X (compareOp op) r)(ha:PE X a ta)(hb:PE X b tb)(hm:behindInMarks op b=false):PT X (.Compare a [op] [b] pos) (p8 (lX r ta tb)):=by
 intro pins s σ H Q I h;refine wpAny_isTrue_Compare1 (fg (ha pins s σ H _ I h) λv s1 ⟨x,H1,I1,r1,q1⟩=>fg (hb pins s1 σ H1 _ I1 q1) λu s2 ⟨y,H2,I2,r2,q2⟩=>
  fg (ho pins s2 σ H2 x y v u _ I2 r1 r2 q2) λc s3 ⟨z,H3,I3,r3,k,e,q3⟩=>?_) hm
 subst e;cases r3;exact eA ⟨H3,I3,q3⟩
def Im(r r':R2)(ta tb tc:TE):TE:=λσ H Q=>ta σ H λx H1=>tb σ H1 λy H2=>r x y H2 λz H3=>∃k,z=.bl k/\
 (if k=true then tc σ H3 λw' H4=>r' y w' H4 Q else Q (.bl false) H3)
theorem Rh{op op':CmpOp}{r r':R2}(ho:gq X (compareOp op) r)(ho':gq X (compareOp op') r')(ha:PE X a ta)(hb:PE X b tb)(hc:PE X c tc)
  (hm:lastMarks [op,op'] [b,c]=false:=by with_unfolding_all rfl):PT X (.Compare a [op,op'] [b,c] pos) (p8 (Im r r' ta tb tc)):=by
 intro pins s σ H Q I h;refine isTrue_chain (fg (ha pins s σ H _ I h) λv s1 ⟨x,H1,I1,r1,q1⟩=>test_link (fg (hb pins s1 σ H1 _ I1 q1) λu s2 ⟨y,H2,I2,r2,q2⟩=>
  fg (ho pins s2 σ H2 x y v u _ I2 r1 r2 q2) λd s3 ⟨z,H3,I3,r3,k,e,q3⟩=>?_)) hm
 subst e;cases r3;refine eA ?_;cases k with
 |false=>
  obtain⟨k',e',q'⟩:=q3;cases e';exact ite_ff ⟨H3,I3,q'⟩
 |true=>
  refine ite_tt (test_last (fg (hc pins s3 σ H3 _ I3 q3) λw' s4 ⟨z',H4,I4,r4,q4⟩=>fg (ho' pins s4 σ H4 y z' u w' _ I4 r2 r4 q4) λd' s5 ⟨z2,H5,I5,r5,k2,e2,q5⟩=>?_));subst e2;cases r5;exact eA ⟨H5,I5,q5⟩
theorem om:(sizeLine:Nat)<2^63:=by rw[dW];decide
theorem VJ:gq X (binaryOp .Add) (λx y H Q=>∃i j,x=.str i/\y=.str j/\i.length+j.length<=sizeLine/\Q (.str (i++j)) H):=by
 intro pins s σ H x y v u Q I rx ry h;obtain⟨i,j,rfl,rfl,hz,q⟩:=h;obtain⟨t,rfl⟩:=rx;obtain⟨t',rfl⟩:=ry;exact add_str (λt' tk=>⟨.str (i++j),H,I.tok _,⟨()⟩,q⟩) hz
theorem iH{x:V}{us:List Value}(r:Vals [x] us):∃u,us=[u]/\RelV x u:=by
 cases r with
 |cons r1 r2=>cases r2;exact⟨(),r1⟩
theorem mO{x y:V}{us:List Value}(r:Vals [x,y] us):∃u w',us=[u,w']/\RelV x u/\RelV y w':=by
 cases r with
 |cons r1 r2=>
  cases r2 with
  |cons r3 r4=>cases r4;exact⟨_,(),r1,r3⟩
theorem Nz:jx X (.builtin "abs") (λxs H Q=>∃i,xs=[.int i]/\Q (.int (if i<0 then -i else i)) H):=by
 intro pins s σ H xs us Q I r h;obtain⟨i,rfl,q⟩:=h;obtain⟨u,rfl,t,rfl⟩:=iH r;exact call_abs_int λu tk=>⟨.int (if i<0 then -i else i),H,I.tok _,⟨()⟩,q⟩
theorem Vs(hc:X.calm=true):jx X (.builtin "max") (λxs H Q=>∃i j,xs=[.int i,.int j]/\Q (.int (if j>i then j else i)) H):=by
 intro pins s σ H xs us Q I r h;obtain⟨i,j,rfl,q⟩:=h;obtain⟨u,w',rfl,⟨t,rfl⟩,⟨t',rfl⟩⟩:=mO r;refine max_two_ints (I.ok.hd hc) λh' tk k=>⟨_,H,I.kept k,?_,q⟩;by_cases hj:j>i
 ·rw[if_pos hj,if_pos hj];exact⟨()⟩
 ·rw[if_neg hj,if_neg hj];exact⟨()⟩
theorem T8:jx X (.type "int") (λxs H Q=>(∃i,xs=[.int i]/\Q (.int i) H)∨∃k,xs=[.bl k]/\Q (.int (if k then 1 else 0)) H):=by
 intro pins s σ H xs us Q I r h;rcases h with ⟨i,rfl,q⟩ | ⟨k,rfl,q⟩
 ·obtain⟨u,rfl,t,rfl⟩:=iH r;exact call_int_int ⟨.int i,H,I,⟨()⟩,q⟩
 ·obtain⟨u,rfl,r1⟩:=iH r;cases r1;exact call_int_bool ⟨.int (if k then 1 else 0),H,I.tok _,⟨()⟩,q⟩
theorem TF:jx X (.type "str") (λxs H Q=>∃i,xs=[.int i]/\i.natAbs.log2<1920/\Q (.str (toString i)) H):=by
 intro pins s σ H xs us Q I r h;obtain⟨i,rfl,hz,q⟩:=h;obtain⟨u,rfl,t,rfl⟩:=iH r;exact PySem.P.str_of_int hz ⟨.str _,H,I.tok _,⟨()⟩,q⟩
end
structure ObjM(h:Heap)(x dx C:Addr)(mA:Str->Option Value):Prop where
 obj:h.get? x=some (PySem.W.instObj C dx)
 ns:h.Ns1 dx mA
 ne:dx≠x
theorem NE{h:Heap}{dx:Addr}{mA:Str->Option Value}(n:h.Ns1 dx mA):∃od,h.get? dx=some od/\∀name,PySem.W.lookIn name od=some (mA name):=by
 obtain⟨o,es,ep,ho,hd,hk,_,hm⟩:=n;refine⟨o,ho,λname=>?_⟩;have e:=hm name;unfold nsFind findBy at e;rw[←Array.find?_toList] at e;unfold PySem.W.lookIn;rw[hd];dsimp only;split
 ·rename_i y q;rw[q] at e;exact congrArg some e
 ·rename_i q;rw[q] at e;have a:es.toList.any (·.refKey)=false:=by
   rw[cS];intro y hy;obtain⟨z,t,hkey⟩:=hk y (Array.mem_toList_iff.mp hy);simp[DictEntry.refKey,hkey]
  have a':¬es.toList.any (·.refKey)=true:=by rw[a];exact bA
  rw[if_neg a'];exact congrArg some e
theorem ObjM.look{h:Heap}{x dx C:Addr}{mA:Str->Option Value}(I:ObjM h x dx C mA):∃od,PySem.W.InstAt h x (PySem.W.instObj C dx) C (some od)/\∀name,PySem.W.lookIn name od=some (mA name):=
 let ⟨od,ho,hl⟩:=NE I.ns
 ⟨od,⟨I.obj,rfl,rfl,ho⟩,hl⟩
section
variable{prog:Program}{w:World}{A:Around}{E:Value->Shared->Prop}{s:Shared}{K:FG}{x dx C f:Addr}{mA:Str->Option Value}{name:Str}{v:Value}
theorem UO{expr:Bool}{Q:Value->Shared->Prop}(X:K.In s.heap)(I:ObjM s.heap x dx C mA)(hg:PySem.W.plainGet K C name=true)(hh:PySem.W.hasDictIn K C=true)
  (ha:PySem.W.findIn K (.ref C) name=some none) (hv:mA name=some v) (hv':PySem.W.handedIn v=true) (h:Q v {s with toks:=s.toks+1}):
  wpAny (model prog w) A (getAttr (.ref x) name expr) Q E s:=by
 obtain⟨od,J,hl⟩:=I.look;exact PySem.W.get_value X J (PySem.W.plainGet_of hg).1 (PySem.W.findObj_own hh ha rfl (by rw[hl,hv])) hv' h
theorem PP{pl:Sem Bool}{Q:Value×List Value->Shared->Prop}(X:K.In s.heap)(I:ObjM s.heap x dx C mA)(hg:PySem.W.plainGet K C name=true)
  (hf:PySem.W.findIn K (.ref C) name=some (some (.ref f))) (ht:PySem.W.isFn K (.ref f)=true) (hv:mA name=none) (h:Q (.ref f,[.ref x]) s):
  wpAny (model prog w) A (getMethod (.ref x) name pl) Q E s:=by
 obtain⟨od,J,hl⟩:=I.look;exact PySem.W.method_fn X J (PySem.W.plainGet_of hg).1 (PySem.W.plainGet_of hg).2 hf (beq_iff_eq.mp ht) (by show (PySem.W.lookIn name od).map (·.isSome)=some false;rw[hl,hv];rfl) h
theorem P1{ns:List Str}{Q:Unit->Shared->Prop}(X:K.In s.heap)(I:ObjM s.heap x dx C mA)
  (hs:PySem.W.findIn K (.ref C) "__setattr__"=some (some (.builtin "object.__setattr__"))) (hp:PySem.W.plainOver K C=true) (ht:PySem.W.takerIn K C name=some none) (hh:PySem.W.hasDictIn K C=true)
  (hw:PySem.Within mA ns) (hsz:ns.length<=sizeLine)
  (h:∀h',ObjM h' x dx C (λy=>if y=name then some v else mA y)->Heap.SameBut dx s.heap h'->Q () {s with heap:=h',toks:=s.toks+2}):
  wpAny (model prog w) A (setAttr (.ref x) name v) Q E s:=by
 obtain⟨od,J,hl⟩:=I.look;refine PySem.W.set_plain X J hs (PySem.W.osa_open (s:={s with toks:=s.toks+1}) (r:=none) X J hp ht λb=>?_);obtain⟨cd,hc,hd'⟩:=PySem.W.any_some hh;have hx:s.heap.get? x=some ⟨.ref C,some dx,.plain,#[]⟩:=I.obj;refine dR (d9 (dR (dR (wpAny_loadPart hx (dR (PySem.W.Looks.here (s:={s with toks:=s.toks+1}) (PySem.W.looks_clsIn X hc) ?_))))));rw[hd'];refine d9 (a:=some dx) (dR (d9 (dR ?_)))
 refine wpAny_nsSet1 (s:={s with toks:=s.toks+1}) I.ns λh' hn2 hs2=>?_;obtain⟨oD,esD,epD,hoD,hdD,hcD⟩:=hn2.count (PySem.Within.cons name v hw);refine dR (wpAny_lookBehind hoD (by rw[hdD];exact pastItsLine_dict (bK hcD (by rw[bL];omega))) ?_);exact d9 (h _ ⟨(hs2.2 _ (Ne.symm I.ne)).trans I.obj,hn2,I.ne⟩ hs2)
theorem P9{R:Result->Shared->Prop}{vs:List Value}{kw:List (Str×Value)}(X:K.In s.heap)(hm:PySem.W.makesIn K C=true)
  (hi:PySem.W.findIn K (.ref C) "__init__"=some (some (.ref f))) (hf:PySem.W.typeIn K (.ref f)=some (.type "function"))
  (h:codeAny (model prog w) (A.under (.builtin "type.__call__" ⟨.ref C::vs,kw⟩)) (.call (.ref f) ⟨.ref (s.heap.objs.size+1)::vs,kw⟩) (PySem.W.InitBack (s.heap.objs.size+1) R)
   {s with heap:=(s.heap.push PySem.W.emptyDict).push (PySem.W.instObj C s.heap.objs.size)}):
  codeAny (model prog w) A (.call (.ref C) ⟨vs,kw⟩) R s:=by
 obtain⟨hh,g,d,t,os⟩:=s;exact PySem.W.make_core (PySem.W.makes_of X hm) (PySem.W.looks_findIn X hi) (λself=>PySem.W.bind_fn X self hf) (.inl rfl) h
theorem O4{R:Result->Shared->Prop}(X:K.In s.heap)(hm:PySem.W.makesIn K C=true)
  (hi:PySem.W.findIn K (.ref C) "__init__"=some (some (.builtin "object.__init__")))
  (hb:∀self,PySem.W.Looks (model prog w) s.heap (bindSpecial (.builtin "object.__init__") self) (.builtin "object.__init__",[self]))
  (h:codeAny (model prog w) (A.under (.builtin "type.__call__" ⟨[.ref C],[]⟩)) (.call (.builtin "object.__init__") ⟨[.ref (s.heap.objs.size+1)],[]⟩) (PySem.W.InitBack (s.heap.objs.size+1) R)
   {s with heap:=(s.heap.push PySem.W.emptyDict).push (PySem.W.instObj C s.heap.objs.size)}):
  codeAny (model prog w) A (.call (.ref C) ⟨[],[]⟩) R s:=by
 obtain⟨hh,g,d,t,os⟩:=s;exact PySem.W.make_core (PySem.W.makes_of X hm) (PySem.W.looks_findIn X hi) hb (.inr ⟨rfl,rfl⟩) h
end
noncomputable def fj(f:Str)(v:V):List (Str×V)->List (Str×V)
 |[]=>[(f,v)]
 |(g,x)::r=>if g=f then (g,v)::r else (g,x)::fj f v r
theorem fK(f g:Str)(v:V):∀fs:List (Str×V),(fj f v fs).lookup g=if g=f then some v else fs.lookup g
 |[]=>by
  show List.lookup g [(f,v)]=_;by_cases h:g=f
  ·have hb:(g==f)=true:=beq_iff_eq.mpr h;simp only[List.lookup,hb,if_pos h]
  ·have hb:(g==f)=false:=beq_eq_false_iff_ne.mpr h;simp only[List.lookup,hb,if_neg h]
 |(k,x)::r=>by
  have ih:=fK f g v r;rw[show fj f v ((k,x)::r)=(if k=f then (k,v)::r else (k,x)::fj f v r) from rfl];by_cases hk:k=f
  ·rw[if_pos hk];by_cases h:g=k
   ·have hb:(g==k)=true:=beq_iff_eq.mpr h;simp only[List.lookup,hb,if_pos (h.trans hk)]
   ·have hb:(g==k)=false:=beq_eq_false_iff_ne.mpr h;simp only[List.lookup,hb,if_neg (λe:g=f=>h (e.trans hk.symm))]
  ·rw[if_neg hk];by_cases h:g=k
   ·have hb:(g==k)=true:=beq_iff_eq.mpr h;simp only[List.lookup,hb,if_neg (λe:g=f=>hk (h.symm.trans e))]
   ·have hb:(g==k)=false:=beq_eq_false_iff_ne.mpr h;simp only[List.lookup,hb];exact ih
theorem uM(f:Str)(v:V):∀fs:List (Str×V),f∈(fj f v fs).map (·.1)/\∀g,g∈fs.map (·.1)->g∈(fj f v fs).map (·.1)
 |[]=>⟨by simp[fj],λg h=>by simp at h⟩
 |(k,x)::r=>by
  obtain⟨i1,i2⟩:=uM f v r;rw[show fj f v ((k,x)::r)=(if k=f then (k,v)::r else (k,x)::fj f v r) from rfl];by_cases hk:k=f
  ·rw[if_pos hk];subst hk;exact⟨by simp,λg h=>by simpa using h⟩
  ·rw[if_neg hk];refine⟨?_,λg h=>?_⟩
   ·rw[bV];exact bN _ i1
   ·rw[bV] at h ⊢;rcases aT.mp h with e | e
    ·exact aT.mpr (.inl e)
    ·exact bN _ (i2 g e)
theorem MH(f:Str)(v:V):∀fs:List (Str×V),(fj f v fs).length<=fs.length+1
 |[]=>by simp[fj]
 |(k,x)::r=>by
  have ih:=MH f v r;rw[show fj f v ((k,x)::r)=(if k=f then (k,v)::r else (k,x)::fj f v r) from rfl];by_cases hk:k=f
  ·rw[if_pos hk,bL,bL];omega
  ·rw[if_neg hk,bL,bL];omega
theorem RelO.some_of{v:V}{o:Option Value}(r:RelO (some v) o):∃u,o=some u/\RelV v u:=by
 cases o with
 |none=>exact (show False from r).elim
 |some u=>exact⟨u,rfl,r⟩
theorem RelO.none_of{o:Option Value}(r:RelO none o):o=none:=by
 cases o with
 |none=>rfl
 |some u=>exact (show False from r).elim
theorem OZ{v:V}{u:Value}(r:RelV v u):PySem.W.handedIn u=true:=by
 cases v with
 |non=>cases (show u=Value.none from r);rfl
 |bl b=>cases (show u=Value.bool b from r);rfl
 |int i=>obtain⟨t,e⟩:=(show ∃t,u=Value.int i t from r);cases e;rfl
 |str x=>obtain⟨t,e⟩:=(show ∃t,u=Value.str x t from r);cases e;rfl
 |byt b=>obtain⟨t,e⟩:=(show ∃t,u=Value.bytes b t from r);cases e;rfl
 |flt b=>obtain⟨t,e⟩:=(show ∃t,u=Value.float b t from r);cases e;rfl
 |ref a=>cases (show u=Value.ref a from r);rfl
 |ty n=>cases (show u=Value.type n from r);rfl
section
variable{P:Program}{w:World}{H H':Hp}{h h':Heap}{a C dx:Addr}{fs fs':List (Str×V)}
theorem pZ(hok:HOk P w H h)(e:H a=some (.ins C dx fs)):∃mA,ObjM h a dx C mA/\(∀f,RelO (fs.lookup f) (mA f))/\PySem.Within mA (fs.map (·.1))/\fs.length<=1000/\H dx=some (.own a):=by
 obtain⟨d,z,ne,ob,mA,n,r,q⟩:=(show ObjOk P w H h a (.ins C dx fs) from hok a _ e);exact⟨mA,⟨ob,n,ne⟩,r,q,z,d⟩
end
structure Cls(K:FG)(C:Addr):Prop where
 pg:PySem.W.plainGet K C Str.empty=true
 hd:PySem.W.hasDictIn K C=true
 po:PySem.W.plainOver K C=true
 sa:PySem.W.findIn K (.ref C) "__setattr__"=some (some (.builtin "object.__setattr__"))
theorem Cls.get{K:FG}{C:Addr}(c:Cls K C)(f:Str):PySem.W.plainGet K C f=true:=c.pg
def NoAttr(K:FG)(C:Addr)(f:Str):Prop:=PySem.W.findIn K (.ref C) f=some none
theorem NoAttr.taker{K:FG}{C:Addr}{f:Str}(n:NoAttr K C f):PySem.W.takerIn K C f=some none:=by
 unfold PySem.W.takerIn;rw[show PySem.W.findIn K (.ref C) f=some none from n];rfl
structure je(K:FG)(C:Addr)(m:Str)(f:Addr):Prop where
 at_:PySem.W.findIn K (.ref C) m=some (some (.ref f))
 fn:PySem.W.isFn K (.ref f)=true
 kp:PySem.W.keepIn K (.ref f)=true
section
variable{X:Cx}{pins:List (Addr×Obj)}{σ:St}{H:Hp}{s:Shared}{a C dx:Addr}{fs:List (Str×V)}{f:Str}{v:V}{A:Around}{E:Value->Shared->Prop}
theorem PV{b:Bool}{Q:Value->Shared->Prop}(I:Inv X pins σ H s)(e:H a=some (.ins C dx fs))(c:Cls X.K C)(n:NoAttr X.K C f)(l:fs.lookup f=some v)
  (h:∀u s',Inv X pins σ H s'->RelV v u->Q u s'):wpAny (model X.prog X.w) A (getAttr (.ref a) f b) Q E s:=by
 obtain⟨mA,O,r,_,_,_⟩:=pZ I.hok e;obtain⟨u,hu,ru⟩:=RelO.some_of (v:=v) (o:=mA f) (by rw[←l];exact r f);exact UO I.kIn O (c.get f) c.hd n hu (OZ ru) (h u _ (I.tok _) ru)
theorem B8{m:Str}{g:Addr}{pl:Sem Bool}{Q:Value×List Value->Shared->Prop}(I:Inv X pins σ H s)(e:H a=some (.ins C dx fs))(c:Cls X.K C)(k:je X.K C m g)(l:fs.lookup m=none)
  (h:Q (.ref g,[.ref a]) s):wpAny (model X.prog X.w) A (getMethod (.ref a) m pl) Q E s:=by
 obtain⟨mA,O,r,_,_,_⟩:=pZ I.hok e;have hn:mA m=none:=RelO.none_of (by rw[←l];exact r m);exact PP I.kIn O (c.get m) k.at_ k.fn hn h
theorem Wi{y:V}{u:Value}{Q:Unit->Shared->Prop}(I:Inv X pins σ H s)(e:H a=some (.ins C dx fs))(c:Cls X.K C)(n:NoAttr X.K C f)(hl:fs.length<1000)(ry:RelV y u)
  (h:∀s',Inv X pins σ (upd H a (.ins C dx (fj f y fs))) s'->Q () s'):wpAny (model X.prog X.w) A (setAttr (.ref a) f u) Q E s:=by
 obtain⟨mA,O,r,wi,_,ho⟩:=pZ I.hok e;have hz:(fs.map (·.1)).length<=sizeLine:=by rw[aQ,dW];omega
 refine P1 I.kIn O c.sa c.po n.taker c.hd wi hz λh' O' sb=>h _ ?_;have hd:∃o,h'.get? dx=some o:=let ⟨o,_,_,e',_⟩:=O'.ns;⟨o,e'⟩;refine I.write (x:=a) (e:=dx) (by rw[e];exact True.intro) (.inr ho) (λb q hb z=>(sb.2 b hb).trans z) hd ?_;refine⟨by rw[fh O.ne];exact ho,?_,O.ne,O'.obj,_,O'.ns,λg=>?_,λg hg=>?_⟩
 ·have:=MH f y fs;omega
 ·show RelO ((fj f y fs).lookup g) (if g=f then some u else mA g);rw[fK];by_cases q:g=f
  ·rw[if_pos q,if_pos q];exact ry
  ·rw[if_neg q,if_neg q];exact r g
 ·by_cases q:g=f
  ·rw[q];exact (uM f y fs).1
  ·refine (uM f y fs).2 g (wi g λz=>hg ?_);show (if g=f then some u else mA g)=none;rw[if_neg q];exact z
theorem Inv.made(I:Inv X pins σ H s):Inv X pins σ (upd (upd H s.heap.objs.size (.own (s.heap.objs.size+1))) (s.heap.objs.size+1) (.ins C s.heap.objs.size []))
  {s with heap:=(s.heap.push PySem.W.emptyDict).push (PySem.W.instObj C s.heap.objs.size)}:=by
 have e1:(s.heap.push PySem.W.emptyDict).get? s.heap.objs.size=some PySem.W.emptyDict:=bM s.heap rfl;have e2:((s.heap.push PySem.W.emptyDict).push (PySem.W.instObj C s.heap.objs.size)).get? (s.heap.objs.size+1)=some (PySem.W.instObj C s.heap.objs.size):=by
  have:=bM (s.heap.push PySem.W.emptyDict) (o:=PySem.W.instObj C s.heap.objs.size) rfl
  rwa [Heap.size_push] at this
 have e3:(s.heap.push PySem.W.emptyDict).Ns s.heap.objs.size (λ_=>none):=⟨PySem.W.emptyDict,#[],_,e1,rfl,(λe he=>absurd he (by simp)),λ_=>rfl⟩;have I1:=I.laid (a:=s.heap.objs.size) (o:=.own (s.heap.objs.size+1)) (h':=s.heap.push PySem.W.emptyDict) (t':=s.toks) (λb u q=>aU _ q) (aP _) ⟨_,e1⟩;refine I1.laid (a:=s.heap.objs.size+1) (o:=.ins C s.heap.objs.size []) (t':=s.toks) (λb u q=>aU _ q) (Nat.le_of_eq (Heap.size_push _ _)) ?_
 have ne:s.heap.objs.size≠s.heap.objs.size+1:=aW (Nat.lt_succ_self _);refine⟨by rw[fh ne,eJ],bD _,ne,e2,λ_=>none,(Heap.Ns1.of_empty e3).at λo q=>aU _ q,λ_=>True.intro,λy hy=>absurd rfl hy⟩
theorem PX{prog:Program}{w:World}{env:Env}{e:Expr}{f:Str}{pos:Pos}{s:Shared}{Q:Value->Shared->Prop}(hb:attributeBase e f env (eval e env)=eval e env)
  (h:wpAny (model prog w) A (eval e env) (λo s₁=>wpAny (model prog w) A (getAttr o f true) Q E s₁) E s):wpAny (model prog w) A (eval (.Attribute e f pos) env) Q E s:=
 Attribute_any_ h (by rw[arm_eval_Attribute,hb])
end
inductive Qg (K:FG) (f:Str) (x:V) (H1:Hp) (Q:VK):Prop
 |mk (a C dx:Addr) (fs:List (Str×V)) (v:V) (e:x=.ref a) (h:H1 a=some (.ins C dx fs)) (c:Cls K C) (n:NoAttr K C f) (l:fs.lookup f=some v) (r:Q v H1)
def wn(K:FG)(ta:TE)(f:Str):TE:=λσ H Q=>ta σ H λx H1=>Qg K f x H1 Q
def AM(K:FG)(ta tv:TE)(f:Str):TS:=λD σ H=>tv σ H λy H1=>ta σ H1 λx H2=>∃a C dx fs,x=.ref a/\H2 a=some (.ins C dx fs)/\Cls K C/\NoAttr K C f/\fs.length<1000/\
 D.nx σ (upd H2 a (.ins C dx (fj f y fs)))
section
variable{X:Cx}{o e value:Expr}{f:Str}{pos pos' tpos:Pos}{ta tv:TE}
theorem RN(he:PE X e ta)(hb:attributeBase e f X.env (eval e X.env)=eval e X.env):PE X (.Attribute e f pos) (wn X.K ta f):=by
 intro pins s σ H Q I h;refine PX hb (fg (he pins s σ H _ I h) λu s1 ⟨x,H1,I1,rx,a,C,dx,fs,v,ex,ea,c,n,l,q⟩=>?_);subst ex;obtain rfl:u=Value.ref a:=rx;exact PV I1 ea c n l λu' s2 I2 ru=>⟨v,H1,I2,ru,q⟩
theorem SO(ha:PE X o ta)(hv:PE X value tv)(hs:swapsWith value (some (.Attribute o f pos')) pos.line X.env=pure false):PS X (.Assign [.Attribute o f pos'] value pos) (AM X.K ta tv f):=by
 intro pins s σ H D I h;refine plainObj_wpAny_Assign_Attribute (fg (hv pins s σ H _ I h) λu s1 ⟨y,H1,I1,ry,q⟩=>fg (ha pins s1 σ H1 _ I1 q) λov s2 ⟨x,H2,I2,rx,a,C,dx,fs,ex,ea,c,n,l,q2⟩=>?_) hs;subst ex;obtain rfl:ov=Value.ref a:=rx;exact Wi I2 ea c n l ry λs3 I3=>⟨σ,_,I3,q2⟩
end
section
variable{X:Cx}{pins:List (Addr×Obj)}{σ:St}{H:Hp}{s:Shared}{A:Around}{E:Value->Shared->Prop}{Q:Value->Shared->Prop}{c:Value}{b:Bool}
inductive iP (K:FG) (H:Hp):V->Value->Prop where
 |non:iP K H .non (.type "NoneType")
 |bl (x:Bool):iP K H (.bl x) (.type "bool")
 |int (i:Int):iP K H (.int i) (.type "int")
 |str (x:Str):iP K H (.str x) (.type "str")
 |flt (x:UInt64):iP K H (.flt x) (.type "float")
 |lst {a:Addr} {xs:List V} (e:H a=some (.lst xs)):iP K H (.ref a) (.type "list")
 |frz {a:Addr} {o:Obj} {xs:List V} (e:H a=some (.frz o (.lst xs))):iP K H (.ref a) (.type "list")
 |tup {a:Addr} {xs:List V} (e:H a=some (.tup xs)):iP K H (.ref a) (.type "tuple")
 |dK {a:Addr} {kvs:List (fO×V)} (e:H a=some (.dK kvs)):iP K H (.ref a) (.type "dict")
 |dT {a:Addr} {kvs:List (List fO×V)} (e:H a=some (.dT kvs)):iP K H (.ref a) (.type "dict")
 |ins {a C dx:Addr} {fs:List (Str×V)} (e:H a=some (.ins C dx fs)) (cl:Cls K C) (ha:PySem.W.findIn K (.ref C) "__class__"=some (some (.builtin "object.__class__")))
   (hn:PySem.W.specialIn K (.builtin "object.__class__") "__get__"=some (some (.builtin "getset_descriptor.__get__"))) (htk:PySem.W.takesIn K (.builtin "object.__class__")=some true)
   (hm:PySem.W.mroIn K C (.type "object")=some true):iP K H (.ref a) (.ref C)
theorem Nj{x:V}{u t:Value}(I:Inv X pins σ H s)(rx:RelV x u)(ty:iP X.K H x t)(e:PySem.W.kitOne X.K t c=some b)(h:∀tk,Q (.bool b) {s with toks:=tk}):
  wpAny (model X.prog X.w) A (call (.builtin "isinstance") [u,c]) Q E s:=by
 cases ty with
 |non=>cases (show u=Value.none from rx);exact PySem.W.kia_one PySem.W.kitx_none I.kIn True.intro e (λz=>nomatch z) h
 |bl y=>cases (show u=Value.bool y from rx);exact PySem.W.kia_one PySem.W.kitx_bool I.kIn True.intro e (λz=>nomatch z) h
 |int i=>obtain⟨t,q⟩:=(show ∃t,u=Value.int i t from rx);cases q;exact PySem.W.kia_one PySem.W.kitx_int I.kIn True.intro e (λz=>nomatch z) h
 |str y=>obtain⟨t,q⟩:=(show ∃t,u=Value.str y t from rx);cases q;exact PySem.W.kia_one PySem.W.kitx_str I.kIn True.intro e (λz=>nomatch z) h
 |flt y=>obtain⟨t,q⟩:=(show ∃t,u=Value.float y t from rx);cases q;exact PySem.W.kia_one PySem.W.kitx_float I.kIn True.intro e (λz=>nomatch z) h
 |@lst a xs ea=>
  cases (show u=Value.ref a from rx);obtain⟨_,_,n,_,h1⟩:=(show ObjOk X.prog X.w H s.heap a (.lst xs) from I.hok a _ ea);exact PySem.W.kia_one PySem.W.kitx_list I.kIn ⟨_,h1,rfl⟩ e (λz=>nomatch z) h
 |@frz a ob xs ea=>
  cases (show u=Value.ref a from rx);obtain⟨_,_,_,n,_,h1⟩:=(show ObjOk X.prog X.w H s.heap a (.frz ob (.lst xs)) from I.hok a _ ea);exact PySem.W.kia_one PySem.W.kitx_list I.kIn ⟨_,h1,rfl⟩ e (λz=>nomatch z) h
 |@tup a xs ea=>
  cases (show u=Value.ref a from rx);obtain⟨_,_,_,p⟩:=(show ObjOk X.prog X.w H s.heap a (.tup xs) from I.hok a _ ea);obtain⟨o,h1,h2,_⟩:=p;exact PySem.W.kia_one PySem.W.kitx_tuple I.kIn ⟨o,h1,h2⟩ e (λz=>nomatch z) h
 |@dK a kvs ea=>
  cases (show u=Value.ref a from rx);obtain⟨_,_,vs,_,p⟩:=(show ObjOk X.prog X.w H s.heap a (.dK kvs) from I.hok a _ ea);obtain⟨o,es,ep,h1,h2,_⟩:=p;exact PySem.W.kia_one PySem.W.kitx_dict I.kIn ⟨o,h1,h2.1⟩ e (λz=>nomatch z) h
 |@dT a kvs ea=>
  cases (show u=Value.ref a from rx);obtain⟨_,_,xs,_,o,es,ep,h1,h2,_⟩:=(show ObjOk X.prog X.w H s.heap a (.dT kvs) from I.hok a _ ea);exact PySem.W.kia_one PySem.W.kitx_dict I.kIn ⟨o,h1,h2.1⟩ e (λz=>nomatch z) h
 |@ins a C dx fs ea cl ha hn htk hm=>
  cases (show u=Value.ref a from rx);obtain⟨mA,O,_⟩:=pZ I.hok ea;obtain⟨od,J,_⟩:=O.look;exact PySem.W.kia_one (PySem.W.kitx_own (cl.get _) cl.hd ha hn htk hm) I.kIn J e (λz=>nomatch z) h
end
structure Room(k:Nat)(A:Around):Prop where
 hd:A.handled=none
 dp:A.depth+3*k+5<recursionLimit
 un:A.units+16*k+200<cLine
theorem Room.mono{j k:Nat}{A:Around}(r:Room k A)(h:j<=k):Room j A:=⟨r.hd,by have:=r.dp;omega,by have:=r.un;omega⟩
theorem Room.deeper{k:Nat}{A:Around}(r:Room (k+1) A)(env:Env):Room k (A.deeper env):=
 ⟨r.hd,by have:=r.dp;show A.depth+1+3*k+5<_;omega,by have:=r.un;show A.units+3+16*k+200<_;omega⟩
theorem Ql{A:Around}{C:Addr}{us:List Value}{kw:List (Str×Value)}:(A.under (.builtin "type.__call__" ⟨.ref C::us,kw⟩)).depth=A.depth+1:=by
 first | rfl | simp[Around.under,Code.weight,Code.isCreation,Code.isGuard,Code.isCaller,Code.frames,Code.isFrame,guardIds]
theorem QO{A:Around}{C:Addr}{us:List Value}{kw:List (Str×Value)}:(A.under (.builtin "type.__call__" ⟨.ref C::us,kw⟩)).units=A.units+1:=by
 first | rfl | simp[Around.under,Code.cUnits,Code.frames,Code.isFrame]
theorem Room.make{k:Nat}{A:Around}(r:Room (k+1) A)(C:Addr)(us:List Value)(kw:List (Str×Value)):Room k (A.under (.builtin "type.__call__" ⟨.ref C::us,kw⟩)):=
 ⟨r.hd,by have:=r.dp;rw[Ql];omega,by have:=r.un;rw[QO];omega⟩
theorem Room.depth{k:Nat}{A:Around}(r:Room k A):A.depth<recursionLimit:=by have:=r.dp;omega
theorem Room.units{k:Nat}{A:Around}(r:Room k A):A.units+64<cLine:=by have:=r.un;omega
def il:TA:=λ_ H Q=>Q [] H
def iI(ta:TE)(tr:TA):TA:=λσ H Q=>ta σ H λx H1=>tr σ H1 λxs H2=>Q (x::xs) H2
section
variable{X:Cx}{e:Expr}{es:List Expr}{te:TE}{t:TA}{pos:Pos}
theorem kz:PA X [] il:=λ_ _ _ _ H Q I h=>Calls.spliced_nil ⟨[],H,I,.nil,h⟩
theorem jR(ha:PE X e te)(hr:PA X es t)(hs:starEach (e::es) X.env=(false,eval e X.env)::starEach es X.env:=by rfl):PA X (e::es) (iI te t):=by
 intro pos pins s σ H Q I h;rw[hs];show wpAny _ _ (spliced ((false,eval e X.env)::backTo pos (starEach es X.env))) _ _ s;refine Calls.spliced_cons (fg (ha pins s σ H _ I h) λu s1 ⟨x,H1,I1,r1,q1⟩=>?_);exact fg (hr pos pins s1 σ H1 _ I1 q1) λus s2 ⟨xs,H2,I2,r2,q2⟩=>⟨x::xs,H2,I2,.cons r1 r2,q2⟩
inductive Oo (xs:List V) (H1:Hp) (Q:VK):Prop
 |mk (l:xs.length<=sizeLine) (r:∀p,H1 p=none->Q (.ref p) (upd H1 p (.tup xs)))
def Mx(t:TA):TE:=λσ H Q=>t σ H λxs H1=>Oo xs H1 Q
inductive T4 (xs:List V) (H1:Hp) (Q:VK):Prop
 |mk (l:xs.length<=sizeLine) (r:∀p,H1 p=none->Q (.ref p) (upd H1 p (.lst xs)))
def Kz(t:TA):TE:=λσ H Q=>t σ H λxs H1=>T4 xs H1 Q
theorem Tb{x1}(h:PA X es t):PE X (.Tuple es x1 pos) (Mx t):=by
 intro pins s σ H Q I hq;refine wpAny_Tuple_spliced (fg (h pos pins s σ H _ I hq) λus s1 ⟨xs,H1,I1,r,z,q⟩=>⟨by rw[←r.length];exact z,?_⟩);have hf:H1 s1.heap.objs.size=none:=I1.hok.fresh (aP _);refine⟨.ref s1.heap.objs.size,upd H1 s1.heap.objs.size (.tup xs),I1.laid (t':=s1.toks) (λb u e=>aU _ e) (aP _) ?_,rfl,q _ hf⟩;exact⟨z,us,r,⟨_,bM _ rfl,rfl,()⟩⟩
theorem V1(h:PA X es t):PE X (.List es pos) (Kz t):=by
 intro pins s σ H Q I hq;refine wpAny_List_spliced (fg (h pos pins s σ H _ I hq) λus s1 ⟨xs,H1,I1,r,z,q⟩=>⟨by rw[←r.length];exact z,?_⟩);have hf:H1 s1.heap.objs.size=none:=I1.hok.fresh (aP _);refine⟨.ref s1.heap.objs.size,upd H1 s1.heap.objs.size (.lst xs),I1.laid (t':=s1.toks) (λb u e=>aU _ e) (aP _) ?_,rfl,q _ hf⟩;exact⟨z,us,0,r,bM _ rfl⟩
end
noncomputable abbrev Sp:=List V->Hp->VK->XK->Prop
noncomputable abbrev jV:=List Env->Hp->Shared->XK->Value->Shared->Prop
structure Env0(P:Program)(w:World)(K:FG)(mg:Str->Option Value)(base:Heap)(A:Around)(outer:List Env)(s:Shared)(H:Hp):Prop where
 frames:A.frames=some outer
 mod:Mod K mg base
 bs:∀b o,base.get? b=some o->s.heap.get? b=some o/\H b=none
 bsz:base.objs.size<=s.heap.objs.size
 funs:s.heap.FunFrames base outer
 frf:∀b∈jm outer,H b=none
 hok:HOk P w H s.heap
 bare:AllBare s.gens
def CE(outer:List Env)(P:Program)(w:World)(H:Hp)(s:Shared)(Q:VK)(u:Value)(s':Shared):Prop:=
 ∃v H',s'.os=s.os/\AllBare s'.gens/\Un (jm outer) [] H H' s.heap s'.heap/\HOk P w H' s'.heap/\RelV v u/\Q v H'
def CR(CX:jV)(outer:List Env)(P:Program)(w:World)(H:Hp)(s:Shared)(Q:VK)(E:XK)(r:Result)(s':Shared):Prop:=
 match r with
 |.ok (.ret u)=>CE outer P w H s Q u s'
 |.ok _=>False
 |.error e=>CX outer H s E e s'
structure fR(P:Program)(w:World)(K:FG)(mg:Str->Option Value)(base:Heap)(CX:jV)(k:Nat)(f:Addr)(fd:FuncData)(ps:List Str)(sp:Sp):Prop where
 len:∀vs H Q E,sp vs H Q E->vs.length=ps.length
 run:∀(A:Around) (outer:List Env) (s:Shared) (H:Hp) (args:Args) (us:List Value) (vs:List V) (Q:VK) (E:XK),Room k A->Env0 P w K mg base A outer s H->BindsTo s fd args (ps.zip us)->Vals vs us->sp vs H Q E->
  codeAny (model P w) A (.call (.ref f) args) (CR CX outer P w H s Q E) s
theorem Env0.make{P:Program}{w:World}{K:FG}{mg:Str->Option Value}{base:Heap}{A:Around}{outer:List Env}{s:Shared}{H:Hp}(e:Env0 P w K mg base A outer s H)(C:Addr)(us:List Value)(kw:List (Str×Value)):
  Env0 P w K mg base (A.under (.builtin "type.__call__" ⟨.ref C::us,kw⟩)) outer s H:=⟨by first | exact e.frames | (simpa [Around.under,Code.envs,Code.isFrame,pushEnvs] using e.frames),e.mod,e.bs,e.bsz,e.funs,e.frf,e.hok,e.bare⟩
section
variable{X:Cx}{pins:List (Addr×Obj)}{σ:St}{H:Hp}{s s':Shared}
theorem Inv.env0(I:Inv X pins σ H s):Env0 X.prog X.w X.K X.mg X.base X.A X.stack s H:=
 ⟨I.ok.frames,I.ok.mod,I.bs,bK I.ok.bsz I.sz,I.stack,I.stkFree,I.hok,I.bare⟩
theorem Inv.after{Q:VK}{u:Value}(I:Inv X pins σ H s)(h:CE X.stack X.prog X.w H s Q u s'):EP X pins σ Q u s':=by
 obtain⟨v,H',os,bare,un,hok,r,q⟩:=h;obtain⟨hh,g,d,t,os'⟩:=s';obtain rfl:os'=s.os:=os;exact⟨v,H',I.call (h':=hh) (g':=g) (d':=d) (t':=t) (ch:=[]) un hok bare (λb z=>absurd z (by simp)),r,q⟩
end
def nB(sp:Sp)(dvs:List V)(E:XK)(t:TA):TE:=λσ H Q=>t σ H λvs H1=>sp (vs++dvs) H1 Q E
inductive Ob (C:Addr) (m:Str) (x:V) (H1:Hp) (R:Prop):Prop
 |mk (a dx:Addr) (fs:List (Str×V)) (e:x=.ref a) (h:H1 a=some (.ins C dx fs)) (l:fs.lookup m=none) (r:R)
def qA(C:Addr)(m:Str)(sp:Sp)(dvs:List V)(E:XK)(ta:TE)(t:TA):TE:=λσ H Q=>ta σ H λx H1=>Ob C m x H1 (t σ H1 λvs H2=>sp (x::(vs++dvs)) H2 Q E)
def qz(C:Addr)(sp:Sp)(dvs:List V)(E:XK)(t:TA):TE:=λσ H Q=>t σ H λvs H1=>∀x dx,H1 x=none->H1 dx=none->dx≠x->
 sp (.ref x::(vs++dvs)) (upd (upd H1 dx (.own x)) x (.ins C dx [])) (λv H2=>v=.non/\Q (.ref x) H2) E
def Binds(K:FG)(fd:FuncData)(ps:List Str)(ds:List Value):Prop:=
 ∀(s:Shared) (us:List Value),K.In s.heap->(us++ds).length=ps.length->BindsTo s fd ⟨us,[]⟩ (ps.zip (us++ds))
theorem Binds.all{K:FG}{fd:FuncData}{ps:List Str}(h:∀us:List Value,us.length=ps.length->bindArgs fd ⟨us,[]⟩=pure (ps.zip us)):Binds K fd ps []:=λs us _ hl=>by
 rw[b8] at hl ⊢;exact .of_eq (h us hl)
def kT(CX:jV)(X:Cx)(E:XK):Prop:=∀(pins:List (Addr×Obj)) (σ:St) (H:Hp) (s:Shared) (e:Value) (s':Shared),Inv X pins σ H s->CX X.stack H s E e s'->X.xe e s'
section
variable{X:Cx}{CX:jV}{k:Nat}{f C:Addr}{fd:FuncData}{ps:List Str}{sp:Sp}{dvs:List V}{ds:List Value}{E:XK}{x m:Str}{p pos apos:Pos}{e o:Expr}{es:List Expr}{ta:TE}{t:TA}
theorem oi{pins:List (Addr×Obj)}{σ:St}{H:Hp}{s:Shared}{Q:VK}{us:List Value}{vs:List V}(F:fR X.prog X.w X.K X.mg X.base CX k f fd ps sp)(hr:Room k X.A)(hb:Binds X.K fd ps ds)(hd:Vals dvs ds)(hx:kT CX X E)
  (I:Inv X pins σ H s) (r:Vals vs us) (h:sp (vs++dvs) H Q E):wpAny (model X.prog X.w) X.A (call (.ref f) us) (EP X pins σ Q) X.xe s:=by
 have r2:Vals (vs++dvs) (us++ds):=r.append hd;have hl:(us++ds).length=ps.length:=by rw[←r2.length];exact F.len _ _ _ _ h
 refine wpAny_call (codeAny_mono (F.run X.A X.stack s H ⟨us,[]⟩ (us++ds) (vs++dvs) Q E hr I.env0 (hb s us I.kIn hl) r2 h) λr s' hq=>?_);cases r with
 |error e=>exact hx pins σ H s e s' I hq
 |ok fl=>
  cases fl with
  |ret u=>exact I.after hq
  |next=>exact False.elim hq
  |brk=>exact False.elim hq
  |cont=>exact False.elim hq
theorem SQ(F:fR X.prog X.w X.K X.mg X.base CX k f fd ps sp)(hr:Room k X.A)(hg:Gl X x)(hm:X.mg x=some (.ref f))(hk:PySem.W.keepIn X.K (.ref f)=true)(hb:Binds X.K fd ps ds)(hd:Vals dvs ds)(hx:kT CX X E)
  (ha:PA X (e::es) t) (hdb:(x==("__debug__":Str))=false:=by decide) (he:starEach (e::es) X.env=(false,eval e X.env)::starEach es X.env:=by rfl) (hpl:(backTo pos (starEach es X.env)).any (·.1)=false:=by rfl):
  PE X (.Call (.Name x p) (e::es) [] pos) (nB sp dvs E t):=by
 intro pins s σ H Q I h;refine d8 (mC I hg hm ?_ hdb);refine PySem.W.callWith_K (h₀:=X.base) I.ok.mod.kin hk (fg (ha pos pins s σ H _ I h) λus s1 ⟨vs,H1,I1,r,q⟩=>⟨I1.kIn,?_⟩) he hpl;exact oi F hr hb hd hx I1 r q
theorem NO(F:fR X.prog X.w X.K X.mg X.base CX k f fd ps sp)(hr:Room k X.A)(hg:Gl X x)(hm:X.mg x=some (.ref f))(hk:PySem.W.keepIn X.K (.ref f)=true)(hb:Binds X.K fd ps ds)(hd:Vals dvs ds)(hx:kT CX X E)
  (hdb:(x==("__debug__":Str))=false:=by decide):PE X (.Call (.Name x p) [] [] pos) (nB sp dvs E il):=by
 intro pins s σ H Q I h;refine d8 (mC I hg hm ?_ hdb);exact PySem.W.callWith_K0 I.kIn hk (oi (us:=[]) F hr hb hd hx I .nil h)
theorem W0{pl:Sem Bool}(he:PE X o ta)(c:Cls X.K C)(hm:je X.K C m f)(F:fR X.prog X.w X.K X.mg X.base CX k f fd ps sp)(hr:Room k X.A)(hb:Binds X.K fd ps ds)(hd:Vals dvs ds)(hx:kT CX X E)(ha:PA X (e::es) t)
  (hst:starEach (e::es) X.env=(false,eval e X.env)::starEach es X.env:=by rfl) (hpl:(backTo pos (starEach es X.env)).any (·.1)=false:=by rfl)
  (ht:eval (.Call (.Attribute o m apos) (e::es) [] pos) X.env=(do
   let ov ←eval o X.env
   standAt apos.atName
   let (f,first) ←holding [ov] (getMethod ov m pl)
   callWith pos f first (backTo pos (starEach (e::es) X.env)) (backToKw pos (keywordEach [] X.env))):=by rfl):
  PE X (.Call (.Attribute o m apos) (e::es) [] pos) (qA C m sp dvs E ta t):=by
 intro pins s σ H Q I h;refine PySem.W.methodCall_KW (pl:=pl) (fg (he pins s σ H _ I h) λu s1 ⟨x,H1,I1,rx,a,dx,fs,ex,ea,l,q⟩=>?_) ht;subst ex;obtain rfl:u=Value.ref a:=rx;refine B8 I1 ea c hm l ?_;refine PySem.W.callWith_K (first:=[.ref a]) (h₀:=X.base) I.ok.mod.kin hm.kp (fg (ha pos pins s1 σ H1 _ I1 q) λus s2 ⟨vs,H2,I2,r,q2⟩=>⟨I2.kIn,?_⟩) hst hpl;exact oi (us:=.ref a::us) (vs:=.ref a::vs) F hr hb hd hx I2 (.cons rfl r) q2
theorem OL{pl:Sem Bool}(he:PE X o ta)(c:Cls X.K C)(hm:je X.K C m f)(F:fR X.prog X.w X.K X.mg X.base CX k f fd ps sp)(hr:Room k X.A)(hb:Binds X.K fd ps ds)(hd:Vals dvs ds)(hx:kT CX X E)
  (ht:eval (.Call (.Attribute o m apos) [] [] pos) X.env=(do
   let ov ←eval o X.env
   standAt apos.atName
   let (f,first) ←holding [ov] (getMethod ov m pl)
   callWith pos f first (backTo pos (starEach [] X.env)) (backToKw pos (keywordEach [] X.env))):=by rfl):
  PE X (.Call (.Attribute o m apos) [] [] pos) (qA C m sp dvs E ta il):=by
 intro pins s σ H Q I h;refine PySem.W.methodCall_KW (pl:=pl) (fg (he pins s σ H _ I h) λu s1 ⟨x,H1,I1,rx,a,dx,fs,ex,ea,l,q⟩=>?_) ht;subst ex;obtain rfl:u=Value.ref a:=rx;refine B8 I1 ea c hm l ?_;exact PySem.W.callWith_K0 (first:=[.ref a]) I1.kIn hm.kp (oi (us:=[.ref a]) (vs:=[.ref a]) F hr hb hd hx I1 (.cons rfl .nil) q)
structure Mk(K:FG)(C f:Addr):Prop where
 makes:PySem.W.makesIn K C=true
 init:PySem.W.findIn K (.ref C) "__init__"=some (some (.ref f))
 fn:PySem.W.isFn K (.ref f)=true
 kp:PySem.W.keepIn K (.ref C)=true
theorem E9{pins:List (Addr×Obj)}{σ:St}{H:Hp}{s:Shared}{Q:VK}{us:List Value}{vs:List V}(M:Mk X.K C f)(F:fR X.prog X.w X.K X.mg X.base CX k f fd ps sp)(hr:Room (k+1) X.A)(hb:Binds X.K fd ps ds)(hd:Vals dvs ds)
  (hx:kT CX X E) (I:Inv X pins σ H s) (r:Vals vs us)
  (h:∀x dx,H x=none->H dx=none->dx≠x->sp (.ref x::(vs++dvs)) (upd (upd H dx (.own x)) x (.ins C dx [])) (λv H2=>v=.non/\Q (.ref x) H2) E):
  wpAny (model X.prog X.w) X.A (call (.ref C) us) (EP X pins σ Q) X.xe s:=by
 have hq:=h (s.heap.objs.size+1) s.heap.objs.size (I.hok.fresh (Nat.le_succ _)) (I.hok.fresh (aP _)) (aW (Nat.lt_succ_self _));have I2:=Inv.made (C:=C) I;have r2:Vals (V.ref (s.heap.objs.size+1)::(vs++dvs)) (Value.ref (s.heap.objs.size+1)::(us++ds)):=.cons rfl (r.append hd);have hl:(Value.ref (s.heap.objs.size+1)::us++ds).length=ps.length:=by
  have e:=r2.length;rw[F.len _ _ _ _ hq] at e;exact e.symm
 refine wpAny_call (P9 (f:=f) I.kIn M.makes M.init (beq_iff_eq.mp M.fn) (codeAny_mono (F.run _ X.stack _ _ ⟨Value.ref (s.heap.objs.size+1)::us,[]⟩ (Value.ref (s.heap.objs.size+1)::(us++ds)) _ _ E (hr.make C us [])
  (I2.env0.make C us []) (hb _ (Value.ref (s.heap.objs.size+1)::us) I2.kIn hl) r2 hq) λr s' hq'=>?_))
 cases r with
 |error e=>exact hx pins σ _ _ e s' I2 hq'
 |ok fl=>
  cases fl with
  |ret u=>
   obtain⟨v,H',I3,rv,ev,q3⟩:=I2.after hq';subst ev;exact⟨rv,⟨V.ref (s.heap.objs.size+1),H',I3,rfl,q3⟩⟩
  |next=>exact False.elim hq'
  |brk=>exact False.elim hq'
  |cont=>exact False.elim hq'
theorem Nt(M:Mk X.K C f)(F:fR X.prog X.w X.K X.mg X.base CX k f fd ps sp)(hr:Room (k+1) X.A)(hg:Gl X x)(hm:X.mg x=some (.ref C))(hb:Binds X.K fd ps ds)(hd:Vals dvs ds)(hx:kT CX X E)
  (ha:PA X (e::es) t) (hdb:(x==("__debug__":Str))=false:=by decide) (he:starEach (e::es) X.env=(false,eval e X.env)::starEach es X.env:=by rfl) (hpl:(backTo pos (starEach es X.env)).any (·.1)=false:=by rfl):
  PE X (.Call (.Name x p) (e::es) [] pos) (qz C sp dvs E t):=by
 intro pins s σ H Q I h;refine d8 (mC I hg hm ?_ hdb);refine PySem.W.callWith_K (h₀:=X.base) I.ok.mod.kin M.kp (fg (ha pos pins s σ H _ I h) λus s1 ⟨vs,H1,I1,r,q⟩=>⟨I1.kIn,?_⟩) he hpl;exact E9 M F hr hb hd hx I1 r q
theorem NK(M:Mk X.K C f)(F:fR X.prog X.w X.K X.mg X.base CX k f fd ps sp)(hr:Room (k+1) X.A)(hg:Gl X x)(hm:X.mg x=some (.ref C))(hb:Binds X.K fd ps ds)(hd:Vals dvs ds)(hx:kT CX X E)
  (hdb:(x==("__debug__":Str))=false:=by decide):PE X (.Call (.Name x p) [] [] pos) (qz C sp dvs E il):=by
 intro pins s σ H Q I h;refine d8 (mC I hg hm ?_ hdb);exact PySem.W.callWith_K0 I.kIn M.kp (E9 (us:=[]) M F hr hb hd hx I .nil h)
variable{ks:List Str}{kpos:Pos}{kws:List Keyword}{te:TE}{tk:TA}{nm:Option Str}{g:List Value->List Value->List Value}{gV:List V->List V->List V}
end
structure eC(N P:List Str)(sc:Scope):Prop where
 kind:sc.kind=.function
 co:sc.isCoroutine=false
 gen:sc.isGenerator=false
 nd:N.Nodup
 pre:N.take P.length=P
 par:∀x∈P,sc.names.lookup x=some .local∨sc.names.lookup x=some .cell
 nofree:∀y∈sc.names,y.2≠ .free
theorem FS{kindOf:Str->Option NameKind}{x:Str}:∀{binds:List (Str×Value)} {m:Str->Option Value},(∀v,(x,v)∉binds)->bindL kindOf binds m x=m x
 |[],_,_=>rfl
 |(n,v)::r,m,h=>by
  unfold bindL;rw[FS λw hw=>h w (bN _ hw)];split
  ·have:x≠n:=by rintro rfl;exact h v bF
   simp[this]
  ·rfl
theorem Ep{kindOf:Str->Option NameKind}{x:Str}:∀{binds:List (Str×Value)} {m:Str->Option Value},(∀v,(x,v)∉binds)->bindC kindOf binds m x=m x
 |[],_,_=>rfl
 |(n,v)::r,m,h=>by
  unfold bindC;rw[Ep λw hw=>h w (bN _ hw)];split
  ·rfl
  ·have:x≠n:=by rintro rfl;exact h v bF
   simp[this]
theorem ER{kindOf:Str->Option NameKind}{x:Str}{v:Value}:∀{P:List Str} {vs:List Value} {i:Nat} {m:Str->Option Value},P.Nodup->P[i]? =some x->vs[i]? =some v->kindOf x=some .local->
  bindL kindOf (P.zip vs) m x=some v
 |[],_,_,_,_,h,_,_=>by simp at h
 |_::_,[],_,_,_,_,h,_=>by simp at h
 |p::P,w::vs,0,m,nd,h1,h2,hk=>by
  simp at h1 h2;subst h1;subst h2;show bindL kindOf ((p,w)::P.zip vs) m p=_;unfold bindL;rw[FS λv hv=>(List.nodup_cons.mp nd).1 (List.of_mem_zip hv).1,if_pos hk];simp
 |p::P,w::vs,i+1,m,nd,h1,h2,hk=>by
  show bindL kindOf ((p,w)::P.zip vs) m x=_;unfold bindL;exact ER (i:=i) (List.nodup_cons.mp nd).2 (by simpa using h1) (by simpa using h2) hk
theorem yu{kindOf:Str->Option NameKind}{x:Str}{v:Value}:∀{P:List Str} {vs:List Value} {i:Nat} {m:Str->Option Value},P.Nodup->P[i]? =some x->vs[i]? =some v->kindOf x≠some .local->
  bindC kindOf (P.zip vs) m x=some v
 |[],_,_,_,_,h,_,_=>by simp at h
 |_::_,[],_,_,_,_,h,_=>by simp at h
 |p::P,w::vs,0,m,nd,h1,h2,hk=>by
  simp at h1 h2;subst h1;subst h2;show bindC kindOf ((p,w)::P.zip vs) m p=_;unfold bindC;rw[Ep λv hv=>(List.nodup_cons.mp nd).1 (List.of_mem_zip hv).1,if_neg hk];simp
 |p::P,w::vs,i+1,m,nd,h1,h2,hk=>by
  show bindC kindOf ((p,w)::P.zip vs) m x=_;unfold bindC;exact yu (i:=i) (List.nodup_cons.mp nd).2 (by simpa using h1) (by simpa using h2) hk
noncomputable def start(N:List Str)(vs:List V):St:=vs.map some++List.replicate (N.length-vs.length) none
noncomputable def lF(CX:jV)(P:Program)(w:World)(K:FG)(mg:Str->Option Value)(base:Heap)(N:List Str)(qual:Str)(scope:Scope)(f:Addr)(cd:Value)(A:Around)(outer:List Env)(s:Shared)(H:Hp)(E:XK):Cx where
 prog:=P
 w:=w
 K:=K
 mg:=mg
 base:=base
 A:=A.deeper (envOfC qual scope s.heap.objs.size f cd)
 N:=N
 s₀:=s
 H₀:=H
 env:=envOfC qual scope s.heap.objs.size f cd
 outer:=outer
 stack:=envOfC qual scope s.heap.objs.size f cd::outer
 ex:=[]
 calm:=true
 fn:=λ_=>true
 pn:=[]
 xe:=λe s'=>wpAny (model P w) (A.deeper (envOfC qual scope s.heap.objs.size f cd)) (leaving (envOfC qual scope s.heap.objs.size f cd) e) (λ_ s''=>CX outer H s E e s'') (λe' s''=>CX outer H s E e' s'') s'
theorem KE{sc:Scope}{n:Nat}{x:Str}(h:sc.names.lookup x=some .cell):∃c,(cellsFrom n sc.names []).lookup x=some c:=by
 have q:=PySem.W.cellsFrom_some sc.names n [] (.inl h);exact dG.mp q
theorem Pb{CX:jV}{P:Program}{w:World}{K:FG}{mg:Str->Option Value}{base:Heap}{N ps:List Str}{qual:Str}{scope:Scope}{f:Addr}{cd:Value}{A:Around}{outer:List Env}{s s1:Shared}{H:Hp}{E:XK}{us:List Value}{vs:List V}
  (S:eC N ps scope) (hd:A.handled=none) (e0:Env0 P w K mg base A outer s H) (hl:vs.length=ps.length) (r:Vals vs us)
  (x:InCallC s s.heap.objs.size (bindL (envOfC qual scope s.heap.objs.size f cd).kindOf (ps.zip us) λ_=>none) (cellsFrom (s.heap.objs.size+1) scope.names []) (bindC (envOfC qual scope s.heap.objs.size f cd).kindOf (ps.zip us) λ_=>none) s1):
  Inv (lF CX P w K mg base N qual scope f cd A outer s H E) [] (start N vs) H s1:=by
 have hpl:ps.length<=N.length:=by have:=congrArg List.length S.pre;rw[b9] at this;omega
 obtain⟨h1,tk,rfl,hk⟩:=x.done;have noA:∀b:Addr,b∉(lF CX P w K mg base N qual scope f cd A outer s H E).ex:=λb z=>absurd (show b∈([]:List Addr) from z) (by simp);refine⟨⟨e0.mod,S.kind,rfl,rfl,aP _,λy z c h1 h2=>?_,λy hy=>?_,λy c _ h=>?_,λ_=>hd,Around.frames_deeper e0.frames,.inr ⟨rfl,rfl⟩,λb z=>absurd z (noA b),e0.bs,e0.bsz,λb _ _=>noA b,λb z=>absurd z (noA b),e0.funs,e0.frf⟩,
  rfl,e0.bare,Un.kept hk,⟨_,x.toInCall.ns,λi y v h1 h2 h3=>?_⟩,λy c h=>⟨_,x.cell y c h⟩,e0.hok.fresh (aP _),λy c h=>?_,λp hp=>absurd (show p∈([]:List (Addr×Obj)) from hp) (by simp),e0.hok.kept hk,?_⟩
 ·exact name_of_addr x.apart (PySem.mem_of_lookup h1) (PySem.mem_of_lookup h2)
 ·have hy:scope.names.lookup y=some .cell∨scope.names.lookup y=some .free:=hy;rcases hy with hy | hy
  ·exact KE hy
  ·exact absurd rfl (S.nofree _ (PySem.mem_of_lookup hy))
 ·exact Nat.le_of_lt (x.above y c (PySem.mem_of_lookup h))
 ·have hi:i<vs.length:=by
   unfold start at h2;by_cases hi:i<vs.length
   ·exact hi
   ·rw[cF (by simpa using hi)] at h2;rw[List.getElem?_replicate] at h2;split at h2<;>cases h2
  have ha:vs[i]? =some v:=by
   unfold start at h2;rw[cH (by simpa using hi),bG] at h2;cases e:vs[i]? with
   |none=>rw[e] at h2;cases h2
   |some a=>rw[e] at h2;cases h2;rfl
  obtain⟨u,hu,rv⟩:=r.get ha;have hp:ps[i]? =some y:=by
   rw[←S.pre,List.getElem?_take_of_lt ⋯];exact h1
  have ndP:ps.Nodup:=by rw[←S.pre];exact S.nd.sublist (List.take_sublist _ _)
  refine⟨u,rv,?_⟩;rcases S.par y (aY hp) with k | k
  ·exact .inl ⟨k,ER ndP hp hu k⟩
  ·obtain⟨c,e⟩:=KE (n:=s.heap.objs.size+1) k;refine .inr ⟨.inl k,c,e,?_⟩;have q:=x.cell y c e;rw[yu ndP hp hu (by show scope.names.lookup y≠_;rw[k];decide)] at q;exact q
 ·exact e0.hok.fresh (Nat.le_of_lt (x.above y c (PySem.mem_of_lookup h)))
 ·unfold start;show _=N.length;rw[aS,aQ,cT];omega
theorem CA{CX:jV}{P:Program}{w:World}{K:FG}{mg:Str->Option Value}{base:Heap}{k:Nat}{f:Addr}{name qual:Str}{params:Arguments}{body:List Stmt}{scope:Scope}{dV kV doc pm cdv ct oc:Value}{an od:Option Addr}
  {osl:Array (Option Value)} {N ps:List Str} {sp:Sp} (lk:K.lookup f=some ⟨oc,od,.func (PySem.W.fnOf name qual params body scope dV kV doc pm an cdv ct),osl⟩) (hcd:PySem.W.codeIn K cdv qual=true) (S:eC N ps scope)
  (len:∀vs H Q E,sp vs H Q E->vs.length=ps.length)
  (hbody:∀(A:Around) (outer:List Env) (s:Shared) (H:Hp) (vs:List V) (Q:VK) (E:XK),Room k (A.deeper (envOfC qual scope s.heap.objs.size f cdv))->sp vs H Q E->
   ∃t,PSs (lF CX P w K mg base N qual scope f cdv A outer s H E) body t/\t {nx:=λ_ H'=>Q .non H',rt:=Q} (start N vs) H):
  fR P w K mg base CX (k+1) f (PySem.W.fnOf name qual params body scope dV kV doc pm an cdv ct) ps sp:=by
 refine⟨len,λA outer s H args us vs Q E hr e0 hb r hsp=>?_⟩;have hl:=len _ _ _ _ hsp;have KX:K.In s.heap:=e0.mod.kin.keeps λb o e=>(e0.bs b o e).1;have lim:s.heap.NoLimit:=e0.mod.nolimit.keeps λb o e=>(e0.bs b o e).1;have hkind:∀y∈ps.zip us,scope.names.lookup y.1=some .local∨(scope.names.lookup y.1=some .cell/\((cellsFrom (s.heap.objs.size+1) scope.names []).lookup y.1).isSome=true):=λ⟨n,v⟩ hy=>by
  rcases S.par n (List.of_mem_zip hy).1 with q | q
  ·exact .inl q
  ·exact .inr ⟨q,PySem.W.cellsFrom_some _ _ _ (.inl q)⟩
 refine codeAny_call_function hr.depth (KX _ _ lk) rfl S.co S.gen rfl (PySem.W.codeRec_of KX hcd) (hb _ _ _ _ ?_);refine wpAny_newFunctionEnv_cells S.kind hkind λenv he s1 x=>?_;subst he;refine⟨lim.keeps x.toInCall.keep,codeAny_func ?_⟩;obtain⟨t,ht,hq⟩:=hbody A outer s H vs Q E (hr.deeper _) hsp;have I:Inv (lF CX P w K mg base N qual scope f cdv A outer s H E) [] (start N vs) H s1:=Pb S hr.hd e0 hl r x
 refine dU (ht [] s1 (start N vs) H _ I hq) (λfl s' hs=>?_) λe s' hs=>hs;have fB:∀{σ':St} {H':Hp} {v:V} {u:Value},Inv (lF CX P w K mg base N qual scope f cdv A outer s H E) [] σ' H' s'->RelV v u->Q v H'->CE outer P w H s Q u s':=
  λ{σ' H' v u} J rv q=>⟨v,H',J.os,J.bare,J.base,J.hok,rv,q⟩
 cases fl with
 |ret u=>
  obtain⟨v,σ',H',J,rv,q⟩:=hs;exact fB J rv q
 |next=>
  obtain⟨σ',H',J,q⟩:=hs;exact fB (v:=V.non) (u:=Value.none) J rfl q
 |brk=>
  obtain⟨_,_,_,q⟩:=hs;exact False.elim q
 |cont=>
  obtain⟨_,_,_,q⟩:=hs;exact False.elim q
section
variable{X:Cx}{x:Str}{p pos:Pos}{e:Expr}{es:List Expr}{t:TA}{id T:String}{r:List V->Hp->VK->Prop}
def qx(r:List V->Hp->VK->Prop)(t:TA):TE:=λσ H Q=>t σ H λvs H1=>r vs H1 Q
theorem Xd(hc:jx X (.builtin id) r)(hg:Gl X x)(hm:X.mg x=none)(hv:bootBuiltins x=some (.builtin id))(ha:PA X (e::es) t)(hn:x≠"__name__":=by decide)(hdb:(x==("__debug__":Str))=false:=by decide)
  (he:starEach (e::es) X.env=(false,eval e X.env)::starEach es X.env:=by rfl) (hpl:(backTo pos (starEach es X.env)).any (·.1)=false:=by rfl):PE X (.Call (.Name x p) (e::es) [] pos) (qx r t):=by
 intro pins s σ H Q I h;refine d8 (mh I hg hm hv ?_ hn hdb);exact PyProof.Rows.callWith_builtin1 (fg (ha pos pins s σ H _ I h) λus s1 ⟨vs,H1,I1,r1,q1⟩=>hc pins s1 σ H1 vs us Q I1 r1 q1) he hpl
theorem Sh(hc:jx X (.type T) r)(hg:Gl X x)(hm:X.mg x=none)(hv:bootBuiltins x=some (.type T))(ha:PA X (e::es) t)(hn:x≠"__name__":=by decide)(hdb:(x==("__debug__":Str))=false:=by decide)
  (he:starEach (e::es) X.env=(false,eval e X.env)::starEach es X.env:=by rfl) (hpl:(backTo pos (starEach es X.env)).any (·.1)=false:=by rfl):PE X (.Call (.Name x p) (e::es) [] pos) (qx r t):=by
 intro pins s σ H Q I h;refine d8 (mh I hg hm hv ?_ hn hdb);exact PyProof.Rows.callWith_type1 (fg (ha pos pins s σ H _ I h) λus s1 ⟨vs,H1,I1,r1,q1⟩=>hc pins s1 σ H1 vs us Q I1 r1 q1) he hpl
end
end L2
namespace HT
open PySem PyProof.Rows
section
open PySem.SeqAt
open PySem.AutoSeq1 (wpAny_loadPart')
open PySem.MeetsSeq PySem.MeetsSeq2 PySem.MeetsSeq3
variable{prog:Program}{w:World}{A:Around}{E:Value->Shared->Prop}{s:Shared}
noncomputable def sIx(n d:Nat):Option Int->Nat
 |none=>d
 |some v=>if v<0 then (v+(n:Int)).toNat else min v.toNat n
theorem sIx_none(n d:Nat):sIx n d none=d:=rfl
theorem sIx_nat(n d k:Nat):sIx n d (some (k:Int))=min k n:=by
 show (if (k:Int)<0 then ((k:Int)+(n:Int)).toNat else min (k:Int).toNat n)=min k n;rw[if_neg ⋯,Int.toNat_natCast]
theorem sIx_le(n d:Nat)(hd:d<=n)(o:Option Int):sIx n d o<=n:=by
 cases o with
 |none=>exact hd
 |some v=>
  show (if v<0 then (v+(n:Int)).toNat else min v.toNat n)<=n;by_cases hv:v<0
  ·rw[if_pos hv];omega
  ·rw[if_neg hv];exact Nat.min_le_right _ _
theorem C3(v:Int)(n d:Nat):(if v<0 then max (v+(n:Int)) 0 else min v (n:Int))=((sIx n d (some v):Nat):Int):=by
 show (if v<0 then max (v+(n:Int)) 0 else min v (n:Int))=(((if v<0 then (v+(n:Int)).toNat else min v.toNat n):Nat):Int);by_cases hv:v<0
 ·simp only[if_pos hv];omega
 ·simp only[if_neg hv];omega
theorem WD(lo hi:Option Int)(n:Nat):Builtin.Slice.sliceAdjust lo hi 1 (n:Int)=(((sIx n 0 lo:Nat):Int),((sIx n n hi:Nat):Int)):=by
 have h1:¬((1:Int)<0):=⋯;unfold Builtin.Slice.sliceAdjust;simp only[h1,if_false];refine Prod.ext ?_ ?_
 ·cases lo with
  |none=>rfl
  |some v=>exact C3 v n 0
 ·cases hi with
  |none=>rfl
  |some v=>exact C3 v n n
theorem W5(i j:Nat):Builtin.Slice.slicePlaces (i:Int) (j:Int) 1=j-i:=by
 unfold Builtin.Slice.slicePlaces;have h1:(1:Int)>0:=⋯;simp only[h1,if_true,Int.ediv_one];split<;>omega
theorem Ee{v:Value}{o:Option Int}{Q:Option Int->Shared->Prop}(p:IsPart v o)(h:Q o s):wpAny (model prog w) A (Builtin.Slice.slicePartIndex v) Q E s:=by
 cases p with
 |none=>exact slicePart_none h
 |int i t=>exact slicePart_int h
theorem Wt{sl:Addr}{vl vu:Value}{lo hi:Option Int}{n:Nat}{Q:Int×Int×Nat->Shared->Prop}(hs:s.heap.IsSliceOf sl vl vu .none)(pl:IsPart vl lo)(pu:IsPart vu hi)
  (h:Q (((sIx n 0 lo:Nat):Int),1,sIx n n hi-sIx n 0 lo) s):wpAny (model prog w) A (Builtin.Slice.sliceApplied (.ref sl) (pure (n:Int))) Q E s:=by
 obtain⟨os,hos,hcs,hds⟩:=id hs;unfold Builtin.Slice.sliceApplied Builtin.Slice.sliceFields;refine wpAny_bind (wpAny_bind (wpAny_field hos hds (x:=vl) rfl (wpAny_bind (wpAny_field hos hds (x:=vu) rfl (wpAny_bind (wpAny_field hos hds (x:=.none) rfl (wpAny_pure ?_)))))));refine wpAny_bind (slicePart_none ?_);show wpAny _ _ (if ((1:Int)==0)=true then _ else _) _ _ s;rw[if_neg (by decide)];refine wpAny_bind (Ee pl (wpAny_bind (Ee pu (wpAny_bind (wpAny_pure ?_)))))
 show wpAny _ _ (match Builtin.Slice.sliceAdjust lo hi 1 (n:Int) with | (lo,hi)=>pure (lo,(1:Int),Builtin.Slice.slicePlaces lo hi 1)) _ _ s
 rw[WD lo hi n];show wpAny _ _ (pure (((sIx n 0 lo:Nat):Int),(1:Int),Builtin.Slice.slicePlaces ((sIx n 0 lo:Nat):Int) ((sIx n n hi:Nat):Int) 1)) _ _ s;rw[W5];exact wpAny_pure h
theorem Nr(xs:Array Value)(i k:Nat):((List.range k).filterMap λ(m:Nat)=>xs[((i:Int)+(m:Int)*1).toNat]?).toArray=((xs.toList.drop i).take k).toArray:=by
 have e:(λ(m:Nat)=>xs[((i:Int)+(m:Int)*1).toNat]?)=λm=>xs[i+m]? :=by
  funext m;have:((i:Int)+(m:Int)*1).toNat=i+m:=⋯;rw[this]
 rw[e];have:=pick_run xs i k;rw[List.filterMap_map] at this;have e2:((λx=>xs[x]?) ∘ λx=>i+x)=λm=>xs[i+m]? :=rfl;rw[e2] at this;rw[this]
theorem getItem_tuple_cut{t sl:Addr}{items:Array Value}{vl vu:Value}{lo hi:Option Int}{Q:Value->Shared->Prop}(ht:IsTup s.heap t items)(hs:s.heap.IsSliceOf sl vl vu .none)(pl:IsPart vl lo)(pu:IsPart vu hi)
  (hw:¬(sIx items.size 0 lo=0/\sIx items.size items.size hi=items.size))
  (h:Q (.ref s.heap.objs.size) {s with heap:=s.heap.push {cls:=.type "tuple",data:=.seq ((items.toList.drop (sIx items.size 0 lo)).take (sIx items.size items.size hi-sIx items.size 0 lo)).toArray} })
  (hsz:items.size<=sizeLine):wpAny (model prog w) A (getItem (.ref t) (.ref sl)) Q E s:=by
 have htake:sizeOk (.seq ((items.toList.drop (sIx items.size 0 lo)).take (sIx items.size items.size hi-sIx items.size 0 lo)).toArray):=by
  show ((items.toList.drop (sIx items.size 0 lo)).take (sIx items.size items.size hi-sIx items.size 0 lo)).toArray.size<=sizeLine;rw[List.size_toArray,List.length_take,List.length_drop,Array.length_toList];omega
 have hj:sIx items.size items.size hi<=items.size:=sIx_le _ _ (Nat.le_refl _) hi;obtain⟨os,hos,hcs,hds⟩:=id hs;have hTs:s.TypeIs (.ref sl) "slice":=⟨os,hos,hcs⟩;unfold getItem
 try with_reducible refine wpAny_holding ?_
 first | refine wpAny_bind (wpAny_pure ?_) | skip
 refine wpAny_bind (wpAny_sequenceKey ht.typeIs (by decide) ?_);refine wpAny_bind (wpAny_callSpecial?_slot (name:=Str.ofString "__getitem__") ht.typeIs PyProof.Rows.slot_tuple_getitem
  (wpAny_call_entry PyProof.Rows.slot_tuple_getitem ht.typeIs entry_tuple_getitem ?_ (args_tuple_getitem _ _)))
 show wpAny _ _ (Builtin.Tuple.tupleItemsOf (.ref t) >>=_) _ _ s;refine wpAny_bind (tupleItemsOf_ ht ?_);refine wpAny_bind (wpAny_typeOf hTs ?_);rw[if_pos (by decide)];refine wpAny_bind (Wt hs pl pu ?_);have hno:¬((((sIx items.size 0 lo:Nat):Int)==0&&(1:Int)==1&&(sIx items.size items.size hi-sIx items.size 0 lo)==items.size)=true):=by
  intro q;rw[Bool.and_eq_true,Bool.and_eq_true] at q;have q1:((sIx items.size 0 lo:Nat):Int)=0:=eq_of_beq q.1.1;have q2:sIx items.size items.size hi-sIx items.size 0 lo=items.size:=eq_of_beq q.2;exact hw ⟨⋯,⋯⟩
 show wpAny _ _ (if (((sIx items.size 0 lo:Nat):Int)==0&&(1:Int)==1&&(sIx items.size items.size hi-sIx items.size 0 lo)==items.size)=true then _ else _) _ _ s;rw[if_neg hno,Nr]
 first
  |exact wpAny_bind (m:=Builtin.Tuple.tupleExact _) (wpAny_newObj_type (wpAny_pure ⟨_,rfl,wpAny_pure h⟩) htake)
  |exact wpAny_bind (m:=Builtin.Tuple.tupleExact _) (wpAny_newObj_type (wpAny_bind (wpAny_pure (wpAny_pure ⟨_,rfl,wpAny_pure h⟩))) htake)
  |exact wpAny_bind (wpAny_bind (m:=Builtin.Tuple.tupleExact _) (wpAny_newObj_type (wpAny_pure (wpAny_pure ⟨_,rfl,wpAny_pure h⟩)) htake))
  |exact wpAny_bind (wpAny_bind (m:=Builtin.Tuple.tupleExact _) (wpAny_newObj_type (wpAny_pure ⟨_,rfl,wpAny_pure h⟩) htake))
end
end HT
namespace L2
open PySem PySem.Spec PyProof.Rows
noncomputable abbrev TO:=St->Hp->(Option Int->Hp->Prop)->Prop
def PO(X:Cx)(e:Option Expr)(t:TO):Prop:=
 ∀(pins:List (Addr×Obj)) (s:Shared) (σ:St) (H:Hp) (Q:Option Int->Hp->Prop),Inv X pins σ H s->t σ H Q->
  wpAny (model X.prog X.w) X.A (evalPart e X.env) (λu s'=>∃o H',Inv X pins σ H' s'/\IsPart u o/\Q o H') X.xe s
def BZ:TO:=λ_ H Q=>Q none H
def B9(t:TE):TO:=λσ H Q=>t σ H λx H1=>∃i,x=.int i/\Q (some i) H1
section
variable{X:Cx}{e:Expr}{te:TE}{lo hi:Option Expr}{tl th:TO}{pos p2:Pos}
theorem Wc:PO X none BZ:=by
 intro pins s σ H Q I h;rw[evalPart_none];exact d9 ⟨none,H,I,.none,h⟩
theorem OJ(h:PE X e te):PO X (some e) (B9 te):=by
 intro pins s σ H Q I hw;rw[evalPart_some];refine fg (h pins s σ H _ I hw) λu s1 ⟨x,H1,I1,r1,q1⟩=>?_;obtain⟨i,rfl,q⟩:=q1;obtain⟨t,rfl⟩:=r1;exact⟨some i,H1,I1,.int i t,q⟩
def rd(X:Cx)(r:V->Option Int->Option Int->Hp->VK->Prop):Prop:=
 ∀(pins:List (Addr×Obj)) (s:Shared) (σ:St) (H:Hp) (x:V) (v vl vu:Value) (lo hi:Option Int) (sl:Addr) (Q:VK),Inv X pins σ H s->RelV x v->s.heap.IsSliceOf sl vl vu .none->IsPart vl lo->IsPart vu hi->r x lo hi H Q->
  ∃T id,typeLookup (.type T) "__getitem__"=pure (some (.builtin id))/\s.TypeIs v T/\wpAny (model X.prog X.w) X.A (getItem v (.ref sl)) (EP X pins σ Q) X.xe s
def zp(r:V->Option Int->Option Int->Hp->VK->Prop)(te:TE)(tl th:TO):TE:=λσ H Q=>te σ H λx H1=>tl σ H1 λl H2=>th σ H2 λu H3=>r x l u H3 Q
theorem Xj{r:V->Option Int->Option Int->Hp->VK->Prop}(hr:rd X r)(he:PE X e te)(hl:PO X lo tl)(hu:PO X hi th):PE X (.Subscript e (.Slice lo hi none p2) pos) (zp r te tl th):=by
 intro pins s σ H Q I h;refine Subscript_ (fg (he pins s σ H _ I h) λv s1 ⟨x,H1,I1,r1,q1⟩=>?_);refine wpAny_Slice (fg (hl pins s1 σ H1 _ I1 q1) λvl s2 ⟨l,H2,I2,pl,q2⟩=>fg (hu pins s2 σ H2 _ I2 q2) λvu s3 ⟨u,H3,I3,pu,q3⟩=>?_);rw[evalPart_none];refine d9 ?_;have I4:Inv X pins σ H3 {s3 with heap:=s3.heap.push {cls:=.type "slice",data:=.fields #[vl,vu,.none]} }:=I3.kept (t':=s3.toks) λb ob q=>aU _ q
 obtain⟨T,id,hT,ht,hg⟩:=hr pins {s3 with heap:=s3.heap.push {cls:=.type "slice",data:=.fields #[vl,vu,.none]} } σ H3 x v vl vu l u s3.heap.objs.size Q I4 r1 (Heap.IsSliceOf.new ..) pl pu q3;show wpAny (model X.prog X.w) X.A (subscriptTail e (.Slice lo hi none p2) v (.ref s3.heap.objs.size)) (EP X pins σ Q) X.xe {s3 with heap:=s3.heap.push {cls:=.type "slice",data:=.fields #[vl,vu,.none]} };exact tail_any (ops:=[.ref s3.heap.objs.size,v]) ht hT hg (by with_unfolding_all rfl)
noncomputable def g8(xs:List V)(lo hi:Option Int):List V:=(xs.drop (HT.sIx xs.length 0 lo)).take (HT.sIx xs.length xs.length hi-HT.sIx xs.length 0 lo)
theorem zi(xs:List V)(lo hi:Option Int):(g8 xs lo hi).length<=xs.length:=by
 unfold g8;rw[b9,cU];omega
def vd(K:FG):V->Option Int->Option Int->Hp->VK->Prop:=λx lo hi H Q=>∃a xs,x=.ref a/\SqT K H a xs/\
 ¬(HT.sIx xs.length 0 lo=0/\HT.sIx xs.length xs.length hi=xs.length)/\∀p,H p=none->Q (.ref p) (upd H p (.tup (g8 xs lo hi)))
theorem WR:rd X (vd X.K):=by
 intro pins s σ H x v vl vu lo hi sl Q I rx hs pl pu h;obtain⟨a,xs,rfl,hx,hw,q⟩:=h;cases rx;obtain⟨its,r,ht,hz⟩:=I.tuple hx;have hlen:its.toArray.size=xs.length:=by rw[bB];exact r.length.symm
 refine⟨"tuple",_,PyProof.Rows.slot_tuple_getitem.lookup,ht.typeIs,?_⟩;refine HT.getItem_tuple_cut ht hs pl pu (by rw[hlen];exact hw) ?_ (by rw[hlen];exact hz);rw[hlen];refine⟨.ref s.heap.objs.size,_,I.laid (t':=s.toks) (o:=.tup (g8 xs lo hi)) (λb ob q=>aU _ q) (aP _) ?_,rfl,q _ (I.hok.fresh (aP _))⟩;exact⟨bK (zi xs lo hi) hz,_,(r.drop (HT.sIx xs.length 0 lo)).take (HT.sIx xs.length xs.length hi-HT.sIx xs.length 0 lo),IsTup.new _ _⟩
end
noncomputable def j4(n:Nat)(i:Int):Option Nat:=if 0<=i then (if i<n then some i.toNat else none) else if -(n:Int)<=i then some (i+n).toNat else none
noncomputable def gK{α:Type}(xs:List α)(i:Int):Option α:=(j4 xs.length i).bind λj=>xs[j]?
theorem MQ{n:Nat}{i:Int}{j:Nat}(h:j4 n i=some j):seqIndex? i n=some j/\j<n/\ -(n:Int)<=i/\i<n:=by
 unfold j4 at h;by_cases h0:0<=i
 ·rw[if_pos h0] at h;by_cases h1:i<n
  ·rw[if_pos h1] at h;have e:i.toNat=j:=a8 h;exact⟨by rw[seqIndex_of h0 h1,e],⋯,⋯,h1⟩
  ·rw[if_neg h1] at h;cases h
 ·rw[if_neg h0] at h;by_cases h1: -(n:Int)<=i
  ·rw[if_pos h1] at h;have e:(i+n).toNat=j:=a8 h;exact⟨by rw[seqIndex_neg ⋯ h1,e],⋯,h1,⋯⟩
  ·rw[if_neg h1] at h;cases h
theorem uD{α:Type}{xs:List α}{i:Int}{v:α}(h:gK xs i=some v):∃j,seqIndex? i xs.length=some j/\xs[j]? =some v/\j<xs.length/\ -(xs.length:Int)<=i/\i<xs.length:=by
 unfold gK at h;cases e:j4 xs.length i with
 |none=>rw[e] at h;cases h
 |some j=>
  rw[e] at h;obtain⟨h1,h2,h3,h4⟩:=MQ e;exact⟨j,h1,h,h2,h3,h4⟩
theorem lV{α:Type}{xs:List α}{j:Nat}{v:α}(h:xs[j]? =some v):gK xs (j:Int)=some v:=by
 have hj:j<xs.length:=(a9.mp h).1;have e:j4 xs.length (j:Int)=some j:=by
  unfold j4;rw[if_pos ⋯,if_pos ⋯];simp
 unfold gK;rw[e];exact h
def zE(b:Expr):Prop:=∀o i,subscripted b false o i=operate [o,i] (getItem o i)
def oP(X:Cx)(r:R2):Prop:=
 ∀(value slice:Expr) (pins:List (Addr×Obj)) (s:Shared) (σ:St) (H:Hp) (x y:V) (v u:Value) (Q:VK),Inv X pins σ H s->RelV x v->RelV y u->r x y H Q->
  subscripted slice false v u=operate [v,u] (getItem v u)->wpAny (model X.prog X.w) X.A (subscriptTail value slice v u) (EP X pins σ Q) X.xe s
def mY(X:Cx)(id:String)(r:V->List V->Hp->VK->Prop):Prop:=
 ∀(pins:List (Addr×Obj)) (s:Shared) (σ:St) (H:Hp) (x:V) (xs:List V) (v:Value) (us:List Value) (Q:VK),Inv X pins σ H s->RelV x v->Vals xs us->r x xs H Q->
  wpAny (model X.prog X.w) X.A (call (.builtin id) (v::us)) (EP X pins σ Q) X.xe s
section
variable{X:Cx}{a b:Expr}{ta tb:TE}{pos:Pos}
theorem NA{r:R2}(hr:oP X r)(ha:PE X a ta)(hb:PE X b tb)(hs:zE b):PE X (.Subscript a b pos) (lX r ta tb):=by
 intro pins s σ H Q I h;exact Subscript_ (wI ha hb I h λv u s2 x y H2 I2 rx ry q=>hr a b pins s2 σ H2 x y v u Q I2 rx ry q (hs _ _))
inductive NZ (K:FG) (x y:V) (H:Hp) (Q:VK):Prop
 |mk (p:Addr) (xs:List V) (i:Int) (v:V) (e:x=.ref p) (f:y=.int i) (s:SqL K H p xs) (a:gK xs i=some v) (r:Q v H)
def tR(K:FG):R2:=NZ K
inductive OA (K:FG) (x y:V) (H:Hp) (Q:VK):Prop
 |mk (p:Addr) (xs:List V) (i:Int) (v:V) (e:x=.ref p) (f:y=.int i) (s:SqT K H p xs) (a:gK xs i=some v) (r:Q v H)
def rS(K:FG):R2:=OA K
def vt:R2:=λx y H Q=>∃z i c,x=.str z/\y=.int i/\z.length<=sizeLine/\gK z.cps.toList i=some c/\Q (.str ⟨#[c]⟩) H
theorem Ng:oP X (tR X.K):=by
 intro value slice pins s σ H x y v u Q I rx ry h hs;obtain⟨p,xs,i,z,rfl,rfl,hq,he,q⟩:=h;cases rx;obtain⟨t,rfl⟩:=ry;obtain⟨its,r,pl,hz⟩:=I.list hq;obtain⟨j,h1,h2,h3,h4,h5⟩:=uD he;obtain⟨w,ew,rw'⟩:=r.get h2;have hl:=r.length;have hn:=om;have fB:EP X pins σ Q w s:=⟨z,H,I,rw',q⟩;by_cases h0:0<=i
 ·have hj:i.toNat=j:=by
   rw[seqIndex_of h0 h5] at h1;exact a8 h1
  exact item_listR pl.isList h0 ⋯ (by rw[hj];simpa using ew) fB hs
 ·have hj:(i+(its.toArray.size:Int)).toNat=j:=by
   rw[seqIndex_neg ⋯ h4] at h1;rw[bB,←hl];exact a8 h1
  exact subscriptTail_builtinR (x:=w) pl.isList.typeIs slot_list_getitem.lookup
   (wpAny_getItem_list_neg (Q:=λr s'=>r=w/\EP X pins σ Q r s') pl.isList ⋯ (by rw[bB]<;>omega) ⋯ (by rw[hj];simpa using ew) ⟨rfl,fB⟩) hs
theorem WL:oP X (rS X.K):=by
 intro value slice pins s σ H x y v u Q I rx ry h hs;obtain⟨p,xs,i,z,rfl,rfl,hq,he,q⟩:=h;cases rx;obtain⟨t,rfl⟩:=ry;obtain⟨its,r,pl,hz⟩:=I.tuple hq;obtain⟨j,h1,h2,h3,h4,h5⟩:=uD he;obtain⟨w,ew,rw'⟩:=r.get h2;have hl:=r.length;have hn:=om;have fB:EP X pins σ Q w s:=⟨z,H,I,rw',q⟩;exact subscriptTail_builtinR (x:=w) pl.typeIs slot_tuple_getitem.lookup
  (getItem_tuple (j:=j) (Q:=λr s'=>r=w/\EP X pins σ Q r s') pl ⋯ ⋯ (by rw[bB,←hl];exact h1) (by simpa using ew) ⟨rfl,fB⟩) hs
theorem UM:oP X vt:=by
 intro value slice pins s σ H x y v u Q I rx ry h hs;obtain⟨z,i,c,rfl,rfl,hz,he,q⟩:=h;obtain⟨t,rfl⟩:=rx;obtain⟨t',rfl⟩:=ry;obtain⟨j,h1,h2,h3,h4,h5⟩:=uD he;have hl:z.cps.toList.length=z.length:=by simp[Str.length]
 rw[hl] at h1 h4 h5;have hn:=om;exact tail_any (typeIs_str s z t) slot_str_getitem.lookup (getItem_str (c:=c) (by
  have e1:decide (i< -(2^63:Int))=false:=d7 ⋯;have e2:decide (i ≥ 2^63)=false:=d7 ⋯;rw[e1,e2,Bool.or_false]) (by rw[h1];simpa using h2) ⟨.str ⟨#[c]⟩,H,I.tok _,⟨()⟩,q⟩) hs
theorem Inv.lst{pins:List (Addr×Obj)}{σ:St}{H:Hp}{s:Shared}{p:Addr}{xs:List V}(I:Inv X pins σ H s)(h:H p=some (.lst xs)):
  ∃(its:List Value) (n:Nat),Vals xs its/\s.heap.get? p=some {cls:=.type "list",data:=.seq its.toArray n}/\xs.length<=sizeLine:=by
 obtain⟨z,its,n,r,e⟩:=I.hok p _ h;exact⟨its,n,r,e,z⟩
theorem NU(lo hi:Option Int)(n:Nat):(sliceBounds lo hi none n).1=((HT.sIx n 0 lo:Nat):Int)/\(sliceBounds lo hi none n).2.1=((HT.sIx n n hi:Nat):Int)/\(sliceBounds lo hi none n).2.2=1:=by
 refine⟨?_,?_,rfl⟩
 ·cases lo with
  |none=>simp[sliceBounds,HT.sIx]
  |some i=>
   simp only[sliceBounds,HT.sIx,Option.getD_none,show (1:Int)>0 by decide,if_true];by_cases h:i<0
   ·simp only[h,if_true]<;>omega
   ·simp only[h,if_false]<;>omega
 ·cases hi with
  |none=>simp[sliceBounds,HT.sIx]
  |some i=>
   simp only[sliceBounds,HT.sIx,Option.getD_none,show (1:Int)>0 by decide,if_true];by_cases h:i<0
   ·simp only[h,if_true]<;>omega
   ·simp only[h,if_false]<;>omega
theorem QQ(its:List Value)(lo hi:Option Int):slicePick its.toArray lo hi none=((its.drop (HT.sIx its.length 0 lo)).take (HT.sIx its.length its.length hi-HT.sIx its.length 0 lo)).toArray:=by
 obtain⟨h1,h2,h3⟩:=NU lo hi its.toArray.size;unfold slicePick;rw[h1,h2,h3];simp only[sliceRange_one,pick_run,bB]<;>rfl
def wx(K:FG):V->Option Int->Option Int->Hp->VK->Prop:=λx lo hi H Q=>∃a xs,x=.ref a/\SqL K H a xs/\∀p,H p=none->Q (.ref p) (upd H p (.lst (g8 xs lo hi)))
theorem Sd:rd X (wx X.K):=by
 intro pins s σ H x v vl vu lo hi sl Q I rx hs pl pu h;obtain⟨a,xs,rfl,hx,q⟩:=h;cases rx;obtain⟨its,r,ht,hz⟩:=I.list hx;have hlen:=r.length;refine⟨"list",_,slot_list_getitem.lookup,ht.isList.typeIs,?_⟩;refine wpAny_getItem_list_slice ht.isList hs pl pu .none (by simp) ?_ (by rw[bB]<;>omega);rw[QQ,←hlen];refine⟨.ref s.heap.objs.size,_,I.laid (t':=s.toks) (o:=.lst (g8 xs lo hi)) (λb ob q=>aU _ q) (aP _) ?_,rfl,q _ (I.hok.fresh (aP _))⟩
 exact⟨bK (zi xs lo hi) hz,_,0,(r.drop (HT.sIx xs.length 0 lo)).take (HT.sIx xs.length xs.length hi-HT.sIx xs.length 0 lo),bM _ rfl⟩
noncomputable def kj:V->Bool
 |.non=>true
 |.bl _=>true
 |.int _=>true
 |.str _=>true
 |_=>false
noncomputable def lL:V->V->Bool
 |.non,.non=>true
 |.bl a,.bl b=>a==b
 |.bl a,.int b=>(if a then 1 else 0)==b
 |.int a,.bl b=>a==(if b then 1 else 0)
 |.int a,.int b=>a==b
 |.str a,.str b=>a==b
 |_,_=>false
theorem XJ{A:Around}{s:Shared}{y x:V}{u v:Value}(ry:RelV y u)(rx:RelV x v)(fy:kj y=true)(fx:kj x=true):SeqAt.EqAt A s u v (lL y x):=by
 cases y with
 |non=>
  cases ry;cases x with
  |non=>cases rx;exact SeqAt.EqAt.same _
  |bl b=>cases rx;exact SeqAt.EqAt.none_bool b
  |int b=>obtain⟨t,rfl⟩:=rx;exact SeqAt.EqAt.none_int b t
  |str b=>obtain⟨t,rfl⟩:=rx;exact SeqAt.EqAt.none_str b t
  |_=>exact absurd (show false=true from fx) bA
 |bl a=>
  cases ry;cases x with
  |non=>cases rx;exact SeqAt.EqAt.bool_none a
  |bl b=>cases rx;exact SeqAt.EqAt.bool_bool a b
  |int b=>obtain⟨t,rfl⟩:=rx;exact SeqAt.EqAt.bool_int a b t
  |str b=>obtain⟨t,rfl⟩:=rx;exact SeqAt.EqAt.bool_str a b t
  |_=>exact absurd (show false=true from fx) bA
 |int a=>
  obtain⟨t',rfl⟩:=ry;cases x with
  |non=>cases rx;exact SeqAt.EqAt.int_none a t'
  |bl b=>cases rx;exact SeqAt.EqAt.int_bool a t' b
  |int b=>obtain⟨t,rfl⟩:=rx;exact SeqAt.EqAt.int_int a t' b t
  |str b=>obtain⟨t,rfl⟩:=rx;exact SeqAt.EqAt.int_str a t' b t
  |_=>exact absurd (show false=true from fx) bA
 |str a=>
  obtain⟨t',rfl⟩:=ry;cases x with
  |non=>cases rx;exact SeqAt.EqAt.str_none a t'
  |bl b=>cases rx;exact SeqAt.EqAt.str_bool a t' b
  |int b=>obtain⟨t,rfl⟩:=rx;exact SeqAt.EqAt.str_int a t' b t
  |str b=>obtain⟨t,rfl⟩:=rx;exact SeqAt.EqAt.str_str a t' b t
  |_=>exact absurd (show false=true from fx) bA
 |_=>exact absurd (show false=true from fy) bA
noncomputable def lx(x:V)(u:Value):Bool:=match u with
 |.none=>lL .non x
 |.bool b=>lL (.bl b) x
 |.int i _=>lL (.int i) x
 |.str z _=>lL (.str z) x
 |_=>false
theorem BR{x y:V}{u:Value}(r:RelV y u)(f:kj y=true):lx x u=lL y x:=by
 cases y with
 |non=>cases r;rfl
 |bl b=>cases r;rfl
 |int i=>obtain⟨t,rfl⟩:=r;rfl
 |str z=>obtain⟨t,rfl⟩:=r;rfl
 |_=>exact absurd (show false=true from f) bA
theorem uJ{x:V}:∀{xs:List V} {us:List Value},Vals xs us->xs.all kj=true->us.any (lx x)=xs.any λy=>lL y x
 |_,_,.nil,_=>rfl
 |y::xs,u::us,.cons r t,f=>by
  rw[List.all_cons,bI] at f;rw[bT,bT,BR r f.1,uJ t f.2]
theorem uE{A:Around}{s:Shared}{x:V}{v:Value}(rx:RelV x v)(fx:kj x=true):∀{xs:List V} {us:List Value},Vals xs us->xs.all kj=true->∀u∈us,SeqAt.EqAt A s u v (lx x u)
 |_,_,.nil,_=>λu hu=>by cases hu
 |y::xs,u::us,.cons r t,f=>λu' hu=>by
  rw[List.all_cons,bI] at f;rcases aT.mp hu with rfl | hu
  ·rw[BR r f.1];exact XJ r rx f.1 fx
  ·exact uE rx fx t f.2 u' hu
noncomputable def pK(x:V)(xs:List V):Bool:=xs.any λy=>lL y x
def wo(K:FG)(neg:Bool):R2:=λx y H Q=>∃p xs,y=.ref p/\(SqL K H p xs∨SqT K H p xs)/\kj x=true/\xs.all kj=true/\Q (.bl (if neg then !pK x xs else pK x xs)) H
theorem O6:gq X (compareOp .In) (wo X.K false):=by
 intro pins s σ H x y v u Q I rx ry h;obtain⟨p,xs,rfl,hq,fx,fs,q⟩:=h;cases ry;rcases hq with hq | hq
 ·obtain⟨its,r,pl,hz⟩:=I.list hq;refine SeqAt.in_listAt (lx x) pl.isList (λw hw=>uE rx fx r fs w (by simpa using hw)) ⟨.bl _,H,I,rfl,?_⟩;rw[show its.toArray.any (lx x)=its.any (lx x) by simp,uJ r fs];exact q
 ·obtain⟨its,r,pl,hz⟩:=I.tuple hq;refine SeqAt.in_tupleAt (lx x) pl (λw hw=>uE rx fx r fs w (by simpa using hw)) ⟨.bl _,H,I,rfl,?_⟩;rw[show its.toArray.any (lx x)=its.any (lx x) by simp,uJ r fs];exact q
theorem WI:jx X (.builtin "len") (λxs H Q=>∃p ys,xs=[.ref p]/\(SqL X.K H p ys∨SqT X.K H p ys)/\Q (.int ys.length) H):=by
 intro pins s σ H xs us Q I r h;obtain⟨p,ys,rfl,hq,q⟩:=h;obtain⟨u,rfl,rx⟩:=iH r;cases rx;have hn:=om;rcases hq with hq | hq
 ·obtain⟨its,r',pl,hz⟩:=I.list hq;have hlen:=r'.length;exact Calls.call_len_list pl.isList (by simp only[bB]<;>omega) ⟨.int ys.length,H,I.tok _,⟨s.toks+1,by rw[bB,hlen]⟩,q⟩
 ·obtain⟨its,r',pl,hz⟩:=I.tuple hq;have hlen:=r'.length;exact len_tuple pl (by simp only[bB]<;>omega) ⟨.int ys.length,H,I.tok _,⟨s.toks+1,by rw[bB,hlen]⟩,q⟩
theorem Pj:jx X (.builtin "len") (λxs H Q=>∃z,xs=[.str z]/\z.length<=sizeLine/\Q (.int z.length) H):=by
 intro pins s σ H xs us Q I r h;obtain⟨z,rfl,hz,q⟩:=h;obtain⟨u,rfl,t,rfl⟩:=iH r;have hn:=om;exact len_str ⋯ ⟨.int z.length,H,I.tok _,⟨()⟩,q⟩
theorem T6:jx X (.type "tuple") (λxs H Q=>∃p ys,xs=[.ref p]/\((SqL X.K H p ys/\∀l,H l=none->Q (.ref l) (upd H l (.tup ys)))∨(SqT X.K H p ys/\Q (.ref p) H))):=by
 intro pins s σ H xs us Q I r h;obtain⟨p,ys,rfl,h⟩:=h;obtain⟨u,rfl,rx⟩:=iH r;cases rx;rcases h with ⟨hq,q⟩ | ⟨hq,q⟩
 ·obtain⟨its,r',pl,hz⟩:=I.list hq;have hlen:=r'.length;refine call_tuple_list pl.isList (λh' kp=>?_) (by simp only[bB]<;>omega);have I1:Inv X pins σ H {s with heap:=h'}:=I.kept (t':=s.toks) kp;have I2:Inv X pins σ (upd H h'.objs.size (.tup ys)) {s with heap:=h'.push {cls:=.type "tuple",data:=.seq its.toArray} }:=
   I1.laid (t':=s.toks) (λb o e=>aU _ e) (aP _) (show ObjOk X.prog X.w _ _ _ (.tup ys) from ⟨hz,its,r',IsTup.new _ _⟩)
  exact⟨.ref h'.objs.size,_,I2,rfl,q _ (I1.hok.fresh (aP _))⟩
 ·obtain⟨its,r',pl,hz⟩:=I.tuple hq;exact call_tuple_same pl ⟨.ref p,H,I,rfl,q⟩
def vv(K:FG)(T:String)(x:V)(H:Hp):Prop:=match x with
 |.str _=>T="str"
 |.int _=>T="int"
 |.ref p=>(T="list"/\∃xs,SqL K H p xs)∨(T="tuple"/\∃o,K.lookup p=some o/\o.cls=.type "tuple"/\o.dict=none)∨
   (T="dict"/\((∃kvs,H p=some (.dK kvs))∨∃kvs,H p=some (.dT kvs)))∨(T="set"/\∃S n,H p=some (.set S n))
 |_=>False
theorem HU{pins:List (Addr×Obj)}{σ:St}{H:Hp}{s:Shared}{T:String}{x:V}{v:Value}(I:Inv X pins σ H s)(r:RelV x v)(ty:vv X.K T x H):
  s.TypeIs v T/\∀a,v=.ref a->∃ob,s.heap.get? a=some ob/\ob.dict=none:=by
 cases x with
 |str z=>
  obtain⟨t,rfl⟩:=r;cases (show T="str" from ty);exact⟨typeIs_str s z t,λ_ e=>nomatch e⟩
 |int i=>
  obtain⟨t,rfl⟩:=r;cases (show T="int" from ty);exact⟨typeIs_int s i t,λ_ e=>nomatch e⟩
 |ref p=>
  cases r;rcases ty with ⟨rfl,xs,hq⟩ | ⟨rfl,o,hk,hc,hd⟩ | ⟨rfl,hk⟩ | ⟨rfl,S,n,hk⟩
  ·obtain⟨its,_,pl,_⟩:=I.list hq;refine⟨pl.isList.typeIs,λa e=>?_⟩;cases e;obtain⟨o,n,e,c,hd,_⟩:=pl;exact⟨o,e,hd⟩
  ·refine⟨⟨o,I.kIn p o hk,hc⟩,λa e=>?_⟩;cases e;exact⟨o,I.kIn _ o hk,hd⟩
  ·have z:∃o,s.heap.get? p=some o/\o.ExactDict:=by
    rcases hk with ⟨kvs,hk⟩ | ⟨kvs,hk⟩
    ·obtain⟨_,_,_,_,o,_,_,e,ex,_⟩:=I.hok p _ hk;exact⟨o,e,ex⟩
    ·obtain⟨_,_,_,_,o,_,_,e,ex,_⟩:=I.hok p _ hk;exact⟨o,e,ex⟩
   obtain⟨o,e,ex⟩:=z;refine⟨⟨o,e,ex.1⟩,λa e2=>?_⟩;cases e2;exact⟨o,e,ex.2.1⟩
  ·obtain⟨o,_,_,_,e,ex,_⟩:=I.hok p _ hk;refine⟨⟨o,e,ex.1⟩,λa e2=>?_⟩;cases e2;exact⟨o,e,ex.2.1⟩
 |_=>exact False.elim ty
def I9(K:FG)(T:String)(r:V->List V->Hp->VK->Prop)(to:TE):TE:=λσ H Q=>to σ H λx H1=>vv K T x H1/\r x [] H1 Q
def mH(K:FG)(T:String)(r:V->List V->Hp->VK->Prop)(to:TE)(t:TA):TE:=λσ H Q=>to σ H λx H1=>vv K T x H1/\t σ H1 λxs H2=>r x xs H2 Q
variable{o e:Expr}{es:List Expr}{to:TE}{t:TA}{name:Str}{apos cpos:Pos}{T id:String}{r:V->List V->Hp->VK->Prop}
theorem Q0(pa:PlainAttrs T)(slot:Slot T name id)(hty:typeOf (.builtin id)=pure (.type "method_descriptor"))(hm:mY X id r)(ho:PE X o to)
  (hbase:attributeBase o name X.env (eval o X.env)=eval o X.env:=by rfl) (hline:(apos.endLine==cpos.line)=true:=by rfl):PE X (.Call (.Attribute o name apos) [] [] cpos) (I9 X.K T r to):=by
 intro pins s σ H Q I h;refine wpAny_Call_method0_late hbase hline (fg (ho pins s σ H _ I h) λv s1 ⟨x,H1,I1,r1,ty,q1⟩=>?_);obtain⟨h1,h2⟩:=HU I1 r1 ty;exact⟨T,id,pa,slot,hty,h1,h2,Calls.callWith_builtin rfl (PySem.evalArgs_none (hm pins s1 σ H1 x [] v [] Q I1 r1 .nil q1))⟩
theorem nr(pa:PlainAttrs T)(slot:Slot T name id)(hty:typeOf (.builtin id)=pure (.type "method_descriptor"))(hm:mY X id r)(ho:PE X o to)(ha:PA X (e::es) t)
  (hbase:attributeBase o name X.env (eval o X.env)=eval o X.env:=by rfl)
  (hfew:((backTo cpos (starEach (e::es) X.env)).all (λx=> !x.1)&&(backToKw cpos (keywordEach [] X.env)).all (λx=>x.1.isSome)
   &&decide ((e::es).length+([]:List Keyword).length+(if ([]:List Keyword).isEmpty then 0 else 1)<30))=true:=by rfl)
  (hline:(apos.endLine==cpos.line)=true:=by rfl) (hs:starEach (e::es) X.env=(false,eval e X.env)::starEach es X.env:=by rfl) (hplain:(backTo cpos (starEach es X.env)).any (·.1)=false:=by rfl):
  PE X (.Call (.Attribute o name apos) (e::es) [] cpos) (mH X.K T r to t):=by
 intro pins s σ H Q I h;refine wpAny_Call_method_late hbase hfew hline rfl (fg (ho pins s σ H _ I h) λv s1 ⟨x,H1,I1,r1,ty,q1⟩=>?_);obtain⟨h1,h2⟩:=HU I1 r1 ty;refine⟨T,id,pa,slot,hty,h1,h2,?_⟩;have hA:=ha cpos pins s1 σ H1 _ I1 q1;rw[hs] at hA ⊢;refine Calls.callWith_builtin (by show (false||(backTo cpos (starEach es X.env)).any (·.1))=false;rw[hplain]<;>rfl) (Calls.evalArgs_plain ?_)
 exact fg hA λus s2 ⟨vs,H2,I2,r2,q2⟩=>hm pins s2 σ H2 x vs v us Q I2 r1 r2 q2
end
def AE(X:Cx)(id:String)(r:V->List V->Hp->VK->Prop):Prop:=
 ∀(pins:List (Addr×Obj)) (s:Shared) (σ:St) (H:Hp) (x:V) (xs:List V) (v:Value) (us:List Value) (Q:VK),Inv X pins σ H s->RelV x v->Vals xs us->r x xs H Q->
  wpAny (model X.prog X.w) X.A (call (.builtin id) (v::us)) (EP X pins σ Q) X.xe s
theorem Vals.one:∀{x:V} {us:List Value},Vals [x] us->∃u,us=[u]/\RelV x u
 |_,_,.cons r .nil=>⟨(),r⟩
theorem Vals.eraseIdx:∀{xs:List V} {us:List Value} (i:Nat),Vals xs us->Vals (xs.eraseIdx i) (us.eraseIdx i)
 |_,_,_,.nil=>.nil
 |_,_,0,.cons _ t=>t
 |_,_,i+1,.cons r t=>.cons r (Vals.eraseIdx i t)
theorem yV{α:Type}:∀(l:List α) (i:Nat),(l.eraseIdx i).length<=l.length
 |[],_=>aP _
 |_::_,0=>Nat.le_succ _
 |_::r,i+1=>Nat.succ_le_succ (yV r i)
section
variable{X:Cx}{pins:List (Addr×Obj)}{σ:St}{H:Hp}{s:Shared}{l b:Addr}{xs ys zs:List V}
theorem Inv.lset{its its':List Value}{n:Nat}{f:Array Value->Array Value}{t':Nat}(I:Inv X pins σ H s)(hH:H l=some (.lst xs))
  (e:s.heap.get? l=some {cls:=.type "list",data:=.seq its.toArray n}) (hf:f its.toArray=its'.toArray) (hv:Vals ys its') (hz:ys.length<=sizeLine):
  Inv X pins σ (upd H l (.lst ys)) {s with heap:=s.heap.update l (Obj.mapSeq f),toks:=t'}:=by
 have q:=PySem.IsL.update e f;rw[hf] at q;refine I.write (x:=l) (e:=l) (by rw[hH];exact trivial) (.inl rfl) (λb' u hb hu=>(Heap.get?_update_other s.heap (Obj.mapSeq f) (Ne.symm hb)).trans hu) ⟨_,q⟩ ?_;exact⟨hz,its',_,hv,q⟩
theorem Inv.lnew{its:List Value}{t':Nat}(I:Inv X pins σ H s)(hv:Vals ys its)(hz:ys.length<=sizeLine):
  Inv X pins σ (upd H s.heap.objs.size (.lst ys)) {s with heap:=s.heap.push {cls:=.type "list",data:=.seq its.toArray},toks:=t'}:=
 I.laid (λ_ _ q=>aU _ q) (aP _) ⟨hz,its,0,hv,bM _ rfl⟩
theorem Inv.fresh(I:Inv X pins σ H s):H s.heap.objs.size=none:=I.hok.fresh (aP _)
theorem Inv.lstM(I:Inv X pins σ H s)(hH:H l=some (.lst xs)):xs.length<=sizeLine/\∃(its:List Value) (n:Nat),Vals xs its/\xs.length=its.length/\s.heap.get? l=some {cls:=.type "list",data:=.seq its.toArray n}:=by
 obtain⟨z,its,n,r,e⟩:=I.hok l _ hH;exact⟨z,its,n,r,r.length,e⟩
end
section
variable{X:Cx}
def GW:V->List V->Hp->VK->Prop:=λx vs H Q=>∃l xs y,x=.ref l/\vs=[y]/\H l=some (.lst xs)/\xs.length<sizeLine/\Q .non (upd H l (.lst (xs++[y])))
theorem Ad:AE X "list.append" GW:=by
 intro pins s σ H x vs v us Q I rx rv h;obtain⟨l,xs,y,rfl,rfl,hH,hz,q⟩:=h;cases rx;obtain⟨u,rfl,ru⟩:=rv.one;obtain⟨z,its,n,r,hl,e⟩:=I.lstM hH;refine call_meets F.slot_list_append ⟨_,e,rfl⟩ F.entry_list_append (F.args_list_append_2 _ _) (PySem.list_append l its.toArray n u (by rw[bB];omega)) ⟨e,?_⟩;refine⟨.non,_,I.lset (its':=its++[u]) hH e (by simp) (r.append (.cons ru .nil)) ?_,rfl,q⟩;rw[aS,bX];omega
def IH:V->List V->Hp->VK->Prop:=λx vs H Q=>∃l xs i k y,x=.ref l/\vs=[.int i]/\H l=some (.lst xs)/\ -(2^63)<=i/\i<2^63/\seqIndex? i xs.length=some k/\xs[k]? =some y/\Q y (upd H l (.lst (xs.eraseIdx k)))
theorem UY:AE X "list.pop" IH:=by
 intro pins s σ H x vs v us Q I rx rv h;obtain⟨l,xs,i,k,y,rfl,rfl,hH,h1,h2,hk,hy,q⟩:=h;cases rx;obtain⟨u,rfl,ru⟩:=rv.one;obtain⟨t,rfl⟩:=ru;obtain⟨z,its,n,r,hl,e⟩:=I.lstM hH;obtain⟨w,hw,rw'⟩:=r.get hy;refine call_meets F.slot_list_pop ⟨_,e,rfl⟩ F.entry_list_pop (F.args_list_pop_2 _ _)
  (MeetsSeq.list_pop_at l its.toArray n i t k w (fitsIndex_both h1 h2) (by rw[bB,←hl];exact hk) (by rw[←dH];exact hw) (by rw[bB];omega)) ⟨e,?_⟩
 refine⟨y,_,I.lset (its':=its.eraseIdx k) hH e ?_ (r.eraseIdx k) ?_,rw',q⟩
 ·show its.toArray.eraseIdxIfInBounds k=(its.eraseIdx k).toArray;rw[List.eraseIdxIfInBounds_toArray]
 ·have:=yV xs k;omega
def Jk:R2:=λx y H Q=>∃l b xs zs,x=.ref l/\y=.ref b/\H l=some (.lst xs)/\H b=some (.lst zs)/\xs.length+zs.length<=sizeLine/\∀p,H p=none->Q (.ref p) (upd H p (.lst (xs++zs)))
theorem MY:gq X (binaryOp .Add) Jk:=by
 intro pins s σ H x y v u Q I rx ry h;obtain⟨l,b,xs,zs,rfl,rfl,hH,hB,hz,q⟩:=h;cases rx;cases ry;obtain⟨z,its,n,r,hl,e⟩:=I.lstM hH;obtain⟨z2,its2,n2,r2,hl2,e2⟩:=I.lstM hB;refine PySem.P.add_list e e2 ?_ (by rw[bB,bB];omega);have ea:its.toArray++its2.toArray=(its++its2).toArray:=by simp
 rw[ea];exact⟨.ref _,_,I.lnew (t':=s.toks) (r.append r2) (by rw[aS];omega),rfl,q _ I.fresh⟩
variable{prog:Program}{w:World}{A:Around}{E:Value->Shared->Prop}{s:Shared}
end
end L2
namespace Att
open PySem PySem.W PySem.Calls PyProof.Rows
theorem Sn{P:Params}{h:Heap}:∀(ns:List Int) (vs:List Value),WellAll P h vs (ns.map WData.int)->IntsAre vs ns:=by
 intro ns;induction ns with
 |nil=>
  intro vs w;rw[List.map_nil] at w;cases w;exact .nil
 |cons n ns ih=>
  intro vs w;rw[List.map_cons] at w;cases w with
  |cons a b=>
   cases a;exact .cons _ _ (ih _ b)
theorem Vg{l:OpenLaw}{n:Nat}(hn:l.most=some n){P:Params}{h:Heap}{args:List WData}{vals:List Value}
  (hpre:l.row.toRowW.claim.pre args=true) (hwl:WellAll P h vals args):
  ∃a vs ns,vals=[Value.ref a]/\args=[WData.list (ns.map WData.int)]/\h.get? a=some {cls:=.type "list",data:=.seq vs.toArray}/\IntsAre vs ns/\ns.length<=n:=by
 have hsh:WShape.hasAll [] args [.list .int]=true:=(pre_splitW hpre).1;have hc:l.pre.holds [] {args:=args}=true:=(pre_splitW hpre).2;obtain⟨d,r,rfl,h1,h2⟩:=hasAllW_cons hsh;obtain rfl:=hasAllW_nil h2;obtain⟨xs,rfl,h3⟩:=hasW_list h1;obtain⟨ns,rfl⟩:=items_int h3;have hlen:ns.length<=n:=by
  unfold OpenLaw.pre at hc;have h4:(WTm.not (.lt (.lit (.int (n:Int))) (.len (.arg 0)))).holds [] {args:=[.list (ns.map .int)]}=true:=by
   have h4:=(holds_andW hc).1;rw[hn] at h4;exact h4
  have h5:=condW_of h4 (w_not (w_lt w_lit (w_len_list (w_arg rfl))));rw[List.length_map] at h5;refine Nat.le_of_not_lt λq=>?_;have q':(n:Int)<((ns.length:Nat):Int):=⋯
  first
   |(rw[decide_eq_true q'] at h5;exact absurd h5 (by decide))
   |(simp at h5;omega)
 cases hwl with
 |cons w1 w2=>
  cases w2;cases w1 with
  |list ho hall=>exact⟨_,_,ns,rfl,rfl,ho,Sn ns _ hall,hlen⟩
theorem SM(l:OpenLaw)(args:List WData):l.row.toRowW.claim.post args (.bool true) args=true:=
 postW_of (r:=l.row.toRowW) (X:=(true==true))
  (show WShape.has [] (.bool true) .bool=true by first | rfl | decide | simp[WShape.has,WShape.arms,WShape.armsAll])
  (show (WTm.eq .res (.lit (.bool true))).value [] {args:=args,res:=some (.bool true),after:=args}=some (.bool (true==true)) from w_eq_bool (w_res rfl) w_lit) rfl
theorem attach_call{l:OpenLaw}{n:Nat}{q:Program}{loose:List Str}{XP:(Str->Option Value)->Heap->Prop}{YP:World->Heap->Prop}{d:DefRec}
  (hn:l.most=some n) (hdf:d.params.defaults=[])
  (call:∀(w:World) (s₀ s₁:Shared) (mg mb:Str->Option Value) (fa:Addr) (o:Obj) (pm cd doc:Value) (a:Addr) (vs:List Value) (ns:List Int),
   Ground q loose [] XP w s₀ mg mb s₁.heap->YP w s₁.heap->
   s₁.heap.get? fa=some o->o.data=.func (docDef d.name d.params d.body d.scope pm cd doc)->s₁.heap.CodeRec cd d.name->mg d.name=some (.ref fa)->
   s₁.heap.get? a=some {cls:=.type "list",data:=.seq vs.toArray}->IntsAre vs ns->ns.length<=n->s₁.gens= #[]->
   codeAny (model l.prog w) callerA (.call (.ref fa) ⟨[.ref a],[]⟩) (λr s'=>r=.ok (.ret (.bool true))/\OldK s₁.heap s'.heap/\s'.os=s₁.os/\AllBare s'.gens) s₁):
  WalkO q loose XP YP l.row.toRowW d [] (λf vs=>PySem.call f vs):=by
 intro w s₀ s₁ mg mb G Y fa o pm cd doc dV kV ho hd hcd hD hmg hg args vals as hpre hlay hrd hwl hlo;obtain rfl:dV=.none:=Dflts.none hD hdf;obtain rfl:kV=.none:=Dflts.noKw hD;obtain⟨a,vs,ns,rfl,rfl,hobj,hints,hlen⟩:=Vg hn hpre hwl;refine enter_call (codeAny_mono (call w s₀ s₁ mg mb fa o pm cd doc a vs ns G Y ho (fd_plain hd) hcd hmg hobj hints hlen hg) λr s' hq=>?_);obtain⟨rfl,h2,h3,h4⟩:=hq;exact⟨.inl ⟨.bool true,.bool true,[],rfl,λ_=>rfl,.bool true,SM l _,λ_=>⟨List.Pairwise.nil,λ_ hm=>(nomatch hm)⟩⟩,h2,h3,h4⟩
end Att
namespace L2
open PySem PySem.Spec PyProof.Rows
theorem ME:∀{vs:List Value} {ns:List Int},IntsAre vs ns->Vals (ns.map V.int) vs
 |_,_,.nil=>.nil
 |_,_,.cons n t h=>.cons ⟨t,rfl⟩ (ME h)
def ut(H:Hp):Prop:=∀b,H b=none∨∃o xs,H b=some (.frz o (.lst xs))
theorem Ri{P:Program}{w:World}{K:FG}{mg mb:Str->Option Value}{CX:jV}{k:Nat}{fa a:Addr}{fd:FuncData}{x:Str}{sp:Sp}{s₁:Shared}{vs:List Value}{ns:List Int}
  (KX:K.In s₁.heap) (hns:s₁.heap.Ns mainGlobals mg) (hb:s₁.heap.Ns builtinsNs mb) (hbb:∀x:Str,x≠"__name__"->mb x=bootBuiltins x) (hlim:s₁.heap.NoLimit) (hg:s₁.gens= #[])
  (ha:s₁.heap.get? a=some {cls:=.type "list",data:=.seq vs.toArray}) (hi:IntsAre vs ns) (hl:ns.length<=sizeLine) (hr:Room k callerA)
  (F:∀base:Heap,K.In base->base.Ns mainGlobals mg->fR P w K mg base CX k fa fd [x] sp) (hbind:∀(s:Shared) (u:Value),BindsTo s fd ⟨[u],[]⟩ [(x,u)])
  (hsp:∀H:Hp,ut H->SqL K H a (ns.map V.int)->sp [.ref a] H (λv _=>v=.bl true) λ_ _ _=>False)
  (hCX:∀H e s',CX [] H s₁ (λ_ _ _=>False) e s'->False):
  codeAny (model P w) callerA (.call (.ref fa) ⟨[.ref a],[]⟩) (λr s'=>r=.ok (.ret (.bool true))/\OldK s₁.heap s'.heap/\s'.os=s₁.os/\AllBare s'.gens) s₁:=by
 have rv:=ME hi;have lenV:=hi.length
 -- from an abstract heap in which nothing but the script may be tracked
 have core:∀H:Hp,ut H->SqL K H a (ns.map V.int)->HOk P w H s₁.heap->(∀b,H b≠none->b=a)->(H a≠none->K.lookup a=none)->
   codeAny (model P w) callerA (.call (.ref fa) ⟨[.ref a],[]⟩) (λr s'=>r=.ok (.ret (.bool true))/\OldK s₁.heap s'.heap/\s'.os=s₁.os/\AllBare s'.gens) s₁:=by
  intro H hO hS hok hA hK;have base_of:∀{b:Addr} {o:Obj},s₁.heap.get? b=some o->H b=none->(k6 s₁.heap H).get? b=some o:=λe n=>T2 e n;have noA:∀{b:Addr} {o:Obj} {es:Array DictEntry} {ep:Nat},s₁.heap.get? b=some o->o.data=.dict es ep->H b=none:=λ{b o es ep} e d=>by
   cases q:H b with
   |none=>rfl
   |some u=>
    have e':b=a:=hA b (by rw[q];simp);subst e';rw[ha] at e;cases e;have d':Data.seq vs.toArray _=Data.dict es ep:=d;cases d'
  have nsK:∀{b:Addr} {m:Str->Option Value},s₁.heap.Ns b m->(k6 s₁.heap H).Ns b m:=λ{b m} ⟨o,es,ep,e,d,r⟩=>⟨o,es,ep,base_of e (noA e d),d,r⟩;have hKb:K.In (k6 s₁.heap H):=λb o e=>base_of (KX b o e) (by
   cases q:H b with
   |none=>rfl
   |some u=>
    have e':b=a:=hA b (by rw[q];simp);subst e';rw[hK (by rw[q];simp)] at e;cases e)
  have hM:Mod K mg (k6 s₁.heap H):=⟨hKb,nsK hns,⟨mb,nsK hb,hbb⟩,let ⟨mc,h1,h2⟩:=hlim;⟨mc,nsK h1,h2⟩⟩;have e0:Env0 P w K mg (k6 s₁.heap H) callerA [] s₁ H:=⟨rfl,hM,λb o e=>N5 e,Nat.le_of_eq (RD _ _),trivial,λb hb=>absurd (show b∈([]:List Addr) from hb) (by simp),hok,.of_eq hg⟩;refine codeAny_mono ((F _ hKb (nsK hns)).run callerA [] s₁ H ⟨[.ref a],[]⟩ [.ref a] [.ref a] _ _ hr e0 (hbind s₁ (.ref a)) (.cons rfl .nil) (hsp H hO hS)) λr s' h=>?_
  cases r with
  |error e=>exact (hCX H e s' h).elim
  |ok fl=>
   cases fl with
   |next=>exact False.elim h
   |brk=>exact False.elim h
   |cont=>exact False.elim h
   |ret u=>
    obtain⟨v,H',os,bare,un,hok',r',q⟩:=h;have q':v=.bl true:=q;subst q';obtain rfl:u=Value.bool true:=r';refine⟨rfl,OldK.of_keep λb o e=>?_,os,bare⟩;cases q:H b with
    |none=>exact un.keep b o e q (by intro z;exact absurd (show b∈([]:List Addr) from z) (by simp)) (by simp)
    |some u=>
     rcases hO b with z | ⟨ob,xs,z⟩
     ·rw[q] at z;cases z
     ·have z2:=un.frzs b ob _ z;obtain⟨e1,_⟩:=hok b _ z;obtain⟨e2,_⟩:=hok' b _ z2;rw[e] at e1;cases e1;exact e2
 cases hk:K.lookup a with
 |some o=>
  -- the script is one of the module's own objects
  have e:=KX a o hk;rw[ha] at e;cases e;refine core (λ_=>none) (λ_=>.inl rfl) (.inr ⟨_,vs.toArray,_,hk,rfl,rfl,rfl,by rw[bB,lenV];exact hl,by simpa using rv⟩) (λb u z=>by have z':(none:Option HO)=some u:=z;cases z') (λb z=>absurd rfl z) λz=>absurd rfl z
 |none=>
  refine core (λb=>if b=a then some (.frz {cls:=.type "list",data:=.seq vs.toArray} (.lst (ns.map V.int))) else none) (λb=>?_) (.inl (.inr ⟨{cls:=.type "list",data:=.seq vs.toArray},if_pos rfl⟩)) (λb u z=>?_) (λb z=>?_) λ_=>hk
  ·by_cases hb:b=a
   ·exact .inr ⟨_,_,if_pos hb⟩
   ·exact .inl (if_neg hb)
  ·by_cases hb:b=a
   ·have z':=(if_pos hb).symm.trans z;cases z';subst hb;exact⟨ha,by rw[aQ];exact hl,vs,_,rv,ha⟩
   ·have z':=(if_neg hb).symm.trans z;cases z'
  ·by_cases hb:b=a
   ·exact hb
   ·exact absurd (if_neg hb) z
theorem walk_of{l:PySem.W.OpenLaw}{n k:Nat}{q:Program}{loose:List Str}{XP:(Str->Option Value)->Heap->Prop}{YP:World->Heap->Prop}{d:DefRec}{K:Params->FG}{CX:World->jV}{sp:World->Sp}{x:Str}
  (hn:l.most=some n) (hn2:n<=sizeLine) (hdf:d.params.defaults=[]) (hr:Room k callerA)
  (hY:∀(w:World) (h:Heap),YP w h->(K w.params).In h)
  (F:∀(w:World) (mg:Str->Option Value) (fa:Addr) (h:Heap),(K w.params).In h->h.Ns mainGlobals mg->mg d.name=some (.ref fa)->
   ∃fd:FuncData,(∀(s:Shared) (u:Value),BindsTo s fd ⟨[u],[]⟩ [(x,u)])/\
    ∀base:Heap,(K w.params).In base->base.Ns mainGlobals mg->fR l.prog w (K w.params) mg base (CX w) k fa fd [x] (sp w))
  (hsp:∀(w:World) (H:Hp) (a:Addr) (ns:List Int),ns.length<=n->ut H->SqL (K w.params) H a (ns.map V.int)->sp w [.ref a] H (λv _=>v=.bl true) λ_ _ _=>False)
  (hCX:∀(w:World) (H:Hp) (s:Shared) (e:Value) (s':Shared),CX w [] H s (λ_ _ _=>False) e s'->False):
  PySem.W.WalkO q loose XP YP l.row.toRowW d [] (λf vs=>PySem.call f vs):=by
 refine Att.attach_call hn hdf λw s₀ s₁ mg mb fa o pm cd doc a vs ns G Y ho hd hcd hmg hobj hints hlen hg=>?_;have KX:=hY w _ Y;obtain⟨fd,hb,hF⟩:=F w mg fa _ KX G.T.g hmg;exact Ri KX G.T.g G.T.b G.T.builtins G.T.nolimit hg hobj hints (bK hlen hn2) hr hF hb (λH hO hS=>hsp w H a ns hlen hO hS) λH e s'=>hCX w H s₁ e s'
noncomputable def gG(s:Stmt)(j:Nat):Stmt:=match s with
 |.ClassDef _ _ _ body _ _ _ _ _ _ _=>body.getD j (.Pass ⟨0,0,0,0⟩)
 |_=>.Pass ⟨0,0,0,0⟩
noncomputable def i9(s:Stmt):Arguments:=match s with
 |.FunctionDef _ a _ _ _ _ _ _ _ _=>a
 |_=>{posonlyargs:=[],args:=[],vararg:=none,kwonlyargs:=[],kw_defaults:=[],kwarg:=none,defaults:=[]}
noncomputable def iD(s:Stmt):List Stmt:=match s with
 |.FunctionDef _ _ b _ _ _ _ _ _ _=>b
 |_=>[]
noncomputable def eQ(s:Stmt):Scope:=match s with
 |.FunctionDef _ _ _ _ _ _ sc _ _ _=>sc
 |_=>{kind:=.function,names:=[],isGenerator:=false,isCoroutine:=false}
abbrev iQ:jV:=λ_ _ _ _ _ _=>False
abbrev E0:XK:=λ_ _ _=>False
theorem mW{X:Cx}:kT iQ X E0:=λ_ _ _ _ _ _ _ h=>h.elim
structure Fun(K:FG)(x qual:Str)(st:Stmt)(f:Addr)(fd:FuncData):Prop where
 ex:∃(oc:Value) (od:Option Addr) (kV doc pm:Value) (an:Option Addr) (cdv ct:Value) (osl:Array (Option Value)),
  fd=PySem.W.fnOf x qual (i9 st) (iD st) (eQ st) .none kV doc pm an cdv ct/\K.lookup f=some ⟨oc,od,.func fd,osl⟩/\PySem.W.codeIn K cdv qual=true
 kp:PySem.W.keepIn K (.ref f)=true
section
variable{P:Program}{w:World}{K:FG}{mg:Str->Option Value}{base:Heap}
theorem Fun.ok{x qual:Str}{st:Stmt}{f:Addr}{fd:FuncData}{N ps:List Str}{k:Nat}{sp:Sp}(F:Fun K x qual st f fd)(S:eC N ps (eQ st))(len:∀vs H Q E,sp vs H Q E->vs.length=ps.length)
  (hbody:∀(cdv:Value) (A:Around) (outer:List Env) (s:Shared) (H:Hp) (vs:List V) (Q:VK) (E:XK),Room k (A.deeper (envOfC qual (eQ st) s.heap.objs.size f cdv))->sp vs H Q E->
   ∃t,PSs (lF iQ P w K mg base N qual (eQ st) f cdv A outer s H E).nox (iD st) t/\t {nx:=λ_ H'=>Q .non H',rt:=Q} (start N vs) H):fR P w K mg base iQ (k+1) f fd ps sp:=by
 obtain⟨oc,od,kV,doc,pm,an,cdv,ct,osl,rfl,lk,hcd⟩:=F.ex;refine CA lk hcd S len λA outer s H vs Q E hr hsp=>?_;obtain⟨t,h,q⟩:=hbody cdv A outer s H vs Q E hr hsp;exact⟨t,h.nox,q⟩
theorem Fun.binds{x qual:Str}{st:Stmt}{f:Addr}{fd:FuncData}{ps:List Str}(F:Fun K x qual st f fd)
  (h:∀(kV doc pm:Value) (an:Option Addr) (cdv ct:Value) (us:List Value),us.length=ps.length->bindArgs (PySem.W.fnOf x qual (i9 st) (iD st) (eQ st) .none kV doc pm an cdv ct) ⟨us,[]⟩=pure (ps.zip us)):Binds K fd ps []:=by
 obtain⟨oc,od,kV,doc,pm,an,cdv,ct,osl,rfl,lk,hcd⟩:=F.ex;exact .all (h kV doc pm an cdv ct)
theorem wW{x qual:Str}{st:Stmt}{f:Addr}{oc:Value}{od an:Option Addr}{osl:Array (Option Value)}{kV doc pm cdv ct:Value}(l:K.lookup f=some ⟨oc,od,.func (PySem.W.fnOf x qual (i9 st) (iD st) (eQ st) .none kV doc pm an cdv ct),osl⟩)
  (c:PySem.W.codeIn K cdv qual=true) (k:PySem.W.keepIn K (.ref f)=true):Fun K x qual st f (PySem.W.fnOf x qual (i9 st) (iD st) (eQ st) .none kV doc pm an cdv ct):=⟨⟨oc,od,kV,doc,pm,an,cdv,ct,osl,rfl,l,c⟩,k⟩
variable{X:Cx}
theorem pv(i:Nat){x:Str}{pos:Pos}(hN:X.N[i]? =some x:=by rfl)(hv:qL X.env.scope x:=by first | exact Or.inl rfl | exact Or.inr (Or.inl rfl) | exact Or.inr (Or.inr rfl))(hd:(x==("__debug__":Str))=false:=by decide)
  (hcd:(x==("__classdict__":Str))=false:=by decide):PE X (.Name x pos) (uA i):=CO hN hv hd hcd
end
theorem fN{A B:Prop}(h:B):if false=true then A else B:=by
 rw[if_neg bA];exact h
theorem gH{A B:Prop}(h:A):if true=true then A else B:=by
 rw[if_pos rfl];exact h
theorem sN{c A B:Prop}[Decidable c](h1:c->A)(h2:¬c->B):if c then A else B:=by
 by_cases h:c
 ·rw[if_pos h];exact h1 h
 ·rw[if_neg h];exact h2 h
def Same(H H':Hp):Prop:=∀b o,H b=some o->H' b=some o
theorem Same.refl(H:Hp):Same H H:=λ_ _ h=>h
theorem Same.trans{H H1 H2:Hp}(a:Same H H1)(b:Same H1 H2):Same H H2:=λc o h=>b c o (a c o h)
theorem Same.free{H H':Hp}(e:Same H H'){l:Addr}(h:H' l=Option.none):H l=Option.none:=by
 cases q:H l with
 |none=>rfl
 |some o=>
  rw[e l o q] at h;cases h
theorem Same.seq{K:FG}{H H':Hp}{a:Addr}{xs:List V}(e:Same H H')(h:SqL K H a xs):SqL K H' a xs:=by
 rcases h with (h | ⟨o,h⟩) | h
 ·exact .inl (.inl (e _ _ h))
 ·exact .inl (.inr ⟨o,e _ _ h⟩)
 ·exact .inr h
section
variable{X:Cx}
theorem Tt:jx X (.builtin "isinstance") (λxs H Q=>∃i:Int,xs=[.int i,.ty "int"]/\Q (.bl true) H):=by
 intro pins s σ H xs us Q I r h;obtain⟨i,rfl,q⟩:=h;obtain⟨u,w',rfl,⟨t,rfl⟩,r2⟩:=mO r;cases r2;exact PySem.IsiPair.int_int ⟨.bl true,H,I,rfl,q⟩
theorem PD:jx X (.builtin "isinstance") (λxs H Q=>∃i:Int,xs=[.int i,.ty "bool"]/\Q (.bl false) H):=by
 intro pins s σ H xs us Q I r h;obtain⟨i,rfl,q⟩:=h;obtain⟨u,w',rfl,⟨t,rfl⟩,r2⟩:=mO r;cases r2;exact PySem.IsiPair.int_bool ⟨.bl false,H,I.tok _,rfl,q⟩
end
structure Df(P:Program)(w:World)(K:FG)(mg:Str->Option Value)(base:Heap)(x:Str)(k:Nat)(ps:List Str)(sp:Sp):Prop where
 ex:∃(f:Addr) (fd:FuncData),fR P w K mg base iQ k f fd ps sp/\Binds K fd ps []/\mg x=some (.ref f)/\PySem.W.keepIn K (.ref f)=true
structure Fn(K:FG)(mg:Str->Option Value)(x:Str)(st:Stmt)(ps:List Str):Prop where
 ex:∃(f:Addr) (fd:FuncData),Fun K x x st f fd/\Binds K fd ps []/\mg x=some (.ref f)
section
variable{P:Program}{w:World}{K:FG}{mg:Str->Option Value}{base:Heap}{x:Str}{st:Stmt}{ps N:List Str}{k:Nat}{sp:Sp}
theorem Fn.df(F:Fn K mg x st ps)(S:eC N ps (eQ st))(len:∀vs H Q E,sp vs H Q E->vs.length=ps.length)
  (hbody:∀(f:Addr) (cdv:Value) (A:Around) (outer:List Env) (s:Shared) (H:Hp) (vs:List V) (Q:VK) (E:XK),Room k (A.deeper (envOfC x (eQ st) s.heap.objs.size f cdv))->sp vs H Q E->
   ∃t,PSs (lF iQ P w K mg base N x (eQ st) f cdv A outer s H E).nox (iD st) t/\t {nx:=λ_ H'=>Q .non H',rt:=Q} (start N vs) H):Df P w K mg base x (k+1) ps sp:=by
 obtain⟨f,fd,F1,hb,hm⟩:=F.ex;exact⟨⟨f,fd,F1.ok S len (hbody f),hb,hm,F1.kp⟩⟩
theorem fm{h:Heap}{f:Addr}{oc:Value}{od an:Option Addr}{osl:Array (Option Value)}{kV doc pm cdv ct:Value}(X:K.In h)(G:h.Ns mainGlobals mg)
  (a:PySem.W.nsIn K mainGlobals x=some (some (.ref f))) (l:K.lookup f=some ⟨oc,od,.func (PySem.W.fnOf x x (i9 st) (iD st) (eQ st) .none kV doc pm an cdv ct),osl⟩)
  (c:PySem.W.codeIn K cdv x=true) (k:PySem.W.keepIn K (.ref f)=true)
  (hb:∀(kV doc pm:Value) (an:Option Addr) (cdv ct:Value) (us:List Value),us.length=ps.length->bindArgs (PySem.W.fnOf x x (i9 st) (iD st) (eQ st) .none kV doc pm an cdv ct) ⟨us,[]⟩=pure (ps.zip us)):Fn K mg x st ps:=by
 have F:=wW (st:=st) l c k;exact⟨⟨f,_,F,F.binds (ps:=ps) hb,PySem.W.mg_of X G a⟩⟩
end
section
variable{X:Cx}
theorem Vj{x:Str}{k k':Nat}{ps:List Str}{sp:Sp}{e:Expr}{es:List Expr}{t:TA}{p pos:Pos}(D:Df X.prog X.w X.K X.mg X.base x k ps sp)(hr:Room k' X.A)(ha:PA X (e::es) t)(hk:k<=k':=by decide)(hg:Gl X x:=by rfl)
  (hdb:(x==("__debug__":Str))=false:=by decide) (he:starEach (e::es) X.env=(false,eval e X.env)::starEach es X.env:=by rfl) (hpl:(backTo pos (starEach es X.env)).any (·.1)=false:=by rfl):
  PE X (.Call (.Name x p) (e::es) [] pos) (nB sp [] E0 t):=by
 obtain⟨f,fd,F,hb,hm,kp⟩:=D.ex;exact SQ F (hr.mono hk) hg hm kp hb .nil mW ha hdb he hpl
end
theorem eS{H:Hp}{p:Addr}(h:H p=none)(o:HO):Same H (upd H p o):=λb u q=>by rw[fh (gF q h)];exact q
theorem int_eq{a b:Int}:(V.int a=V.int b)↔a=b:=⟨λh=>V.int.inj h,λh=>by rw[h]⟩
theorem f6{a b:Int}{A B:Prop}(h1:a=b->A)(h2:¬a=b->B):if decide (V.int a=V.int b)=true then A else B:=
 sN (λc=>h1 (int_eq.mp (dY c))) (λc=>h2 λe=>c (dZ (int_eq.mpr e)))
theorem qJ{a b:Int}{A B:Prop}(h1:¬a=b->A)(h2:a=b->B):if (!decide (V.int a=V.int b))=true then A else B:=by
 by_cases e:a=b
 ·rw[dZ (int_eq.mpr e)];exact fN (h2 e)
 ·rw[d7 λq=>e (int_eq.mp q)];exact gH (h1 e)
theorem gz{c:Prop}[Decidable c]{A B:Prop}(h1:c->A)(h2:¬c->B):if decide c=true then A else B:=
 sN (λq=>h1 (dY q)) (λq=>h2 λe=>q (dZ e))
theorem v9{a b:Int}{A B:Prop}(e:a=b)(h:B):if (!decide (V.int a=V.int b))=true then A else B:=by
 rw[dZ (int_eq.mpr e)];exact fN h
noncomputable def pC:Expr->Option Int
 |.Constant (.int i) _ _=>some i
 |_=>none
def GM(is:List Int):TA:=λ_ H Q=>Q (is.map V.int) H
theorem LS{X:Cx}:∀{es:List Expr} (is:List Int),es.map pC=is.map some->PA X es (GM is)
 |[],[],_=>kz
 |[],_::_,h=>by cases h
 |_::_,[],h=>by cases h
 |e::es,i::is,h=>by
  have h1:pC e=some i:=(List.cons.inj h).1;have h2:es.map pC=is.map some:=(List.cons.inj h).2;obtain⟨j,pos,rfl⟩:∃j pos,e=.Constant (.int i) j pos:=by
   unfold pC at h1;split at h1
   ·cases h1;exact⟨_,()⟩
   ·cases h1
  exact jR Ig (LS is h2)
structure jd(X:Cx)(scope:Scope)(cl:List (Str×Addr)):Prop where
 is:closureFor scope X.env=pure cl
 sub:∀y c,cl.lookup y=some c->X.env.cells.lookup y=some c
 has:∀y,scope.names.lookup y=some .free->∃c,cl.lookup y=some c
 nocell:∀y∈scope.names,y.2≠ .cell
 kind:scope.kind=.function
 names:∀y∈scope.names,y.2=.local->scope.names.lookup y.1=some .local
noncomputable def gJ(X:Cx)(N:List Str)(scope:Scope)(cl:List (Str×Addr))(C:Addr)(ex:List Addr)(pins:List (Addr×Obj))(s:Shared)(H:Hp):Cx:=
 {X with N:=N,s₀:=s,H₀:=H,env:=compEnvC scope cl C X.env,outer:=X.stack,stack:=X.stack,ex:=ex,fn:=λ_=>false,pn:=X.pn++pins,xe:=λ_ _=>False}
noncomputable def gy(js:List Nat)(σ:St):St:=js.map λj=>(σ[j]?).getD none
noncomputable def D3(ifs:List Expr)(env:Env):Sem Bool:=
 forIn ifs true λc r=>if r=true then (do let ok ←isTrue c env (eval c env);pure (ForInStep.yield ok)) else pure (ForInStep.yield r)
def PF(X:Cx)(ifs:List Expr)(t:TT):Prop:=
 ∀(pins:List (Addr×Obj)) (s:Shared) (σ:St) (H:Hp) (Q:Bool->Hp->Prop),Inv X pins σ H s->t σ H Q->
  wpAny (model X.prog X.w) X.A (D3 ifs X.env) (TP X pins σ Q) X.xe s
def DY:TT:=λ_ H Q=>Q true H
theorem Tg{X:Cx}:PF X [] DY:=λ_ _ _ H _ I h=>wpAny_tests_nil ⟨H,I,h⟩
theorem QM{X:Cx}{c:Expr}{t:TT}(h:PT X c t):PF X [c] t:=λpins s σ H Q I q=>wpAny_tests_one (h pins s σ H Q I q)
def l7(J:It)(js:List Nat)(σ:St)(tt:TT)(te:TE)(Q:VK)(H1:Hp):Prop:=∀D,H1 D=none->∃W:Nat->Nat->Hp->Prop,(∃m,W 0 m (upd H1 D (.lst [])))/\∀i m H2,W i m H2->
 (J.stop i H2/\Q (.ref D) H2)∨(J.go i H2/\∀v H3,J.yld i H2 v H3->tt (some v::gy js σ) H3 λb H4=>if b=true then
  te (some v::gy js σ) H4 λy H5=>∃ys,H5 D=some (.lst ys)/\ys.length<sizeLine/\∃m',m'<m/\W (i+1) m' (upd H5 D (.lst (ys++[y])))
  else ∃m',m'<m/\W (i+1) m' H4)
def yX(wi:TI)(js:List Nat)(tt:TT)(te:TE):TE:=λσ H Q=>wi σ H λJ H1=>l7 J js σ tt te Q H1
noncomputable def ll(env:Env)(n:Str)(k:NameKind):NameKind:=if (k==NameKind.free&&env.scope.kind== .function&&env.kindOf n==some .cell) then .cell else k
theorem WE{env:Env}{n:Str}{k:NameKind}:(if (k==NameKind.free&&env.scope.kind== .function&&env.kindOf n==some .cell) then (n,NameKind.cell) else (n,k))=(n,ll env n k):=by
 unfold ll;split<;>rfl
theorem IA{env:Env}:∀(names:List (Str×NameKind)) (x:Str),(relabel {kind:=.function,names:=names,isGenerator:=false,isCoroutine:=false} env).names.lookup x=(names.lookup x).map (ll env x)
 |[],_=>rfl
 |(n,k)::r,x=>by
  have ih:=IA (env:=env) r x;unfold relabel at ih ⊢;dsimp only at ih ⊢;rw[bV];dsimp only;rw[WE,cV,cV,ih];cases hx:x==n with
  |true=>
   have e:x=n:=by simpa using hx
   rw[e];rfl
  |false=>rfl
theorem tJ{env:Env}(scope:Scope)(x:Str):(relabel scope env).names.lookup x=(scope.names.lookup x).map (ll env x):=IA scope.names x
theorem Ot{env:Env}{x:Str}{o:Option NameKind}(hc:o≠some .cell)(h:o.map (ll env x)=some .cell∨o.map (ll env x)=some .free):o=some .free:=by
 cases o with
 |none=>rcases h with h | h<;>cases h
 |some k=>
  by_cases e:k=.free
  ·rw[e]
  ·have z:ll env x k=k:=by
    unfold ll;have e':(k==NameKind.free)=false:=by simpa using e
    rw[e'];rfl
   rw[Option.map_some,z] at h;rcases h with h | h
   ·exact absurd h hc
   ·exact h
theorem Vy{env:Env}{scope:Scope}{x:Str}(h:scope.names.lookup x=some .free):(relabel scope env).names.lookup x=some .cell∨(relabel scope env).names.lookup x=some .free:=by
 rw[tJ,h,Option.map_some];unfold ll;split
 ·exact .inl rfl
 ·exact .inr rfl
theorem M5{prog:Program}{w:World}{A:Around}{R:Result->Shared->Prop}{s:Shared}{elt tg iter:Expr}{ifs:List Expr}{scope:Scope}{pos:Pos}{it acc:Value}{env:Env}{EN:Value->Shared->Prop}
  (hEN:EN=notedBy (model prog w) A env λe s'=>R (.error e) s') (B:Nat->Shared->Prop)
  (turn:∀n s,B n s->wpAny (model prog w) A (pyNext it) (λr s₁=>match r with
   |none=>R (.ok .next) s₁
   |some v=>wpAny (model prog w) A (letOwnedTupleGo tg it v) (λ_ s₂=>wpAny (model prog w) A (assign tg env v) (λ_ s₃=>
     wpAny (model prog w) A (D3 ifs env) (λok s₄=>
      if ok=true then wpAny (model prog w) A (eval elt env) (λz s₅=>wpAny (model prog w) A (call (.builtin "list.append") [acc,z]) (λ_ s₆=>∃m,m<n/\B m s₆) EN s₅) EN s₄
      else ∃m,m<n/\B m s₄) EN s₃) EN s₂) EN s₁) EN s) (n:Nat) (h:B n s):
  codeAny (model prog w) A (.compLoop (.ListComp elt [⟨tg,iter,ifs,0⟩] scope pos) 0 it acc env) R s:=by
 subst hEN;refine codeAny_loop rfl B (λn s hI=>?_) n h;refine wpAny_noted (m:=compTurn (.ListComp elt [⟨tg,iter,ifs,0⟩] scope pos) 0 it acc env) ?_;rw[compTurn_list];refine dR (wpAny_standAt (dR (dU (turn n s hI) (λr s₁ h₁=>?_) λ_ _ z=>z)));cases r with
 |none=>exact d9 h₁
 |some v=>
  refine dR (dU h₁ (λ_ s₂ h₂=>?_) λ_ _ z=>z);refine dR (dU h₂ (λ_ s₃ h₃=>?_) λ_ _ z=>z);refine dR (dU h₃ (λok s₄ h₄=>?_) λ_ _ z=>z);cases ok with
  |false=>exact d9 ⟨rfl,h₄⟩
  |true=>
   refine dR (dR (dU h₄ (λz s₅ h₅=>?_) λ_ _ q=>q));exact dR (dU h₅ (λ_ s₆ h₆=>d9 (d9 ⟨rfl,h₆⟩)) λ_ _ q=>q)
theorem vK(env:Env):∀(names:List (Str×NameKind)) (acc:List (Str×Addr)),names.all (λy=>y.2 != .free||(env.cells.lookup y.1).isSome)=true->
  ∃cl:List (Str×Addr),(forIn (m:=Sem) names acc λx r=>(do
   let (name,kind):=x
   if kind== .free then do let c ←cellOf env name;pure (ForInStep.yield ((name,c)::r)) else pure (ForInStep.yield r)))=(pure cl:Sem _)/\
   (∀y c,cl.lookup y=some c->env.cells.lookup y=some c∨acc.lookup y=some c)/\(∀y,(∃c,acc.lookup y=some c)->∃c,cl.lookup y=some c)/\(∀y,(y,NameKind.free)∈names->∃c,cl.lookup y=some c)
 |[],acc,_=>⟨acc,rfl,λ_ _ h=>.inr h,λ_ h=>h,λ_ h=>nomatch h⟩
 |(n,k)::r,acc,h=>by
  rw[List.all_cons,bI] at h;by_cases hk:k=.free
  ·subst hk;have h1:(env.cells.lookup n).isSome=true:=by simpa using h.1
   obtain⟨c,hc⟩:=dG.mp h1;obtain⟨cl,e,p1,p2,p3⟩:=vK env r ((n,c)::acc) h.2;refine⟨cl,?_,λy c' hy=>?_,λy hy=>?_,λy hy=>?_⟩
   ·rw[←e];have q:cellOf env n=(pure c:Sem Addr):=by unfold cellOf;rw[hc]
    rw[List.forIn_cons];dsimp only;rw[if_pos (show (NameKind.free==NameKind.free)=true from rfl),q];rfl
   ·rcases p1 y c' hy with z | z
    ·exact .inl z
    ·rw[cV] at z;cases hyn:y==n with
     |true=>
      rw[hyn] at z;have e1:y=n:=by simpa using hyn
      have e2:c=c':=by simpa using z
      rw[e1,←e2];exact .inl hc
     |false=>
      rw[hyn] at z;exact .inr z
   ·refine p2 y ?_;rw[cV];cases hyn:y==n with
    |true=>exact⟨c,rfl⟩
    |false=>exact hy
   ·rcases aT.mp hy with z | z
    ·refine p2 y ⟨c,?_⟩;have e1:y=n:=(Prod.mk.inj z).1;rw[e1,cV];simp
    ·exact p3 y z
  ·obtain⟨cl,e,p1,p2,p3⟩:=vK env r acc h.2;have hk':(k==NameKind.free)=false:=by simpa using hk
   refine⟨cl,?_,p1,p2,λy hy=>?_⟩
   ·rw[←e];rw[List.forIn_cons];dsimp only;rw[if_neg (by rw[hk'];exact bA)];rfl
   ·rcases aT.mp hy with z | z
    ·exact absurd (Prod.mk.inj z).2.symm hk
    ·exact p3 y z
theorem wm{X:Cx}{scope:Scope}(h:scope.names.all (λy=>y.2 != .free||(X.env.cells.lookup y.1).isSome)=true)(h2:scope.names.all (λy=>y.2 != .cell)=true)(h3:scope.kind=.function)
  (h4:scope.names.all (λy=>y.2 != .local||scope.names.lookup y.1==some .local)=true):∃cl,jd X scope cl:=by
 obtain⟨cl,e,p1,p2,p3⟩:=vK X.env scope.names [] h;refine⟨cl,?_,λy c hy=>?_,λy hy=>p3 y (PySem.mem_of_lookup hy),λy hy=>by simpa using b6.mp h2 y hy,h3,λy hy hl=>?_⟩
 ·unfold closureFor;exact Eq.trans (congrArg (λt:Sem (List (Str×Addr))=>t >>=λr=>(pure r:Sem (List (Str×Addr)))) e) rfl
 ·rcases p1 y c hy with z | z
  ·exact z
  ·simp at z
 ·have q:=b6.mp h4 y hy;simpa [hl] using q
section
variable{js:List Nat}{σ:St}{tt:TT}{te:TE}{Q:VK}{H1:Hp}
theorem pQ{lo:Int}{n:Nat}(R:Nat->List V->Prop)(hn:n<=sizeLine)(h0:R 0 [])
  (hs:∀(i:Nat) (l:List V) (D:Addr) (H2:Hp) (E:V->Hp->Prop) (F:Hp->Prop),i<n->R i l->H1 D=none->Same H1 H2->H2 D=some (.lst l)->(∀y H5,Same H2 H5->R (i+1) (l++[y])->E y H5)->(∀H4,Same H2 H4->R (i+1) l->F H4)->
   tt (some (.int (lo+i))::gy js σ) H2 λb H4=>if b=true then te (some (.int (lo+i))::gy js σ) H4 E else F H4)
  (hd:∀(D:Addr) (H2:Hp) (l:List V),R n l->H1 D=none->Same H1 H2->H2 D=some (.lst l)->Q (.ref D) H2):l7 (ki lo n) js σ tt te Q H1:=by
 intro D hD;refine⟨λi m H2=>m=n-i/\i<=n/\Same H1 H2/\∃l,H2 D=some (.lst l)/\l.length<=i/\R i l,⟨n,by simp,bD _,eS hD _,[],eJ,aP _,h0⟩,?_⟩;rintro i m H2 ⟨rfl,hi,s2,l,h2,hll,hR⟩;by_cases hlt:i<n
 ·refine .inr ⟨hlt,λv H3 y=>?_⟩;obtain⟨e,ev⟩:=y;subst e ev;refine hs i l D _ _ _ hlt hR hD s2 h2 (λz H5 s5 r5=>?_) (λH4 s4 r4=>?_)
  ·refine⟨l,s5 _ _ h2,cI hll (bC hlt hn),n-(i+1),⋯,rfl,hlt,λb o hb=>?_,l++[z],eJ,by rw[aS,bX];omega,r5⟩;rw[fh (gF hb hD)];exact s5 _ _ (s2 _ _ hb)
  ·exact⟨n-(i+1),⋯,rfl,hlt,s2.trans s4,l,s4 _ _ h2,⋯,r4⟩
 ·have e:i=n:=⋯;subst e;exact .inl ⟨aP _,hd D H2 l hR hD s2 h2⟩
end
structure E(X:Cx)(e:Expr)(t:TE):Prop where
 h:PE X e t
structure T(X:Cx)(e:Expr)(t:TT):Prop where
 h:PT X e t
structure TW(X:Cx)(e:Expr)(t:TT):Prop where
 h:PW X e t
structure As(X:Cx)(es:List Expr)(t:TA):Prop where
 h:PA X es t
structure S(X:Cx)(st:Stmt)(t:TS):Prop where
 h:PS X st t
structure Ss(X:Cx)(sts:List Stmt)(t:TS):Prop where
 h:PSs X sts t
structure Il(X:Cx)(tg iter:Expr)(wi:TI):Prop where
 h:PI X tg iter wi
structure Gt(X:Cx)(tg:Expr)(t:TG):Prop where
 h:PG X tg t
structure nX(X:Cx)(ts:List Expr)(t:iV):Prop where
 h:ot X ts t
structure Fs(X:Cx)(ifs:List Expr)(t:TT):Prop where
 h:PF X ifs t
structure gu(X:Cx)(f:Value->Value->Sem Value)(r:R2):Prop where
 h:gq X f r
structure A6(X:Cx)(f:Value->Sem Value)(r:V->Hp->VK->Prop):Prop where
 h:rg X f r
structure gZ(X:Cx)(f:Value)(r:List V->Hp->VK->Prop):Prop where
 h:jx X f r
structure nW(X:Cx)(r:R2):Prop where
 h:oP X r
section
variable{X:Cx}{a b c e:Expr}{pos p:Pos}{ta tb tc te:TE}{t u:TT}{rest es:List Expr}{tA:TA}{op op':CmpOp}{r r':R2}{x:Str}
theorem v_(i:Nat)(hN:X.N[i]? =some x:=by rfl)(hv:qL X.env.scope x:=by first | exact Or.inl rfl | exact Or.inr (Or.inl rfl) | exact Or.inr (Or.inr rfl))(hd:(x==("__debug__":Str))=false:=by decide)(hcd:(x==("__classdict__":Str))=false:=by decide):
  E X (.Name x pos) (uA i):=⟨CO hN hv hd hcd⟩
theorem eI{i j}:E X (.Constant (.int i) j pos) (tC (.int i)):=⟨Ig⟩
theorem eB{k j}:E X (.Constant (.bool k) j pos) (tC (.bl k)):=⟨Qe⟩
theorem eN{j}:E X (.Constant .none j pos) (tC .non):=⟨UW⟩
theorem fF{v:V}{w':Value}(hm:X.mg x=some w')(q:RelV v w')(hg:Gl X x:=by rfl)(hd:(x==("__debug__":Str))=false:=by decide):E X (.Name x pos) (tC v):=⟨SN hg hm q hd⟩
theorem k9{n:String}(hm:X.mg x=none)(hv:bootBuiltins x=some (.type n))(hg:Gl X x:=by rfl)(hn:x≠"__name__":=by decide)(hd:(x==("__debug__":Str))=false:=by decide):E X (.Name x pos) (tC (.ty n)):=⟨Vo hg hm hv rfl hn hd⟩
theorem eE{o:Operator}(ho:gu X (binaryOp o) r)(ha:E X a ta)(hb:E X b tb):E X (.BinOp a o b pos) (lX r ta tb):=⟨XM ho.h ha.h hb.h⟩
theorem kW{o:UnaryOp}{r1:V->Hp->VK->Prop}(ho:A6 X (unaryOp o) r1)(ha:E X a ta):E X (.UnaryOp o a pos) (xh r1 ta):=⟨Ta ho.h ha.h⟩
theorem iU(ho:gu X (compareOp op) r)(ha:E X a ta)(hb:E X b tb)(hm:behindInMarks op b=false:=by first | exact IG _ | rfl):E X (.Compare a [op] [b] pos) (lX r ta tb):=⟨SF ho.h ha.h hb.h hm⟩
theorem rO(ho:gu X (compareOp op) r)(ho':gu X (compareOp op') r')(ha:E X a ta)(hb:E X b tb)(hc:E X c tc)(hm:lastMarks [op,op'] [b,c]=false:=by with_unfolding_all rfl):T X (.Compare a [op,op'] [b,c] pos) (p8 (Im r r' ta tb tc)):=⟨Rh ho.h ho'.h ha.h hb.h hc.h hm⟩
theorem ka{o}(ha:E X a ta):E X (.BoolOp o [a] pos) ta:=⟨Wy ha.h⟩
theorem mS(ha:E X a ta)(hb:E X (.BoolOp .And (b::rest) pos) tb):E X (.BoolOp .And (a::b::rest) pos) (DF ta tb):=⟨Q5 ha.h hb.h⟩
theorem qH(ha:E X a ta)(hb:E X (.BoolOp .Or (b::rest) pos) tb):E X (.BoolOp .Or (a::b::rest) pos) (Gf ta tb):=⟨RV ha.h hb.h⟩
theorem Jt(ha:E X a ta):E X (.UnaryOp .Not a pos) (G6 ta):=⟨NL ha.h⟩
theorem lc(hc:T X c t)(ha:E X a ta)(hb:E X b tb):E X (.IfExp c a b pos) (zo t ta tb):=⟨NC hc.h ha.h hb.h⟩
theorem eZ(ho:gu X (compareOp op) r)(ha:E X a ta)(hb:E X b tb)(hm:behindInMarks op b=false:=by first | exact IG _ | rfl):T X (.Compare a [op] [b] pos) (p8 (lX r ta tb)):=⟨Pr ho.h ha.h hb.h hm⟩
theorem jt(ha:T X a t):T X (.UnaryOp .Not a pos) (Cc t):=⟨Xn ha.h⟩
theorem g9(ha:E X e te)(he:∀whole,isTrue e X.env whole=(do let v ←whole;standAt e.pos;holding [v] (truthy v)):=by intro _;rfl):T X e (L2.tB te):=⟨XQ ha.h he⟩
theorem qm(ha:T X a t):TW X (.BoolOp .And [a] pos) t:=⟨VI ha.h⟩
theorem jJ(ha:T X a t):TW X (.BoolOp .Or [a] pos) t:=⟨NR ha.h⟩
theorem rf(ha:T X a t)(hb:TW X (.BoolOp .And (b::rest) pos) u):TW X (.BoolOp .And (a::b::rest) pos) (Et t u):=⟨Wg ha.h hb.h⟩
theorem jv(ha:T X a t)(hb:TW X (.BoolOp .Or (b::rest) pos) u):TW X (.BoolOp .Or (a::b::rest) pos) (Cy t u):=⟨Sr ha.h hb.h⟩
theorem tW(ha:TW X e t):T X e t:=⟨ha.h.pt⟩
theorem aN:As X [] il:=⟨kz⟩
theorem aC(ha:E X e te)(hr:As X es tA)(hs:starEach (e::es) X.env=(false,eval e X.env)::starEach es X.env:=by rfl):As X (e::es) (iI te tA):=⟨jR ha.h hr.h hs⟩
theorem rj(is:List Int)(h:es.map pC=is.map some:=by rfl):As X es (GM is):=⟨LS is h⟩
theorem gB(ha:As X es tA):E X (.List es pos) (Kz tA):=⟨V1 ha.h⟩
theorem ic{k}(ha:As X es tA):E X (.Tuple es k pos) (Mx tA):=⟨Tb ha.h⟩
theorem eK(hr:nW X r)(ha:E X a ta)(hb:E X b tb)(hs:zE b:=by intro _ _;rfl):E X (.Subscript a b pos) (lX r ta tb):=⟨NA hr.h ha.h hb.h hs⟩
theorem eD{k k':Nat}{ps:List Str}{sp:Sp}(D:Df X.prog X.w X.K X.mg X.base x k ps sp)(hr:Room k' X.A)(ha:As X (e::es) tA)(hk:k<=k':=by decide)(hg:Gl X x:=by rfl)
  (hdb:(x==("__debug__":Str))=false:=by decide) (he:starEach (e::es) X.env=(false,eval e X.env)::starEach es X.env:=by rfl) (hpl:(backTo pos (starEach es X.env)).any (·.1)=false:=by rfl):
  E X (.Call (.Name x p) (e::es) [] pos) (nB sp [] E0 tA):=⟨Vj D hr ha.h hk hg hdb he hpl⟩
theorem gh{id:String}{rc:List V->Hp->VK->Prop}(hc:gZ X (.builtin id) rc)(hm:X.mg x=none)(hv:bootBuiltins x=some (.builtin id))(ha:As X (e::es) tA)(hg:Gl X x:=by rfl)(hn:x≠"__name__":=by decide)(hdb:(x==("__debug__":Str))=false:=by decide)
  (he:starEach (e::es) X.env=(false,eval e X.env)::starEach es X.env:=by rfl) (hpl:(backTo pos (starEach es X.env)).any (·.1)=false:=by rfl):E X (.Call (.Name x p) (e::es) [] pos) (qx rc tA):=⟨Xd hc.h hg hm hv ha.h hn hdb he hpl⟩
theorem gQ{n:String}{rc:List V->Hp->VK->Prop}(hc:gZ X (.type n) rc)(hm:X.mg x=none)(hv:bootBuiltins x=some (.type n))(ha:As X (e::es) tA)(hg:Gl X x:=by rfl)(hn:x≠"__name__":=by decide)(hdb:(x==("__debug__":Str))=false:=by decide)
  (he:starEach (e::es) X.env=(false,eval e X.env)::starEach es X.env:=by rfl) (hpl:(backTo pos (starEach es X.env)).any (·.1)=false:=by rfl):E X (.Call (.Name x p) (e::es) [] pos) (qx rc tA):=⟨Sh hc.h hg hm hv ha.h hn hdb he hpl⟩
end
section
variable{X:Cx}
theorem fq:gu X (binaryOp .Add) (iz λi j=>.int (i+j)):=⟨QJ⟩
theorem fG:gu X (binaryOp .Sub) (iz λi j=>.int (i-j)):=⟨Xy⟩
theorem g6:gu X (binaryOp .Mult) (rI CMul λi j=>.int (i*j)):=⟨SW⟩
theorem jZ:gu X (binaryOp .FloorDiv) (rI Kx λi j=>.int (i / j)):=⟨XD⟩
theorem fW:gu X (binaryOp .Mod) (rI (λ_ j=>0<j) λi j=>.int (i%j)):=⟨SA⟩
theorem oG:gu X (binaryOp .Pow) (rI qF λi j=>.int (i^j.toNat)):=⟨OB⟩
theorem kD:gu X (binaryOp .LShift) (rI qF λi j=>.int (i*2^j.toNat)):=⟨Qq⟩
theorem uv:gu X (binaryOp .RShift) (rI (λ_ j=>0<=j) λi j=>.int (i / 2^j.toNat)):=⟨Vr⟩
theorem m6:gu X (binaryOp .BitAnd) (iz λi j=>.int (Builtin.bitAnd i j)):=⟨P0⟩
theorem lK:gu X (binaryOp .BitOr) (iz λi j=>.int (Builtin.bitOr i j)):=⟨Wr⟩
theorem JP:gu X (binaryOp .Add) Jk:=⟨MY⟩
theorem fZ:gu X (compareOp .Eq) FE:=⟨Qv⟩
theorem lr:gu X (compareOp .NotEq) Bb:=⟨Xw⟩
theorem kB:gu X (compareOp .Lt) (iz λi j=>.bl (decide (i<j))):=⟨RH⟩
theorem kG:gu X (compareOp .LtE) (iz λi j=>.bl (decide (i<=j))):=⟨Ts⟩
theorem jO:gu X (compareOp .Gt) (iz λi j=>.bl (decide (j<i))):=⟨O5⟩
theorem AX:gu X (compareOp .GtE) (iz λi j=>.bl (decide (j<=i))):=⟨T1⟩
theorem xL:nW X (tR X.K):=⟨Ng⟩
theorem xT:nW X (rS X.K):=⟨WL⟩
theorem vI:gZ X (.builtin "len") (λxs H Q=>∃p ys,xs=[.ref p]/\(SqL X.K H p ys∨SqT X.K H p ys)/\Q (.int ys.length) H):=⟨WI⟩
theorem sO:gZ X (.builtin "abs") (λxs H Q=>∃i,xs=[.int i]/\Q (.int (if i<0 then -i else i)) H):=⟨Nz⟩
theorem Jw(hc:X.calm=true:=by rfl):gZ X (.builtin "max") (λxs H Q=>∃i j,xs=[.int i,.int j]/\Q (.int (if j>i then j else i)) H):=⟨Vs hc⟩
theorem uR:gZ X (.type "int") (λxs H Q=>(∃i,xs=[.int i]/\Q (.int i) H)∨∃k,xs=[.bl k]/\Q (.int (if k then 1 else 0)) H):=⟨T8⟩
theorem ON:gZ X (.builtin "isinstance") (λxs H Q=>∃i:Int,xs=[.int i,.ty "int"]/\Q (.bl true) H):=⟨Tt⟩
theorem OG:gZ X (.builtin "isinstance") (λxs H Q=>∃i:Int,xs=[.int i,.ty "bool"]/\Q (.bl false) H):=⟨PD⟩
variable{e c iter tg:Expr}{te:TE}{tt:TT}{tA:TA}{wi:TI}{g:TG}{t u tb:TS}{st:Stmt}{rest body ba bb:List Stmt}{pos pos' p:Pos}{x:Str}{a1 a2:Expr}
theorem ft:Ss X [] Kf:=⟨Oh⟩
theorem O9(h1:S X st t)(h2:Ss X rest u):Ss X (st::rest) (uP t u):=⟨VV h1.h h2.h⟩
theorem eG(h1:S X st t):Ss X [st] t:=⟨Rg h1.h⟩
theorem jc:S X st Me:=⟨SC⟩
theorem eP(he:E X e te):S X (.Return (some e) pos) (IY te):=⟨Rc he.h⟩
theorem fo(hc:T X c tt)(ha:Ss X ba t)(hb:Ss X bb u):S X (.If c ba bb pos) (L8 tt t u):=⟨NH hc.h ha.h hb.h⟩
theorem kO(he:E X e te)(hs:swapsWith e none pos.line X.env=pure false:=by rfl):S X (.Expr e pos) (E5 te):=⟨SX he.h hs⟩
theorem eU(i:Nat)(he:E X e te)(hN:X.N.Nodup)(hi:X.N[i]? =some x:=by rfl)(hx:nG X.env.scope x:=by first | exact Or.inl rfl | exact Or.inr rfl)(hs:swapsWith e (some (.Name x pos')) pos.line X.env=pure false:=by rfl)
  (hf:X.fn x=true∨X.env.scope.names.lookup x=some .local:=by first | exact .inl rfl | exact .inr rfl):S X (.Assign [.Name x pos'] e pos) (oH te (jG i)):=⟨Se hN hi hx he.h hs hf⟩
theorem gN(i:Nat)(hN:X.N.Nodup)(hi:X.N[i]? =some x:=by rfl)(hx:nG X.env.scope x:=by first | exact Or.inl rfl | exact Or.inr rfl)(hf:X.fn x=true∨X.env.scope.names.lookup x=some .local:=by first | exact .inl rfl | exact .inr rfl):Gt X (.Name x pos) (jG i):=⟨Kh hN hi hx hf⟩
theorem io(hi:Il X tg iter wi)(hg:Gt X tg g)(hb:Ss X body tb)(hp:PassesOwn (model X.prog X.w) X.A X.env X.xe)(hc:X.calm=true:=by rfl)(hs:∀x,foldedSetIterable iter X.env x=pure x:=by intro _;rfl):S X (.For tg iter body [] pos) (Ic wi g tb):=⟨PL hp hc hi.h hg.h hb.h hs⟩
theorem qc(hc:T X c tt)(hb:Ss X body tb)(hp:PassesOwn (model X.prog X.w) X.A X.env X.xe):S X (.While c body [] pos) (u5 tt tb):=⟨VQ hp hc.h hb.h⟩
theorem iL(hl:E X e te):Il X tg e (rX X.K te):=⟨VD hl.h⟩
theorem iT(hl:E X e te):Il X tg e (DR X.K te):=⟨Tf hl.h⟩
theorem lZ(hm:X.mg "range"=none)(ha:As X [a1] tA)(hg:Gl X "range":=by rfl)(hs:starEach [a1] X.env=[(false,eval a1 X.env)]:=by rfl):Il X tg (.Call (.Name "range" p) [a1] [] pos) (Ks tA):=⟨Tj hg hm ha.h hs⟩
theorem LM(hm:X.mg "range"=none)(ha:As X [a1,a2] tA)(hg:Gl X "range":=by rfl)(hs:starEach [a1,a2] X.env=[(false,eval a1 X.env),(false,eval a2 X.env)]:=by rfl)(hs2:starEach [a2] X.env=[(false,eval a2 X.env)]:=by rfl):
  Il X tg (.Call (.Name "range" p) [a1,a2] [] pos) (Aw tA):=⟨Vm hg hm ha.h hs hs2⟩
end
def Go(P:Program)(w:World)(K:FG)(mg:Str->Option Value)(base:Heap)(N:List Str)(x:Str)(st:Stmt)(f:Addr)(cdv:Value)(A:Around)(outer:List Env)(s:Shared)(H:Hp)(vs:List V)(Q:VK)(E:XK):Prop:=
 ∃t,Ss (lF iQ P w K mg base N x (eQ st) f cdv A outer s H E).nox (iD st) t/\t {nx:=λ_ H'=>Q .non H',rt:=Q} (start N vs) H
section
variable{P:Program}{w:World}{K:FG}{mg:Str->Option Value}{base:Heap}{x:Str}{st:Stmt}{ps N:List Str}{k:Nat}{sp:Sp}
theorem Fn.dfs(F:Fn K mg x st ps)(S':eC N ps (eQ st))(len:∀vs H Q E,sp vs H Q E->vs.length=ps.length)
  (hbody:∀(f:Addr) (cdv:Value) (A:Around) (outer:List Env) (s:Shared) (H:Hp) (vs:List V) (Q:VK) (E:XK),Room k (A.deeper (envOfC x (eQ st) s.heap.objs.size f cdv))->sp vs H Q E->
   Go P w K mg base N x st f cdv A outer s H vs Q E):Df P w K mg base x (k+1) ps sp:=
 F.df S' len λf cdv A outer s H vs Q E hr h=>by
  obtain⟨t,h1,h2⟩:=hbody f cdv A outer s H vs Q E hr h;exact⟨t,h1.h,h2⟩
theorem Fun.oks{f:Addr}{fd:FuncData}(F:Fun K x x st f fd)(S':eC N ps (eQ st))(len:∀vs H Q E,sp vs H Q E->vs.length=ps.length)
  (hbody:∀(cdv:Value) (A:Around) (outer:List Env) (s:Shared) (H:Hp) (vs:List V) (Q:VK) (E:XK),Room k (A.deeper (envOfC x (eQ st) s.heap.objs.size f cdv))->sp vs H Q E->
   Go P w K mg base N x st f cdv A outer s H vs Q E):fR P w K mg base iQ (k+1) f fd ps sp:=
 F.ok S' len λcdv A outer s H vs Q E hr h=>by
  obtain⟨t,h1,h2⟩:=hbody cdv A outer s H vs Q E hr h;exact⟨t,h1.h,h2⟩
end
end L2
namespace L2
open PySem PySem.Spec PyProof.Rows PySem.SeqAt
theorem xq:∀{is:List Int} {us:List Value},Vals (is.map V.int) us->IntsAre us is
 |[],_,.nil=>.nil
 |_::_,_,.cons ⟨_,rfl⟩ r=>.cons _ _ (xq r)
section
variable{X:Cx}
theorem Rn(hc:X.calm=true):jx X (.builtin "sum") (λxs H Q=>∃(p:Addr) (is:List Int),xs=[.ref p]/\SqL X.K H p (is.map V.int)/\Q (.int is.sum) H):=by
 intro pins s σ H xs us Q I r h;obtain⟨p,is,rfl,hq,q⟩:=h;obtain⟨u,rfl,r1⟩:=iH r;cases r1;obtain⟨its,rv,pl,hz⟩:=I.list hq;have hi:=xq rv;obtain⟨ys,hy⟩:=hi.allInts.items;have hl:s.heap.IsList p (intItems ys):=by rw[←hy];exact pl.isList
 refine sum_intListG (I.ok.hd hc) hl λh' tk t' hk=>?_;have e1:is=ys.toList.map (·.1):=by
  rw[←nums_intItems,←hy];exact hi.numsOf.symm
 have e2:preSum (numAt ys) ys.size=is.sum:=by
  rw[preSum_eq,dI (by simp),e1]
 rw[e2];exact⟨.int is.sum,H,I.kept hk,⟨()⟩,q⟩
variable{elt iter:Expr}{x y:Str}{px py pos spos:Pos}{ifs:List Expr}{scope:Scope}{wi:TI}{tt:TT}{te:TE}
theorem jN:Fs X [] DY:=⟨Tg⟩
theorem Pz{c:Expr}(h:T X c tt):Fs X [c] tt:=⟨QM h.h⟩
theorem vb(hc:X.calm=true:=by rfl):gZ X (.builtin "sum") (λxs H Q=>∃(p:Addr) (is:List Int),xs=[.ref p]/\SqL X.K H p (is.map V.int)/\Q (.int is.sum) H):=⟨Rn hc⟩
theorem SY{es:List Expr}{k n:Nat}{t:iV}(h:nX X es t)(hc:X.calm=true:=by rfl)(hn:(assignEach es X.env).length=n:=by rfl)(hst:(assignEach es X.env).findIdx? (·.1)=none:=by rfl):Gt X (.Tuple es k pos) (pR X.K n t):=⟨M1 hc h.h hn hst⟩
theorem j6:nX X [] uC:=⟨Pw⟩
theorem gg{e:Expr}{es:List Expr}{t:TG}{u:iV}(h1:Gt X e t)(h2:nX X es u)(hs:(assignEach (e::es) X.env).map (·.2)=assign e X.env::(assignEach es X.env).map (·.2):=by rfl):nX X (e::es) (qK t u):=⟨Tp h1.h h2.h hs⟩
theorem pM{tg e:Expr}{g:TG}(he:E X e te)(hg:Gt X tg g)(hs:swapsWithSole [tg] e pos.line X.env=pure false:=by rfl)(hw:swappedStores [tg] e X.env=pure none:=by rfl)
  (h1:(assignEach [tg] X.env).map (·.2)=[assign tg X.env]:=by rfl):S X (.Assign [tg] e pos) (oH te g):=⟨VA he.h hg.h hs hw h1⟩
end
section
variable{js:List Nat}{σ:St}{tt:TT}{te:TE}{Q:VK}{H1:Hp}
theorem SL{K:FG}{a:Addr}{xs:List V}(R:Nat->List V->Prop)(hn:xs.length<=sizeLine)(h0:R 0 [])(hq:SqL K H1 a xs)
  (hs:∀(i:Nat) (v:V) (l:List V) (D:Addr) (H2:Hp) (E:V->Hp->Prop) (F:Hp->Prop),xs[i]? =some v->R i l->H1 D=none->Same H1 H2->H2 D=some (.lst l)->(∀y H5,Same H2 H5->R (i+1) (l++[y])->E y H5)->(∀H4,Same H2 H4->R (i+1) l->F H4)->
   tt (some v::gy js σ) H2 λb H4=>if b=true then te (some v::gy js σ) H4 E else F H4)
  (hd:∀(D:Addr) (H2:Hp) (l:List V),R xs.length l->H1 D=none->Same H1 H2->H2 D=some (.lst l)->Q (.ref D) H2):l7 (mR K a) js σ tt te Q H1:=by
 intro D hD;refine⟨λi m H2=>m=xs.length-i/\i<=xs.length/\Same H1 H2/\∃l,H2 D=some (.lst l)/\l.length<=i/\R i l,⟨xs.length,by simp,bD _,eS hD _,[],eJ,aP _,h0⟩,?_⟩;rintro i m H2 ⟨rfl,hi,s2,l,h2,hll,hR⟩;by_cases hlt:i<xs.length
 ·refine .inr ⟨⟨xs,xs[i],s2.seq hq,by simp[hlt]⟩,λv H3 y=>?_⟩;obtain⟨e,ev⟩:=y;subst e;have hv:=ev xs (s2.seq hq);refine hs i v l D _ _ _ hv hR hD s2 h2 (λz H5 s5 r5=>?_) (λH4 s4 r4=>?_)
  ·refine⟨l,s5 _ _ h2,cI hll (bC hlt hn),xs.length-(i+1),⋯,rfl,hlt,λb o hb=>?_,l++[z],eJ,by rw[aS,bX];omega,r5⟩;rw[fh (gF hb hD)];exact s5 _ _ (s2 _ _ hb)
  ·exact⟨xs.length-(i+1),⋯,rfl,hlt,s2.trans s4,l,s4 _ _ h2,⋯,r4⟩
 ·have e:i=xs.length:=⋯;subst e;exact .inl ⟨⟨xs,s2.seq hq,aP _⟩,hd D H2 l hR hD s2 h2⟩
def IntsR(i:Nat)(l:List V):Prop:=∃zs:List Int,l=zs.map V.int/\zs.length<=i
theorem IntsR.nil:IntsR 0 []:=⟨[],rfl,aP _⟩
theorem IntsR.one{i:Nat}{l:List V}(h:IntsR i l)(z:Int):IntsR (i+1) (l++[.int z]):=by
 obtain⟨zs,rfl,hl⟩:=h;exact⟨zs++[z],by rw[bE];rfl,by rw[aS,bX];omega⟩
theorem Same.tup{K:FG}{H H':Hp}{a:Addr}{xs:List V}(e:Same H H')(h:SqT K H a xs):SqT K H' a xs:=by
 rcases h with (h | ⟨o,h⟩) | h
 ·exact .inl (.inl (e _ _ h))
 ·exact .inl (.inr ⟨o,e _ _ h⟩)
 ·exact .inr h
theorem qN{c:TT}{tb:TS}{D:gC}{σ:St}{H:Hp}(Pv:St->Hp->Prop)(μ:St->Hp->Nat)(h0:Pv σ H)
  (hs:∀σ H,Pv σ H->c σ H λb H1=>if b=true then ∃N:St->Hp->Prop,(∀σ' H',N σ' H'->∃m',m'<μ σ H/\m'=μ σ' H'/\Pv σ' H')/\tb {D with nx:=N,ct:=N,bk:=D.nx} σ H1 else D.nx σ H1):u5 c tb D σ H:=
 ⟨λm σ H=>m=μ σ H/\Pv σ H,⟨(),h0⟩,by
  rintro m σ H ⟨rfl,p⟩;exact hs σ H p⟩
theorem kP{X:Cx}:A6 X (unaryOp .USub) (rU λi=>.int (-i)):=⟨SK⟩
end
section
variable{prog:Program}{w:World}{A:Around}{E:Value->Shared->Prop}{s:Shared}
theorem xk{it l:Addr}{its:Array Value}(hne:l≠it):∀(n i:Nat) (s:Shared) (Q:List Value->Shared->Prop),s.heap.IsListIter it l i->s.heap.IsList l its->i+n<=its.size->
  (∀h',h'.IsListIter it l (i+n)->Heap.SameBut it s.heap h'->Q ((its.toList.drop i).take n) {s with heap:=h'})->wpAny (model prog w) A (draw (.ref it) n) Q E s
 |0,i,s,Q,hit,_,_,hQ=>by
  have z:wpAny (model prog w) A (pure ([]:List Value)) Q E s:=d9 (by simpa using hQ s.heap hit (Heap.SameBut.refl ..));exact z
 |n+1,i,s,Q,hit,hl,hle,hQ=>by
  have hi:i<its.size:=⋯;have z:wpAny (model prog w) A (pyNext (.ref it)) (λr s₁=>wpAny (model prog w) A (match r with | none=>pure [] | some v=>(do let rest ←holding [v] (draw (.ref it) n);pure (v::rest))) Q E s₁) E s:=by
   refine wpAny_pyNext_list_item hit hl (x:=its[i]) (by simp[hi]) λh₁ hit₁ hs₁=>?_;refine dR (dX (xk hne n (i+1) _ _ hit₁ (hl.extBut hs₁.extBut hne) ⋯ λh₂ hit₂ hs₂=>d9 ?_));have hd:its.toList.drop i=its[i]::its.toList.drop (i+1):=by simp[List.drop_eq_getElem_cons,hi]
   have e:i+(n+1)=i+1+n:=⋯;have q:=hQ h₂ (by rw[e];exact hit₂) (hs₁.trans hs₂);rw[hd,List.take_succ_cons] at q;exact q
  exact dR z
theorem SU{l:Addr}{its:Array Value}{Q:List Value->Shared->Prop}(hh:A.handled=none)(hl:s.heap.IsList l its)(hQ:∀h',Heap.ExtBut s.heap.objs.size s.heap h'->Q its.toList {s with heap:=h'}):
  wpAny (model prog w) A (unpackItems (.ref l) its.size none) Q E s:=by
 have hne:l≠s.heap.objs.size:=by
  obtain⟨o,ho,_⟩:=hl;exact aW (aR ho)
 unfold unpackItems;refine dR ?_;unfold notIterableAtAll;refine dR (wpAny_specialOf hl.typeIs slot_list_iter.lookup (d9 ?_));simp only[Bool.false_eq_true,if_false];refine dR (dX (wpAny_pyIter_list hl (dR (dX (xk hne its.size 0 _ _ ⟨_,bM _ rfl,rfl,rfl⟩ (hl.push _) ⋯ λh₁ hit₁ hs₁=>?_)))));have all:List.take its.size (List.drop 0 its.toList)=its.toList:=by
  rw[List.drop_zero];exact dI (by simp)
 rw[all,if_neg (by simp)];have hl₁:h₁.IsList l its:=(hl.push _).extBut hs₁.extBut hne;refine dR (dX (wpAny_pyNext_list_end hh hit₁ hl₁ (by simp) λh₂ he₂=>?_));simp only[Option.isSome_none,Bool.false_eq_true,if_false];exact d9 (hQ h₂ λb o hb e=>he₂ b o hb (hs₁.extBut b o hb (aU _ e)))
end
inductive Rm (K:FG) (n:Nat) (t:iV) (v:V) (σ:St) (H:Hp) (Q:St->Hp->Prop):Prop
 |mk (a:Addr) (xs:List V) (e:v=.ref a) (s:SqL K H a xs) (l:xs.length=n) (r:t xs σ H Q)
def SS(K:FG)(n:Nat)(t:iV):TG:=Rm K n t
section
variable{X:Cx}{pos:Pos}
theorem zQ{es:List Expr}{k n:Nat}{t:iV}(h:nX X es t)(hc:X.calm=true:=by rfl)(hn:(assignEach es X.env).length=n:=by rfl)(hst:(assignEach es X.env).findIdx? (·.1)=none:=by rfl):Gt X (.Tuple es k pos) (SS X.K n t):=by
 refine⟨λpins s σ H v u Q I r hw=>?_⟩;obtain⟨a,xs,e1,hq,hl,hw⟩:=hw;subst e1;cases r;obtain⟨its,rv,pl,hz⟩:=I.list hq;rw[assign_Tuple];refine dR (wpAny_standAt ?_);unfold unpack;have e2:(assignEach es X.env).length=its.toArray.size:=by rw[hn,←hl,rv.length,bB]
 rw[e2,hst];refine dR (dX (SU (I.ok.hd hc) pl.isList λh' hx=>?_));have I1:Inv X pins σ H {s with heap:=h'}:=I.kept (t':=s.toks) λb o e=>hx b o (aW (aR e)) e;exact h.h pins _ σ H xs _ Q I1 (by simpa using rv) hw
theorem mT{o e:Expr}{to te:TE}{apos cpos:Pos}(ho:E X o to)(he:E X e te)(hbase:attributeBase o "append" X.env (eval o X.env)=eval o X.env:=by rfl)
  (hfew:((backTo cpos (starEach [e] X.env)).all (λx=> !x.1)&&(backToKw cpos (keywordEach [] X.env)).all (λx=>x.1.isSome)&&decide (([e]:List Expr).length+([]:List Keyword).length+(if ([]:List Keyword).isEmpty then 0 else 1)<30))=true:=by rfl)
  (hline:(apos.endLine==cpos.line)=true:=by rfl) (hs:starEach [e] X.env=(false,eval e X.env)::starEach [] X.env:=by rfl) (hplain:(backTo cpos (starEach [] X.env)).any (·.1)=false:=by rfl):
  E X (.Call (.Attribute o "append" apos) [e] [] cpos) (mH X.K "list" GW to (iI te il)):=
 ⟨nr PySem.F.plainAttrs_list PySem.F.slot_list_append PySem.F.type_list_append Ad ho.h (jR he.h kz hs) hbase hfew hline hs hplain⟩
variable{js:List Nat}{σ:St}{tt:TT}{te:TE}{Q:VK}{H1:Hp}
end
def Digs(ds ss:List Int):Prop:=Paired (λd z:Int=>0<=d/\d<z) ds ss
theorem Digs.snoc{ds ss:List Int}{d z:Int}(h:Digs ds ss)(h0:0<=d)(h1:d<z):Digs (ds++[d]) (ss++[z]):=Paired.snoc h ⟨h0,h1⟩
theorem Digs.len{ds ss:List Int}(h:Digs ds ss):ds.length=ss.length:=Paired.length h
theorem li{H H2:Hp}{p:Addr}{o:HO}(hn:H p=none)(s:Same H H2):Same H (upd H2 p o):=λb u h=>by
 rw[fh (gF h hn)];exact s b u h
theorem zB{a m b:Int}(h0:0<m)(h1:m<=18446744073709551616):CMul (a%m) b:=.inl ⟨Int.lt_of_lt_of_le (by decide) (cW a (Int.ne_of_gt h0)),Int.lt_of_lt_of_le (dJ a h0) h1⟩
theorem VS:(10:Int)^(18:Int).toNat=1000000000000000000:=by decide +kernel
structure FnM(K:FG)(C:Addr)(m qual:Str)(st:Stmt)(ps:List Str):Prop where
 ex:∃(f:Addr) (fd:FuncData),Fun K m qual st f fd/\Binds K fd ps []/\je K C m f
structure ni(P:Program)(w:World)(K:FG)(mg:Str->Option Value)(base:Heap)(C:Addr)(m:Str)(k:Nat)(ps:List Str)(sp:Sp):Prop where
 ex:∃(f:Addr) (fd:FuncData),fR P w K mg base iQ k f fd ps sp/\Binds K fd ps []/\je K C m f
structure Cd(K:FG)(mg:Str->Option Value)(x:Str)(C:Addr):Prop where
 at_:mg x=some (.ref C)
 cl:Cls K C
 makes:PySem.W.makesIn K C=true
 kp:PySem.W.keepIn K (.ref C)=true
section
variable{P:Program}{w:World}{K:FG}{mg:Str->Option Value}{base:Heap}{m qual:Str}{st:Stmt}{ps N:List Str}{k:Nat}{sp:Sp}{C:Addr}
theorem FnM.dfs(F:FnM K C m qual st ps)(S':eC N ps (eQ st))(len:∀vs H Q E,sp vs H Q E->vs.length=ps.length)
  (hbody:∀(f:Addr) (cdv:Value) (A:Around) (outer:List Env) (s:Shared) (H:Hp) (vs:List V) (Q:VK) (E:XK),Room k (A.deeper (envOfC qual (eQ st) s.heap.objs.size f cdv))->sp vs H Q E->
   Go P w K mg base N qual st f cdv A outer s H vs Q E):ni P w K mg base C m (k+1) ps sp:=by
 obtain⟨f,fd,F1,hb,hm⟩:=F.ex;refine⟨⟨f,fd,F1.ok S' len λcdv A outer s H vs Q E hr h=>?_,hb,hm⟩⟩;obtain⟨t,h1,h2⟩:=hbody f cdv A outer s H vs Q E hr h;exact⟨t,h1.h,h2⟩
theorem gP{f:Addr}{oc:Value}{od an:Option Addr}{osl:Array (Option Value)}{kV doc pm cdv ct:Value}
  (a:PySem.W.findIn K (.ref C) m=some (some (.ref f))) (i:PySem.W.isFn K (.ref f)=true) (l:K.lookup f=some ⟨oc,od,.func (PySem.W.fnOf m qual (i9 st) (iD st) (eQ st) .none kV doc pm an cdv ct),osl⟩)
  (c:PySem.W.codeIn K cdv qual=true) (k:PySem.W.keepIn K (.ref f)=true)
  (hb:∀(kV doc pm:Value) (an:Option Addr) (cdv ct:Value) (us:List Value),us.length=ps.length->bindArgs (PySem.W.fnOf m qual (i9 st) (iD st) (eQ st) .none kV doc pm an cdv ct) ⟨us,[]⟩=pure (ps.zip us)):FnM K C m qual st ps:=by
 have F:=wW (st:=st) l c k;exact⟨⟨f,_,F,F.binds (ps:=ps) hb,⟨a,i,k⟩⟩⟩
variable{X:Cx}{x:Str}{k':Nat}{e o value:Expr}{es:List Expr}{ta tv:TE}{t:TA}{p pos apos pos':Pos}{f:Str}
theorem kS(c:Cd X.K X.mg x C)(D:ni X.prog X.w X.K X.mg X.base C "__init__" k ps sp)(hr:Room k' X.A)(ha:As X (e::es) t)(hk:k+1<=k':=by decide)(hg:Gl X x:=by rfl)(hdb:(x==("__debug__":Str))=false:=by decide)
  (he:starEach (e::es) X.env=(false,eval e X.env)::starEach es X.env:=by rfl) (hpl:(backTo pos (starEach es X.env)).any (·.1)=false:=by rfl):E X (.Call (.Name x p) (e::es) [] pos) (qz C sp [] E0 t):=by
 obtain⟨f,fd,F,hb,hm⟩:=D.ex;exact⟨Nt ⟨c.makes,hm.at_,hm.fn,c.kp⟩ F (hr.mono hk) hg c.at_ hb .nil mW ha.h hdb he hpl⟩
theorem jF{pl:Sem Bool}(c:Cls X.K C)(D:ni X.prog X.w X.K X.mg X.base C m k ps sp)(hr:Room k' X.A)(ho:E X o ta)(ha:As X (e::es) t)(hk:k<=k':=by decide)
  (hst:starEach (e::es) X.env=(false,eval e X.env)::starEach es X.env:=by rfl) (hpl:(backTo pos (starEach es X.env)).any (·.1)=false:=by rfl)
  (ht:eval (.Call (.Attribute o m apos) (e::es) [] pos) X.env=(do
   let ov ←eval o X.env
   standAt apos.atName
   let (f,first) ←holding [ov] (getMethod ov m pl)
   callWith pos f first (backTo pos (starEach (e::es) X.env)) (backToKw pos (keywordEach [] X.env))):=by rfl):E X (.Call (.Attribute o m apos) (e::es) [] pos) (qA C m sp [] E0 ta t):=by
 obtain⟨f,fd,F,hb,hm⟩:=D.ex;exact⟨W0 ho.h c hm F (hr.mono hk) hb .nil mW ha.h hst hpl ht⟩
theorem Qw(he:E X e ta)(hb:attributeBase e f X.env (eval e X.env)=eval e X.env:=by rfl):E X (.Attribute e f pos) (wn X.K ta f):=⟨RN he.h hb⟩
theorem iR(ha:E X o ta)(hv:E X value tv)(hs:swapsWith value (some (.Attribute o f pos')) pos.line X.env=pure false:=by rfl):S X (.Assign [.Attribute o f pos'] value pos) (AM X.K ta tv f):=⟨SO ha.h hv.h hs⟩
def wD(C:Addr):TE:=λ_ H Q=>∀x dx,H x=none->H dx=none->dx≠x->Q (.ref x) (upd (upd H dx (.own x)) x (.ins C dx []))
theorem vS(c:Cd X.K X.mg x C)(hi:PySem.W.findIn X.K (.ref C) "__init__"=some (some (.builtin "object.__init__")))(hg:Gl X x:=by rfl)(hdb:(x==("__debug__":Str))=false:=by decide):E X (.Call (.Name x p) [] [] pos) (wD C):=by
 refine⟨λpins s σ H Q I h=>?_⟩;refine d8 (mC I hg c.at_ ?_ hdb);refine PySem.W.callWith_K0 I.kIn c.kp (wpAny_call ?_);have hq:=h (s.heap.objs.size+1) s.heap.objs.size (I.hok.fresh (Nat.le_succ _)) (I.hok.fresh (aP _)) (aW (Nat.lt_succ_self _));have I2:=Inv.made (C:=C) I;have e2:((s.heap.push PySem.W.emptyDict).push (PySem.W.instObj C s.heap.objs.size)).get? (s.heap.objs.size+1)=some (PySem.W.instObj C s.heap.objs.size):=by
  have:=bM (s.heap.push PySem.W.emptyDict) (o:=PySem.W.instObj C s.heap.objs.size) rfl
  rwa [Heap.size_push] at this
 have Y:=PySem.W.makes_of (M:=model X.prog X.w) I.kIn c.makes;refine O4 I.kIn c.makes hi (λself=>PySem.W.Looks.of_pure (PySem.W.oi_bind self)) ?_;have t1:PySem.W.Looks (model X.prog X.w) ((s.heap.push PySem.W.emptyDict).push (PySem.W.instObj C s.heap.objs.size)) (typeOf (.ref (s.heap.objs.size+1))) (.ref C):=(PySem.W.Looks.ld e2).andThen .now;have t2:PySem.W.Looks (model X.prog X.w) ((s.heap.push PySem.W.emptyDict).push (PySem.W.instObj C s.heap.objs.size)) (isInstance (.ref (s.heap.objs.size+1)) (.type "object")) true:=t1.andThen (Y.top.keeps λb o q=>aU _ (aU _ q))
 refine codeAny_call_builtin PySem.W.oi_plain PySem.W.entry_oi (@PySem.W.check_slot (model X.prog X.w) _ _ _ "object.__init__" "object" "__init__" (.ref (s.heap.objs.size+1)) [] [] _ PySem.W.oi_kind PySem.W.oi_split t2 (PySem.W.oi_args (.ref (s.heap.objs.size+1))) ?_);rw[PySem.W.oi_run];exact d9 (And.intro rfl ⟨V.ref (s.heap.objs.size+1),_,I2,rfl,hq⟩)
end
structure Po(X:Cx)(o:Option Expr)(t:TO):Prop where
 h:PO X o t
structure ny(X:Cx)(r:V->Option Int->Option Int->Hp->VK->Prop):Prop where
 h:rd X r
section
variable{X:Cx}{e:Expr}{te:TE}{lo hi:Option Expr}{tl th:TO}{pos p2:Pos}
theorem j5:Po X none BZ:=⟨Wc⟩
theorem j9(h:E X e te):Po X (some e) (B9 te):=⟨OJ h.h⟩
theorem Tz:ny X (wx X.K):=⟨Sd⟩
theorem jT{r:V->Option Int->Option Int->Hp->VK->Prop}(hr:ny X r)(he:E X e te)(hl:Po X lo tl)(hu:Po X hi th):E X (.Subscript e (.Slice lo hi none p2) pos) (zp r te tl th):=⟨Xj hr.h he.h hl.h hu.h⟩
end
noncomputable def Gu(xs:List Int)(lo hi:Option Int):List Int:=(xs.drop (HT.sIx xs.length 0 lo)).take (HT.sIx xs.length xs.length hi-HT.sIx xs.length 0 lo)
structure sS(K:FG)(x qual:Str)(st:Stmt)(f:Addr)(fd:FuncData):Prop where
 ex:∃(oc:Value) (od:Option Addr) (dV kV doc pm:Value) (an:Option Addr) (cdv ct:Value) (osl:Array (Option Value)),
  fd=PySem.W.fnOf x qual (i9 st) (iD st) (eQ st) dV kV doc pm an cdv ct/\K.lookup f=some ⟨oc,od,.func fd,osl⟩/\PySem.W.codeIn K cdv qual=true
 kp:PySem.W.keepIn K (.ref f)=true
structure FnMD(K:FG)(C:Addr)(m qual:Str)(st:Stmt)(ps:List Str)(dvs:List V):Prop where
 ex:∃(f:Addr) (fd:FuncData) (ds:List Value),sS K m qual st f fd/\Binds K fd ps []/\Vals dvs ds/\Binds K fd ps ds/\je K C m f
structure DfMD(P:Program)(w:World)(K:FG)(mg:Str->Option Value)(base:Heap)(C:Addr)(m:Str)(k:Nat)(ps:List Str)(sp:Sp)(dvs:List V):Prop where
 ex:∃(f:Addr) (fd:FuncData) (ds:List Value),fR P w K mg base iQ k f fd ps sp/\Binds K fd ps []/\Vals dvs ds/\Binds K fd ps ds/\je K C m f
section
variable{P:Program}{w:World}{K:FG}{mg:Str->Option Value}{base:Heap}{m qual:Str}{st:Stmt}{ps N:List Str}{k:Nat}{sp:Sp}{C:Addr}{dvs:List V}
theorem DfMD.dfm(D:DfMD P w K mg base C m k ps sp dvs):ni P w K mg base C m k ps sp:=by
 obtain⟨f,fd,ds,a,b,_,_,e⟩:=D.ex;exact⟨⟨f,fd,a,b,e⟩⟩
theorem FnMD.dfs(F:FnMD K C m qual st ps dvs)(S':eC N ps (eQ st))(len:∀vs H Q E,sp vs H Q E->vs.length=ps.length)
  (hbody:∀(f:Addr) (cdv:Value) (A:Around) (outer:List Env) (s:Shared) (H:Hp) (vs:List V) (Q:VK) (E:XK),Room k (A.deeper (envOfC qual (eQ st) s.heap.objs.size f cdv))->sp vs H Q E->
   Go P w K mg base N qual st f cdv A outer s H vs Q E):DfMD P w K mg base C m (k+1) ps sp dvs:=by
 obtain⟨f,fd,ds,F1,hb,hv,hbd,hm⟩:=F.ex;refine⟨⟨f,fd,ds,?_,hb,hv,hbd,hm⟩⟩;obtain⟨oc,od,dV,kV,doc,pm,an,cdv,ct,osl,rfl,lk,hcd⟩:=F1.ex;refine CA lk hcd S' len λA outer s H vs Q E hr hsp=>?_;obtain⟨t,h,q⟩:=hbody f cdv A outer s H vs Q E hr hsp;exact⟨t,h.h.nox,q⟩
theorem Do{f:Addr}{oc:Value}{od an:Option Addr}{osl:Array (Option Value)}{dV kV doc pm cdv ct:Value}{ds:List Value}
  (a:PySem.W.findIn K (.ref C) m=some (some (.ref f))) (i:PySem.W.isFn K (.ref f)=true) (l:K.lookup f=some ⟨oc,od,.func (PySem.W.fnOf m qual (i9 st) (iD st) (eQ st) dV kV doc pm an cdv ct),osl⟩)
  (c:PySem.W.codeIn K cdv qual=true) (k:PySem.W.keepIn K (.ref f)=true)
  (hb:Binds K (PySem.W.fnOf m qual (i9 st) (iD st) (eQ st) dV kV doc pm an cdv ct) ps []) (hv:Vals dvs ds) (hd:Binds K (PySem.W.fnOf m qual (i9 st) (iD st) (eQ st) dV kV doc pm an cdv ct) ps ds):FnMD K C m qual st ps dvs:=
 ⟨⟨f,_,ds,⟨⟨oc,od,dV,kV,doc,pm,an,cdv,ct,osl,rfl,l,c⟩,k⟩,hb,hv,hd,⟨a,i,k⟩⟩⟩
variable{X:Cx}{x:Str}{k':Nat}{p pos:Pos}
theorem rE(c:Cd X.K X.mg x C)(D:DfMD X.prog X.w X.K X.mg X.base C "__init__" k ps sp dvs)(hr:Room k' X.A)(hk:k+1<=k':=by decide)(hg:Gl X x:=by rfl)(hdb:(x==("__debug__":Str))=false:=by decide):
  E X (.Call (.Name x p) [] [] pos) (qz C sp dvs E0 il):=by
 obtain⟨f,fd,ds,F,_,hv,hb,hm⟩:=D.ex;exact⟨NK ⟨c.makes,hm.at_,hm.fn,c.kp⟩ F (hr.mono hk) hg c.at_ hb hv mW hdb⟩
end
theorem vh{H:Hp}{xo dx:Addr}{a b:HO}(nx:H xo=none)(ndx:H dx=none):Same H (upd (upd H dx a) xo b):=λz u hb=>by
 rw[fh (gF hb nx),fh (gF hb ndx)];exact hb
theorem mj{H:Hp}{xo dx:Addr}{a b c:HO}(nx:H xo=none)(ndx:H dx=none):Same H (upd (upd (upd H dx a) xo b) xo c):=λz u hb=>by
 rw[fh (gF hb nx)];exact vh nx ndx z u hb
theorem Re{H:Hp}{xo dx:Addr}{a b c d:HO}(nx:H xo=none)(ndx:H dx=none):Same H (upd (upd (upd (upd H dx a) xo b) xo c) xo d):=λz u hb=>by
 rw[fh (gF hb nx)];exact mj nx ndx z u hb
end L2
namespace L2
open PySem PyProof.Rows
noncomputable def xM(p:Nat->Bool):Nat->Nat
 |0=>0
 |n+1=>xM p n+(if p n=true then 2^n else 0)
@[irreducible] noncomputable def kb(p:Nat->Bool)(n:Nat):Nat:=xM p n
theorem tK(p:Nat->Bool):kb p 0=0:=by rw[kb];rfl
theorem wG(p:Nat->Bool)(n:Nat):kb p (n+1)=kb p n+(if p n=true then 2^n else 0):=by rw[kb,kb];rfl
theorem tV(p:Nat->Bool):∀n,kb p n<2^n
 |0=>by rw[tK];decide
 |n+1=>by
  have h:=tV p n;rw[wG,Nat.pow_succ];split<;>omega
theorem FQ(p:Nat->Bool):∀n i,(kb p n).testBit i=(decide (i<n)&&p i)
 |0,i=>by rw[tK];simp
 |n+1,i=>by
  have h:=tV p n;have ih:=FQ p n i;rw[wG];by_cases hp:p n=true
  ·rw[if_pos hp,Nat.add_comm];rcases cX i n with hi | hi | hi
   ·rw[Nat.testBit_two_pow_add_gt hi,ih];simp[hi,cJ hi]
   ·subst hi;rw[Nat.testBit_two_pow_add_eq,ih];simp[hp]
   ·have h2:2^n+kb p n<2^i:=bC (by rw[Nat.pow_succ];omega) (Nat.pow_le_pow_right (by decide) hi);rw[Nat.testBit_lt_two_pow h2];have:¬i<n+1:=⋯;simp[this]
  ·rw[if_neg hp,Nat.add_zero,ih];by_cases e:i=n
   ·subst e;simp[hp]
   ·have:(i<n+1)↔(i<n):=⋯;simp[this]
noncomputable def tb(m:Int)(i:Nat):Bool:=m.toNat.testBit i
theorem jj(k:Nat):((2^k:Nat):Int)=(2:Int)^k:=by rw[Int.natCast_pow];rfl
theorem gT(k:Nat):(0:Int)<2^k:=by rw[←jj];exact Int.natCast_pos.mpr (Nat.two_pow_pos k)
theorem y8{m:Int}(h:0<=m)(k:Nat):m / 2^k=((m.toNat >>> k:Nat):Int):=by
 obtain⟨n,rfl⟩:=aZ h;rw[bS,Nat.shiftRight_eq_div_pow,←jj,Int.natCast_ediv]
theorem Ek(a b:Nat):Builtin.bitAnd (a:Int) (b:Int)=((a&&& b:Nat):Int):=bitAnd_pp (cR a) (cR b)
theorem qf(a b:Nat):Builtin.bitOr (a:Int) (b:Int)=((a||| b:Nat):Int):=by
 rw[bitOr_and,Ek];have:=nat_or_add_and a b;omega
theorem nE{m:Int}(h:0<=m)(k:Nat):(Builtin.bitAnd (m / 2^k) 1=1)↔tb m k=true:=by
 rw[y8 h,show (1:Int)=((1:Nat):Int) from rfl,Ek];unfold tb;rw[Nat.testBit_eq_decide_div_mod_eq,Nat.shiftRight_eq_div_pow];have:m.toNat / 2^k&&& 1=m.toNat / 2^k%2:=Nat.and_two_pow_sub_one_eq_mod _ 1;rw[this];simp only[d6];omega
theorem oE{a b:Int}(ha:0<=a)(hb:0<=b):0<=Builtin.bitAnd a b:=by rw[bitAnd_pp ha hb];exact cR _
theorem lI{a b:Int}(ha:0<=a)(hb:0<=b):0<=Builtin.bitOr a b:=by
 obtain⟨x,rfl⟩:=aZ ha;obtain⟨y,rfl⟩:=aZ hb;rw[qf];exact cR _
theorem ly{a b:Int}(ha:0<=a)(hb:0<=b)(i:Nat):tb (Builtin.bitAnd a b) i=(tb a i&&tb b i):=by
 unfold tb;rw[bitAnd_pp ha hb,bS,Nat.testBit_and]
theorem nO{a b:Int}(ha:0<=a)(hb:0<=b)(i:Nat):tb (Builtin.bitOr a b) i=(tb a i||tb b i):=by
 obtain⟨x,rfl⟩:=aZ ha;obtain⟨y,rfl⟩:=aZ hb;unfold tb;rw[qf,bS,Nat.testBit_or,bS,bS]
theorem kX(k i:Nat):tb (2^k) i=decide (k=i):=by
 unfold tb;rw[←jj,bS,Nat.testBit_two_pow]
theorem jb(i:Nat):tb 0 i=false:=by unfold tb;simp
theorem jy{a b:Int}(ha:0<=a)(hb:0<=b)(h:∀i,tb a i=tb b i):a=b:=by
 have:a.toNat=b.toNat:=Nat.eq_of_testBit_eq h;omega
theorem qh{m:Int}(h:0<=m)(k i:Nat):tb (m*2^k) i=(decide (k<=i)&&tb m (i-k)):=by
 obtain⟨x,rfl⟩:=aZ h;unfold tb;rw[←jj,←Int.natCast_mul,bS,bS,←Nat.shiftLeft_eq,Nat.testBit_shiftLeft]
theorem O3{m:Int}(h:0<=m)(k i:Nat):tb (m / 2^k) i=tb m (k+i):=by
 rw[y8 h];unfold tb;rw[bS,Nat.testBit_shiftRight]
theorem pI{m:Int}{n i:Nat}(h:m<2^n)(hi:n<=i):tb m i=false:=by
 unfold tb;refine Nat.testBit_lt_two_pow (bC ?_ (Nat.pow_le_pow_right (by decide) hi));by_cases h0:0<=m
 ·have:=jj n;omega
 ·have:m.toNat=0:=⋯;rw[this];exact Nat.two_pow_pos n
@[irreducible] noncomputable def kq(p:Nat->Bool)(n:Nat):Int:=(kb p n:Nat)
theorem nY(p:Nat->Bool)(n:Nat):kq p n=(kb p n:Nat):=by rw[kq]
theorem yG(p:Nat->Bool)(n:Nat):0<=kq p n:=by rw[nY];exact cR _
theorem OI(p:Nat->Bool):kq p 0=0:=by rw[nY,tK];rfl
theorem DC(p:Nat->Bool)(n i:Nat):tb (kq p n) i=(decide (i<n)&&p i):=by
 unfold tb;rw[nY,bS,FQ]
theorem Cp(p:Nat->Bool)(n:Nat):kq p (n+1)=kq p n+(if p n=true then 2^n else 0):=by
 rw[nY,nY,wG,Int.natCast_add];split
 ·rw[jj]
 ·rfl
theorem XF(p:Nat->Bool)(n:Nat):kq p n<2^n:=by
 have:=tV p n;have e:=jj n;rw[nY];omega
theorem qX(n i:Nat):tb (2^n-1) i=decide (i<n):=by
 have h:=jj n;have:((2:Int)^n-1).toNat=2^n-1:=by
  have:=Nat.two_pow_pos n;omega
 unfold tb;rw[this,Nat.testBit_two_pow_sub_one]
noncomputable def Fo(p:Nat->Bool)(lo:Int):Nat->List Int
 |0=>[]
 |n+1=>Fo p lo n++(if p n=true then [lo+(n:Int)] else [])
@[irreducible] noncomputable def flt(p:Nat->Bool)(lo:Int)(n:Nat):List Int:=Fo p lo n
theorem qD(p:Nat->Bool)(lo:Int):flt p lo 0=[]:=by rw[flt];rfl
theorem Sa{p:Nat->Bool}{lo:Int}{α:Type}{f:Int->α}:[]=(flt p lo 0).map f:=by rw[qD];rfl
theorem FN(p:Nat->Bool)(lo:Int)(n:Nat):flt p lo (n+1)=flt p lo n++(if p n=true then [lo+(n:Int)] else []):=by rw[flt,flt];rfl
theorem q0{p:Nat->Bool}{lo:Int}{n:Nat}(h:p n=true):flt p lo (n+1)=flt p lo n++[lo+(n:Int)]:=by
 rw[FN,if_pos h]
theorem oQ{p:Nat->Bool}{lo:Int}{n:Nat}(h:p n=false):flt p lo (n+1)=flt p lo n:=by
 rw[FN,h,if_neg bA,b8]
theorem flt_mem{p:Nat->Bool}{lo z:Int}:∀{n:Nat},z∈flt p lo n↔∃i,i<n/\p i=true/\z=lo+(i:Int)
 |0=>by rw[qD];exact⟨λh=>(nomatch h),λ⟨i,h,_⟩=>absurd h (Nat.not_lt_zero i)⟩
 |n+1=>by
  by_cases c:p n=true
  ·rw[q0 c,bY,flt_mem,aX];refine⟨λh=>?_,λ⟨i,h1,h2,h3⟩=>?_⟩
   ·rcases h with ⟨i,h1,h2,h3⟩ | h
    ·exact⟨i,⋯,h2,h3⟩
    ·exact⟨n,⋯,c,h⟩
   ·by_cases e:i=n
    ·subst e;exact .inr h3
    ·exact .inl ⟨i,⋯,h2,h3⟩
  ·rw[oQ (by simpa using c),flt_mem];refine⟨λ⟨i,h1,h2,h3⟩=>⟨i,⋯,h2,h3⟩,λ⟨i,h1,h2,h3⟩=>⟨i,?_,h2,h3⟩⟩;have:i≠n:=λe=>c (e▸h2);omega
theorem QG{p:Nat->Bool}{lo:Int}{n k:Nat}(h:∀i,n<=i->p i=false)(hk:n<=k):flt p lo k=flt p lo n:=by
 obtain⟨d,rfl⟩:=Nat.exists_eq_add_of_le hk;clear hk;induction d with
 |zero=>rfl
 |succ d ih=>rw[show n+(d+1)=(n+d)+1 from rfl,oQ (h _ ⋯),ih]
noncomputable def fE(zs:List Int):Int:=zs.foldl (λa z=>Builtin.bitOr a (1*2^z.toNat)) 0
theorem Dk(zs:List Int)(z:Int):fE (zs++[z])=Builtin.bitOr (fE zs) (1*2^z.toNat):=by unfold fE;rw[List.foldl_append];rfl
theorem vc:∀(zs:List Int) (a:Int),0<=a->0<=zs.foldl (λa z=>Builtin.bitOr a (1*2^z.toNat)) a/\∀i,tb (zs.foldl (λa z=>Builtin.bitOr a (1*2^z.toNat)) a) i=(tb a i||zs.any λz=>decide (z.toNat=i))
 |[],a,h=>⟨h,λi=>by simp⟩
 |z::zs,a,h=>by
  have e:(1*2^z.toNat:Int)=2^z.toNat:=⋯;have p:=bZ (gT z.toNat);obtain⟨h1,h2⟩:=vc zs (Builtin.bitOr a (1*2^z.toNat)) (by rw[e];exact lI h p);refine⟨h1,λi=>?_⟩;show tb (zs.foldl _ (Builtin.bitOr a (1*2^z.toNat))) i=_;rw[h2 i,e,nO h p,kX,bT,Bool.or_assoc]
theorem jg(zs:List Int):0<=fE zs:=(vc zs 0 (aV 0)).1
theorem ng(zs:List Int)(i:Nat):tb (fE zs) i=zs.any λz=>decide (z.toNat=i):=by
 have h:=(vc zs 0 (aV 0)).2 i;rw[jb,Bool.false_or] at h;exact h
theorem Pa{m:Int}(h:0<=m):m<2^Builtin.Int.intBits m:=by
 unfold Builtin.Int.intBits;split
 ·rename_i c;have:m=0:=by simpa using c
  rw[this];decide
 ·have:=Nat.lt_log2_self (n:=m.natAbs);have e:=jj (m.natAbs.log2+1);omega
theorem pU{m:Int}{n:Nat}(h:0<=m)(hn:m<2^n):Builtin.Int.intBits m<=n:=by
 unfold Builtin.Int.intBits;split
 ·exact bD _
 ·rename_i c;have h0:m≠0:=by simpa using c
  have e:=jj n;have:m.natAbs.log2<n:=(Nat.log2_lt ⋯).mpr ⋯;omega
noncomputable def j7(m:Int):List Int:=flt (tb m) 0 (Builtin.Int.intBits m)
theorem nS{m:Int}{n:Nat}(h:0<=m)(hn:m<2^n):j7 m=flt (tb m) 0 n:=
 (QG (λi hi=>pI (Pa h) hi) (pU h hn)).symm
theorem P4{m:Int}(h:0<=m)(k:Nat):decide (Builtin.bitAnd (m / 2^k) 1=1)=tb m k:=by
 by_cases c:tb m k=true
 ·rw[c];exact dZ ((nE h _).mpr c)
 ·have c':tb m k=false:=by simpa using c
  rw[c'];exact d7 λq=>c ((nE h _).mp q)
end L2
namespace L2
open PySem PyProof.Rows
theorem wA(p:Nat->Bool)(lo:Int):∀n,(flt p lo n).Pairwise (·<·)
 |0=>by rw[qD];exact .nil
 |n+1=>by
  by_cases c:p n=true
  ·rw[q0 c,cL];refine⟨wA p lo n,List.pairwise_singleton _ _,λa ha b hb=>?_⟩;obtain⟨i,h1,_,rfl⟩:=flt_mem.mp ha;have:b=lo+(n:Int):=by simpa using hb
   omega
  ·rw[oQ (by simpa using c)];exact wA p lo n
theorem Nx{a b:Int}{n:Nat}(ha:0<=a)(hb:0<=b)(h1:a<2^n)(h2:b<2^n):Builtin.bitOr a b<2^n:=by
 obtain⟨x,rfl⟩:=aZ ha;obtain⟨y,rfl⟩:=aZ hb;have e:=jj n;have:x||| y<2^n:=Nat.or_lt_two_pow ⋯ ⋯
 rw[qf];omega
section
variable{X:Cx}{tg:Expr}
theorem F2{a b c:Int}(hc:0<c):0<=Builtin.Range.rangeSize a b c:=by
 unfold Builtin.Range.rangeSize;rw[if_pos hc];split
 ·have:0<=(b-a-1) / c:=Int.ediv_nonneg ⋯ ⋯;omega
 ·exact aV 0
end
noncomputable def kN(a:Addr)(lo hi st:Int):HO:=.ext λh=>∃t u v,h.get? a=some {cls:=.type "range",data:=.fields #[.int lo t,.int hi u,.int st v]}
section
variable{X:Cx}
theorem Bz{pins:List (Addr×Obj)}{σ:St}{H:Hp}{s:Shared}{Q:VK}{lo hi st:Int}{t u v:Tok}{tk:Nat}(I:Inv X pins σ H s)(q:∀p,H p=none->Q (.ref p) (upd H p (kN p lo hi st))):
  EP X pins σ Q (.ref s.heap.objs.size) {s with heap:=s.heap.push {cls:=.type "range",data:=.fields #[.int lo t,.int hi u,.int st v]},toks:=tk}:=by
 refine⟨.ref s.heap.objs.size,upd H s.heap.objs.size (kN s.heap.objs.size lo hi st),I.laid (t':=tk) (λb u e=>aU _ e) (aP _) ?_,rfl,q _ (I.hok.fresh (aP _))⟩;have e:=bM s.heap (o:={cls:=.type "range",data:=.fields #[.int lo t,.int hi u,.int st v]}) rfl;exact⟨⟨t,u,v,e⟩,⟨_,e⟩,λh1 h2 ⟨t,u,v,z⟩ k=>⟨t,u,v,k _ z⟩⟩
theorem vm:gZ X (.type "range") (λxs H Q=>∃i j,xs=[.int i,.int j]/\∀p,H p=none->Q (.ref p) (upd H p (kN p i j 1))):=by
 refine⟨λpins s σ H xs us Q I r h=>?_⟩;obtain⟨i,j,rfl,q⟩:=h;obtain⟨u,u',rfl,⟨t,rfl⟩,⟨t',rfl⟩⟩:=mO r;exact call_range_2 (Bz I q)
theorem uY:gZ X (.type "range") (λxs H Q=>∃i j c,xs=[.int i,.int j,.int c]/\(0<c/\c<1073741824)/\∀p,H p=none->Q (.ref p) (upd H p (kN p i j c))):=by
 refine⟨λpins s σ H xs us Q I r h=>?_⟩;obtain⟨i,j,c,rfl,⟨c0,c1⟩,q⟩:=h;cases r with
 |cons r rr=>
  cases rr with
  |cons r' rr=>
   cases rr with
   |cons r'' rr=>
    cases rr;obtain⟨t,rfl⟩:=r;obtain⟨t',rfl⟩:=r';obtain⟨t'',rfl⟩:=r'';exact call_range_3 (Int.ne_of_gt c0) (Bz I q) (.inl (PyProof.noPylong_small ⋯))
theorem Wl{lo st:Int}:∀{n:Nat} {acc:Array Value},ItemsOf (λi v=>∃t,v=.int (lo+i*st) t) acc n->Vals ((List.range n).map λi:Nat=>V.int (lo+i*st)) acc.toList:=by
 intro n acc h;obtain⟨hz,hi⟩:=h;have key:∀(m:Nat),m<=n->Vals ((List.range m).map λi:Nat=>V.int (lo+i*st)) (acc.toList.take m):=by
  intro m;induction m with
  |zero=>intro _;exact .nil
  |succ m ih=>
   intro hm;have hlt:m<acc.toList.length:=by rw[cQ];omega
   obtain⟨t,e⟩:=hi m acc.toList[m] (by rw[←dH];exact bH hlt);rw[cY,bE,b7,bH hlt];exact (ih ⋯).append (.cons ⟨t,e⟩ .nil)
 have:=key n (aP _)
 rwa [dI (by rw[cQ];omega)] at this
theorem CU(hc:X.calm=true:=by rfl):gZ X (.type "list") (λxs H Q=>∃(p:Addr) (lo hi st:Int) (n:Nat),xs=[.ref p]/\H p=some (kN p lo hi st)/\Builtin.Range.small lo hi st=true/\Builtin.Range.rangeSize lo hi st=(n:Int)/\n<=100000/\
  ∀l,H l=none->Q (.ref l) (upd H l (.lst ((List.range n).map λi:Nat=>V.int (lo+i*st))))):=by
 refine⟨λpins s σ H xs us Q I r h=>?_⟩;obtain⟨p,lo,hi,st,n,rfl,hp,hs,hn,hl,q⟩:=h;obtain⟨u,rfl,rx⟩:=iH r;cases rx;obtain⟨⟨t,u,v,e⟩,_,_⟩:=I.hok p _ hp;refine call_list_range (I.ok.hd hc) e hs hn (bK hl (by decide)) λh' tk acc c' kp hS hI=>?_;have hz:((List.range n).map λi:Nat=>V.int (lo+i*st)).length<=sizeLine:=by
  rw[aQ,cA,dW];omega
 exact⟨.ref s.heap.objs.size,_,I.laid (t':=tk) kp (aP _) (show ObjOk X.prog X.w _ h' _ (.lst _) from ⟨hz,acc.toList,c',Wl hI,by simpa using hS⟩),rfl,q _ (I.hok.fresh (aP _))⟩
def D0:V->List V->Hp->VK->Prop:=λx vs H Q=>∃i,x=.int i/\vs=[]/\Q (.int (Builtin.Int.intBits i:Nat)) H
theorem NF:mY X "int.bit_length" D0:=by
 intro pins s σ H x xs v us Q I rx rv h;obtain⟨i,rfl,rfl,q⟩:=h;cases rv;obtain⟨t,rfl⟩:=rx;exact call_int_bit_length ⟨.int _,H,I.tok _,⟨()⟩,q⟩
theorem Dt{o:Expr}{to:TE}{apos cpos:Pos}(ho:E X o to)(hbase:attributeBase o "bit_length" X.env (eval o X.env)=eval o X.env:=by rfl)(hline:(apos.endLine==cpos.line)=true:=by rfl):
  E X (.Call (.Attribute o "bit_length" apos) [] [] cpos) (I9 X.K "int" D0 to):=⟨Q0 PySem.F.plainAttrs_int PySem.F.slot_int_bit_length PySem.F.type_int_bit_length NF ho.h hbase hline⟩
theorem sm:gZ X (.type "tuple") (λxs H Q=>∃p ys,xs=[.ref p]/\((SqL X.K H p ys/\∀l,H l=none->Q (.ref l) (upd H l (.tup ys)))∨(SqT X.K H p ys/\Q (.ref p) H))):=⟨T6⟩
theorem jh:gu X (compareOp .Is) (λx y H Q=>y=.non/\Q (.bl (decide (x=.non))) H):=⟨M3⟩
theorem Mu:gu X (compareOp .IsNot) (λx y H Q=>y=.non/\Q (.bl (!decide (x=.non))) H):=⟨QC⟩
theorem OE:gu X (compareOp .In) (wo X.K false):=⟨O6⟩
end
theorem Same.none{H H':Hp}{D:Addr}(s:Same H H')(h:H' D=none):H D=none:=by
 cases e:H D with
 |none=>rfl
 |some o=>exact absurd (h.symm.trans (s _ _ e)) (by simp)
def Keep(H H':Hp):Prop:=∀b o,(∀xs,o≠ .lst xs)->H b=some o->H' b=some o
theorem Same.keep{H H':Hp}(s:Same H H'):Keep H H':=λb o _ h=>s b o h
theorem Keep.trans{H H1 H2:Hp}(a:Keep H H1)(b:Keep H1 H2):Keep H H2:=λc o n h=>b c o n (a c o n h)
theorem tq{H:Hp}{D:Addr}{l l':List V}(h:H D=some (.lst l)):Keep H (upd H D (.lst l')):=λb o n hb=>by
 by_cases e:b=D
 ·subst e;rw[h] at hb;cases hb;exact absurd rfl (n l)
 ·rw[fh e];exact hb
theorem Keep.tup{H H':Hp}(k:Keep H H'){b:Addr}{xs:List V}(h:H b=some (.tup xs)):H' b=some (.tup xs):=k b _ (λ_ z=>nomatch z) h
theorem Keep.ins{H H':Hp}(k:Keep H H'){b C dx:Addr}{fs:List (Str×V)}(h:H b=some (.ins C dx fs)):H' b=some (.ins C dx fs):=k b _ (λ_ z=>nomatch z) h
section
variable{X:Cx}{K:FG}
theorem fk(hK:X.K=K:=by rfl):nW X (tR K):=hK▸xL
theorem fJ(hK:X.K=K:=by rfl):nW X (rS K):=hK▸xT
theorem Dl(hK:X.K=K:=by rfl):gu X (compareOp .In) (wo K false):=hK▸OE
theorem jD(hK:X.K=K:=by rfl):gZ X (.builtin "len") (λxs H Q=>∃p ys,xs=[.ref p]/\(SqL K H p ys∨SqT K H p ys)/\Q (.int ys.length) H):=hK▸vI
theorem nI(hK:X.K=K:=by rfl):ny X (wx K):=hK▸Tz
end
inductive Kd where
 |int | bool | str | non | list | tuple | dict
noncomputable def Kd.nm:Kd->String
 |.int=>"int" | .bool=>"bool" | .str=>"str" | .non=>"NoneType" | .list=>"list" | .tuple=>"tuple" | .dict=>"dict"
noncomputable def Kd.isa:Kd->Kd->Bool
 |.int,.int=>true | .bool,.int=>true | .bool,.bool=>true | .str,.str=>true | .list,.list=>true | .tuple,.tuple=>true | .dict,.dict=>true | _,_=>false
def KindV(K:FG)(H:Hp):V->Kd->Prop
 |.int _,k=>k=.int
 |.bl _,k=>k=.bool
 |.str _,k=>k=.str
 |.non,k=>k=.non
 |.ref a,k=>(k=.list/\∃xs,SqL K H a xs)∨(k=.tuple/\∃xs,SqT K H a xs)∨(k=.dict/\∃kvs,H a=some (.dK kvs))
 |_,_=>False
theorem mJ{X:Cx}:gZ X (.builtin "isinstance") (λxs H Q=>∃(v:V) (n k:Kd),xs=[v,.ty n.nm]/\n.nm≠"NoneType"/\KindV X.K H v k/\Q (.bl (Kd.isa k n)) H):=by
 refine⟨λpins s σ H xs us Q I r h=>?_⟩;obtain⟨v,n,k,rfl,hn,hk,q⟩:=h;obtain⟨u,w',rfl,r1,r2⟩:=mO r;cases r2;have fB:∀tk,EP X pins σ Q (.bool (Kd.isa k n)) {s with toks:=tk}:=λtk=>⟨.bl _,H,I.tok _,rfl,q⟩;have fin0:EP X pins σ Q (.bool (Kd.isa k n)) s:=⟨.bl _,H,I,rfl,q⟩;cases v with
 |int i=>
  obtain⟨t,rfl⟩:=r1;cases (show k=Kd.int from hk);cases n with
  |int=>exact PySem.IsiPair.int_int fin0
  |bool=>exact PySem.IsiPair.int_bool (fB _)
  |str=>exact PySem.IsiPair.int_str (fB _)
  |list=>exact PySem.IsiPair.int_list (fB _)
  |tuple=>exact PySem.IsiPair.int_tuple (fB _)
  |dict=>exact PySem.IsiPair.int_dict (fB _)
  |non=>exact absurd rfl hn
 |bl b=>
  cases r1;cases (show k=Kd.bool from hk);cases n with
  |int=>exact PySem.IsiPair.bool_int fin0
  |bool=>exact PySem.IsiPair.bool_bool fin0
  |str=>exact PySem.IsiPair.bool_str (fB _)
  |list=>exact PySem.IsiPair.bool_list (fB _)
  |tuple=>exact PySem.IsiPair.bool_tuple (fB _)
  |dict=>exact PySem.IsiPair.bool_dict (fB _)
  |non=>exact absurd rfl hn
 |str x=>
  obtain⟨t,rfl⟩:=r1;cases (show k=Kd.str from hk);cases n with
  |int=>exact PySem.IsiPair.str_int (fB _)
  |bool=>exact PySem.IsiPair.str_bool (fB _)
  |str=>exact PySem.IsiPair.str_str fin0
  |list=>exact PySem.IsiPair.str_list (fB _)
  |tuple=>exact PySem.IsiPair.str_tuple (fB _)
  |dict=>exact PySem.IsiPair.str_dict (fB _)
  |non=>exact absurd rfl hn
 |non=>
  cases r1;cases (show k=Kd.non from hk);cases n with
  |int=>exact PySem.IsiPair.NoneType_int (fB _)
  |bool=>exact PySem.IsiPair.NoneType_bool (fB _)
  |str=>exact PySem.IsiPair.NoneType_str (fB _)
  |list=>exact PySem.IsiPair.NoneType_list (fB _)
  |tuple=>exact PySem.IsiPair.NoneType_tuple (fB _)
  |dict=>exact PySem.IsiPair.NoneType_dict (fB _)
  |non=>exact absurd rfl hn
 |ref a=>
  cases r1;rcases hk with ⟨rfl,ys,hq⟩ | ⟨rfl,ys,hq⟩ | ⟨rfl,kvs,hq⟩
  ·obtain⟨its,rv,pl,_⟩:=I.list hq;obtain⟨o,ho,hc,_⟩:=pl.isList;cases n with
   |int=>exact PySem.IsiPair.list_int ho hc (fB _)
   |bool=>exact PySem.IsiPair.list_bool ho hc (fB _)
   |str=>exact PySem.IsiPair.list_str ho hc (fB _)
   |list=>exact PySem.IsiPair.list_list ho hc fin0
   |tuple=>exact PySem.IsiPair.list_tuple ho hc (fB _)
   |dict=>exact PySem.IsiPair.list_dict ho hc (fB _)
   |non=>exact absurd rfl hn
  ·obtain⟨its,rv,⟨o,ho,hc,_⟩,_⟩:=I.tuple hq;cases n with
   |int=>exact PySem.IsiPair.tuple_int ho hc (fB _)
   |bool=>exact PySem.IsiPair.tuple_bool ho hc (fB _)
   |str=>exact PySem.IsiPair.tuple_str ho hc (fB _)
   |list=>exact PySem.IsiPair.tuple_list ho hc (fB _)
   |tuple=>exact PySem.IsiPair.tuple_tuple ho hc fin0
   |dict=>exact PySem.IsiPair.tuple_dict ho hc (fB _)
   |non=>exact absurd rfl hn
  ·obtain⟨_,_,_,_,o,_,_,ho,ex,_⟩:=I.hok a _ hq;cases n with
   |int=>exact PySem.IsiPair.dict_int ho ex.1 (fB _)
   |bool=>exact PySem.IsiPair.dict_bool ho ex.1 (fB _)
   |str=>exact PySem.IsiPair.dict_str ho ex.1 (fB _)
   |list=>exact PySem.IsiPair.dict_list ho ex.1 (fB _)
   |tuple=>exact PySem.IsiPair.dict_tuple ho ex.1 (fB _)
   |dict=>exact PySem.IsiPair.dict_dict ho ex.1 fin0
   |non=>exact absurd rfl hn
 |byt b=>exact False.elim hk
 |flt b=>exact False.elim hk
 |ty n=>exact False.elim hk
end L2
namespace L2
open PySem PySem.Spec PyProof.Rows PySem.Builtin PySem.Builtin.Str
noncomputable abbrev Tx(l:List Nat):Str:=⟨l.toArray⟩
theorem Tx_inj{a b:List Nat}:Tx a=Tx b↔a=b:=⟨λh=>by
 have:(Tx a).cps.toList=(Tx b).cps.toList:=by rw[h]
 simpa using this,λh=>by rw[h]⟩
theorem Eu(x:Str):Tx x.cps.toList=x:=by cases x;simp
theorem iy(a:List Nat):(Tx a).length=a.length:=by simp[Str.length]
noncomputable def pT(x:Str):It:=⟨λi _=>i<x.cps.size,λi H v H'=>H'=H/\∃c,x.cps[i]? =some c/\v=.str ⟨#[c]⟩,λi _=>i=x.cps.size⟩
theorem Ny{P:Program}{w:World}{K:FG}{tg:Expr}(x:Str)(t:Tok)(it:Addr):ij P w K tg (pT x) [it] it (λi h=>h.IsStrIter it "str_ascii_iterator" x t i) where
 mem:=by simp
 obj:=λi h st b hb=>by
  have e:b=it:=by simpa using hb
  subst e;obtain⟨o,e,c,d⟩:=st;exact⟨o,e,λv z=>by rw[d] at z;cases z⟩
 keep:=λi h h' st k=>by
  obtain⟨o,e,r⟩:=st;exact⟨o,k it (by simp) o e,r⟩
 item:=by
  intro X hP hw hK hc i pins s σ H E I hf st hg;subst hP hw hK;obtain⟨f0,f1,f2,f3,f4,f5⟩:=hf it (by simp);have hg:i<x.cps.size:=hg;refine wpAny_pyNext_ascii_item st (c:=x.cps[i]) (by simp[hg]) λh' st' sb=>?_;have I1:Inv X pins σ H {s with heap:=h',toks:=s.toks+1}:=I.turned (λb o hb e=>sb.extBut b o hb e) f0 f1 f3 f4 f5;obtain⟨o,e,c,d⟩:=id st';exact⟨(),oz (s:={s with heap:=h',toks:=s.toks+1}) e c d (by decide) ⟨.str ⟨#[x.cps[i]]⟩,H,I1,⟨()⟩,⟨rfl,x.cps[i],by simp[hg],rfl⟩,st',λb hb=>(hf b hb).1⟩⟩
 done:=by
  intro X hP hw hK hc i pins s σ H E I hf st hg;subst hP hw hK;obtain⟨f0,f1,f2,f3,f4,f5⟩:=hf it (by simp);have hg:i=x.cps.size:=hg;exact wpAny_pyNext_ascii_end (I.ok.hd hc) st (by simp[hg]) λh' eb=>⟨rfl,I.turned (t':=s.toks) (λb o hb e=>eb b o hb e) f0 f1 f3 f4 f5⟩
 self:=λ_ _ _ _ _ st h=>wpAny_pyIter_striter_ascii st h
theorem M0{P:Program}{w:World}{K:FG}{tg:Expr}(x:Str)(t:Tok)(it:Addr):ij P w K tg (pT x) [it] it (λi h=>h.IsStrIter it "str_iterator" x t i) where
 mem:=by simp
 obj:=λi h st b hb=>by
  have e:b=it:=by simpa using hb
  subst e;obtain⟨o,e,c,d⟩:=st;exact⟨o,e,λv z=>by rw[d] at z;cases z⟩
 keep:=λi h h' st k=>by
  obtain⟨o,e,r⟩:=st;exact⟨o,k it (by simp) o e,r⟩
 item:=by
  intro X hP hw hK hc i pins s σ H E I hf st hg;subst hP hw hK;obtain⟨f0,f1,f2,f3,f4,f5⟩:=hf it (by simp);have hg:i<x.cps.size:=hg;refine wpAny_pyNext_wide_item st (c:=x.cps[i]) (by simp[hg]) λh' st' sb=>?_;have I1:Inv X pins σ H {s with heap:=h',toks:=s.toks+1}:=I.turned (λb o hb e=>sb.extBut b o hb e) f0 f1 f3 f4 f5;obtain⟨o,e,c,d⟩:=id st';exact⟨(),oz (s:={s with heap:=h',toks:=s.toks+1}) e c d (by decide) ⟨.str ⟨#[x.cps[i]]⟩,H,I1,⟨()⟩,⟨rfl,x.cps[i],by simp[hg],rfl⟩,st',λb hb=>(hf b hb).1⟩⟩
 done:=by
  intro X hP hw hK hc i pins s σ H E I hf st hg;subst hP hw hK;obtain⟨f0,f1,f2,f3,f4,f5⟩:=hf it (by simp);have hg:i=x.cps.size:=hg;exact wpAny_pyNext_wide_end (I.ok.hd hc) st (by simp[hg]) λh' eb=>⟨rfl,I.turned (t':=s.toks) (λb o hb e=>eb b o hb e) f0 f1 f3 f4 f5⟩
 self:=λ_ _ _ _ _ st h=>wpAny_pyIter_striter_wide st h
section
variable{X:Cx}{tg:Expr}
def va(tl:TE):TI:=λσ H R=>tl σ H λx H1=>∃z,x=.str z/\R (pT z) H1
theorem iX{l:Expr}{tl:TE}(hl:E X l tl):Il X tg l (va tl):=by
 refine⟨λpins s σ H R I h=>?_⟩;refine fg (hl.h pins s σ H _ I h) λu s1 ⟨x,H1,I1,r1,q1⟩=>?_;obtain⟨z,rfl,q⟩:=q1;obtain⟨t,rfl⟩:=r1;have fp:∀b∈[s1.heap.objs.size],jo X pins H1 b:=λb hb=>by
  have e:b=s1.heap.objs.size:=by simpa using hb
  subst e;exact I1.fpOk (aP _) (I1.hok.fresh (aP _))
 cases ha:z.cps.all (·<128)
 ·exact wpAny_pyIter_wide ha ⟨s1.heap.objs.size,[s1.heap.objs.size],_,_,H1,rfl,I1.kept (t':=s1.toks) λb o e=>aU _ e,M0 z t _,⟨_,bM _ rfl,rfl,rfl⟩,fp,q⟩
 ·exact wpAny_pyIter_ascii ha ⟨s1.heap.objs.size,[s1.heap.objs.size],_,_,H1,rfl,I1.kept (t':=s1.toks) λb o e=>aU _ e,Ny z t _,⟨_,bM _ rfl,rfl,rfl⟩,fp,q⟩
variable{js:List Nat}{σ:St}{tt:TT}{te:TE}{Q:VK}{H1:Hp}
theorem UP{xs:List Nat}(R:Nat->List V->Prop)(hn:xs.length<=sizeLine)(h0:R 0 [])
  (hs:∀(i:Nat) (c:Nat) (l:List V) (D:Addr) (H2:Hp) (E:V->Hp->Prop) (F:Hp->Prop),xs[i]? =some c->R i l->H1 D=none->Same H1 H2->H2 D=some (.lst l)->(∀y H5,Same H2 H5->R (i+1) (l++[y])->E y H5)->(∀H4,Same H2 H4->R (i+1) l->F H4)->
   tt (some (.str (Tx [c]))::gy js σ) H2 λb H4=>if b=true then te (some (.str (Tx [c]))::gy js σ) H4 E else F H4)
  (hd:∀(D:Addr) (H2:Hp) (l:List V),R xs.length l->H1 D=none->Same H1 H2->H2 D=some (.lst l)->Q (.ref D) H2):l7 (pT (Tx xs)) js σ tt te Q H1:=by
 intro D hD;have hz:(Tx xs).cps.size=xs.length:=by simp
 refine⟨λi m H2=>m=xs.length-i/\i<=xs.length/\Same H1 H2/\∃l,H2 D=some (.lst l)/\l.length<=i/\R i l,⟨xs.length,by simp,bD _,eS hD _,[],eJ,aP _,h0⟩,?_⟩;rintro i m H2 ⟨rfl,hi,s2,l,h2,hll,hR⟩;by_cases hlt:i<xs.length
 ·refine .inr ⟨show i<(Tx xs).cps.size by rw[hz];exact hlt,λv H3 y=>?_⟩;obtain⟨e,c,ec,ev⟩:=y;subst e ev;refine hs i c l D _ _ _ (by simpa using ec) hR hD s2 h2 (λz H5 s5 r5=>?_) (λH4 s4 r4=>?_)
  ·refine⟨l,s5 _ _ h2,cI hll (bC hlt hn),xs.length-(i+1),⋯,rfl,hlt,λb o hb=>?_,l++[z],eJ,by rw[aS,bX];omega,r5⟩;rw[fh (gF hb hD)];exact s5 _ _ (s2 _ _ hb)
  ·exact⟨xs.length-(i+1),⋯,rfl,hlt,s2.trans s4,l,s4 _ _ h2,⋯,r4⟩
 ·have e:i=xs.length:=⋯;subst e;exact .inl ⟨show xs.length=(Tx xs).cps.size by rw[hz],hd D H2 l hR hD s2 h2⟩
end
section
variable{X:Cx}
theorem S4{prog:Program}{w:World}{A:Around}{its:Array Value}{bs:List Bool}(r:Vals (bs.map V.bl) its.toList):TruthOf prog w A (λi v=>its[i]? =some v) (λi=>bs.getD i false):=by
 intro i v s Q E hv hq;have hv':its.toList[i]? =some v:=by rw[dH];exact hv
 have hi:i<bs.length:=by
  have h1:=r.length;rw[aQ] at h1;rcases bP i its.toList.length with z | z
  ·omega
  ·rw[List.getElem?_eq_none z] at hv';cases hv'
 obtain⟨u,hu,ru⟩:=r.get (i:=i) (x:=V.bl bs[i]) (by rw[bG,bH hi];rfl);rw[hv'] at hu;cases hu;cases ru;have e:bs.getD i false=bs[i]:=by simp[List.getD,bH hi]
 have hq:Q (bs.getD i false) s:=hq;rw[e] at hq;exact eA hq
theorem P8(bs:List Bool):(List.range bs.length).all (λi=>bs.getD i false)=bs.all id:=by
 rw[cE,b6,b6];refine⟨λh b hb=>?_,λh i hi=>?_⟩
 ·obtain⟨i,hi,e⟩:=List.getElem_of_mem hb;have:=h i (bR.mpr hi);rw[show bs.getD i false=bs[i] by simp[List.getD,bH hi],e] at this;exact this
 ·have hi:=bR.mp hi;rw[show bs.getD i false=bs[i] by simp[List.getD,bH hi]];exact h _ (List.getElem_mem hi)
theorem Ed(hc:X.calm=true:=by rfl):gZ X (.builtin "all") (λxs H Q=>∃(p:Addr) (bs:List Bool),xs=[.ref p]/\SqL X.K H p (bs.map V.bl)/\Q (.bl (bs.all id)) H):=by
 refine⟨λpins s σ H xs us Q I r h=>?_⟩;obtain⟨p,bs,rfl,hq,q⟩:=h;obtain⟨u,rfl,r1⟩:=iH r;cases r1;obtain⟨its,rv,pl,hz⟩:=I.list hq;have hne:p≠s.heap.objs.size:=by
  obtain⟨o,ho,_⟩:=pl.isList;exact aW (aR ho)
 refine call_all_walk (wpAny_pyIter_list pl.isList ⟨s.heap.objs.size,[s.heap.objs.size,p],[s.heap.objs.size],its.toArray.size,(λi v=>its.toArray[i]? =some v),(λi h=>h.IsListIter s.heap.objs.size p i/\h.IsList p its.toArray),(λi=>bs.getD i false),rfl,Walks.list (prog:=X.prog) (w:=X.w) (A:=X.A.in1) (I.ok.hd hc) _ p hne its.toArray,⟨⟨_,bM _ rfl,rfl,rfl⟩,pl.isList.push _⟩,S4 (by simpa using rv),λh' tk hk=>?_⟩)
 have hl:=rv.length;rw[aQ] at hl;have e:its.toArray.size=bs.length:=by rw[bB];omega
 rw[e,P8];exact⟨.bl _,H,I.kept λb o eb=>hk b o (by simpa using aW (aR eb)) (aU _ eb),rfl,q⟩
end
end L2
namespace L2
open PySem PySem.Spec PyProof.Rows PySem.Builtin PySem.Builtin.Str
noncomputable def eV(c:Nat):List Nat->List (List Nat)
 |[]=>[[]]
 |x::r=>if x=c then []::eV c r else match eV c r with
  |h::t=>(x::h)::t
  |[]=>[[x]]
noncomputable def fU(c:Nat):List (List Nat)->List Nat
 |[]=>[]
 |[p]=>p
 |p::r=>p++c::fU c r
theorem V6(c:Nat):∀l,eV c l≠[]
 |[]=>by simp[eV]
 |x::r=>by
  unfold eV;split
  ·simp
  ·split<;>simp
theorem nq(c:Nat):∀(p:List Nat),c∉p->eV c p=[p]
 |[],_=>rfl
 |x::r,h=>by
  have h1:¬x=c:=λe=>h (by simp[e]);have h2:=nq c r λe=>h (by simp[e]);unfold eV;rw[if_neg h1,h2]
theorem qO(c:Nat):∀(p r:List Nat),c∉p->eV c (p++c::r)=p::eV c r
 |[],r,_=>by
  show eV c (c::r)=_;unfold eV;rw[if_pos rfl];cases r<;>rfl
 |x::q,r,h=>by
  have h1:¬x=c:=λe=>h (by simp[e]);have h2:=qO c q r λe=>h (by simp[e]);show eV c (x::(q++c::r))=_;rw[eV,if_neg h1,h2]
theorem oS(c:Nat):∀(ps:List (List Nat)),ps≠[]->(∀p∈ps,c∉p)->eV c (fU c ps)=ps
 |[],h,_=>absurd rfl h
 |[p],_,h=>nq c p (h p (by simp))
 |p::q::r,_,h=>by
  show eV c (p++c::fU c (q::r))=_;rw[qO c p _ (h p (by simp)),oS c (q::r) (by simp) λz hz=>h z (bN _ hz)]
theorem sk(c:Nat):∀ps:List Str,(Str.join (Tx [c]) ps).cps.toList=fU c (ps.map (·.cps.toList))
 |[]=>rfl
 |[p]=>rfl
 |p::q::r=>by
  have ih:=sk c (q::r);show (p++Tx [c]++Str.join (Tx [c]) (q::r)).cps.toList=p.cps.toList++c::fU c ((q::r).map (·.cps.toList));rw[←ih];show ((p.cps++ #[c])++(Str.join (Tx [c]) (q::r)).cps).toList=_;simp
theorem SD(x y:Str)(h:Txt.split x y=[]):False:=by
 unfold Txt.split at h;split at h
 ·cases h
 ·split at h
  ·cases h
  ·have e:=congrArg List.length h;rw[length_partsBetween] at e;simp at e
theorem UN(l:List Nat)(c:Nat):(Txt.split (Tx l) (Tx [c])).map (·.cps.toList)=eV c l:=by
 have h1:=StrLaws.join_split (Tx l) (Tx [c]);have h2:=StrLaws.split_free (Tx l) c;have h3:=sk c (Txt.split (Tx l) (Tx [c]));rw[h1] at h3;have e:fU c ((Txt.split (Tx l) (Tx [c])).map (·.cps.toList))=l:=by rw[←h3]
 rw[←oS c ((Txt.split (Tx l) (Tx [c])).map (·.cps.toList)) (λz=>SD _ _ (List.map_eq_nil_iff.mp z)) ?_,e];intro p hp;obtain⟨z,hz,rfl⟩:=bJ.mp hp;exact h2 z hz
theorem N7(l:List Nat)(c:Nat):Txt.split (Tx l) (Tx [c])=(eV c l).map Tx:=by
 rw[←UN,List.map_map];have:∀ps:List Str,ps=ps.map ((λw:List Nat=>Tx w) ∘ λx=>x.cps.toList):=λps=>by
  induction ps with
  |nil=>rfl
  |cons a r ih=>rw[bV,←ih];simp
 exact this _
theorem ES:∀l:List (Str×Tok),Vals (l.map λp=>V.str p.1) (strValues l)
 |[]=>.nil
 |p::r=>.cons ⟨p.2,rfl⟩ (ES r)
section
variable{prog:Program}{w:World}{A:Around}{E:Value->Shared->Prop}{s:Shared}{x y:Str}{t u:Tok}{Q:Value->Shared->Prop}
theorem PU(hy:(y.length==0)=false)(hsz:x.length+2<=sizeLine)
  (h:∀l k,l.map (·.1)=Txt.split x y->Q (.ref s.heap.objs.size) {s with heap:=s.heap.push {cls:=.type "list",data:=.seq (strValues l).toArray},toks:=k}):
  wpAny (model prog w) A (call (.builtin "str.split") [.str x t,.str y u]) Q E s:=by
 have hn:(partsBetween x (occurrences x y 0 x.length (x.length+1)) y.length).length<=sizeLine:=by
  have e1:=StrLaws.occ_length_le x y 0 x.length (x.length+1);rw[length_partsBetween];omega
 cases h1:(decide (x.length<y.length)||decide (strKind x<strKind y))
 ·cases hf:(occurrences x y 0 x.length (x.length+1)).isEmpty
  ·refine call_meets F.slot_str_split (typeIs_str _ _ _) F.entry_str_split (F.args_str_split_2 _ _) (meets_str_split_sep x y t u h1 hy hf ⋯ hn) ?_;show wants Q E _ {s with toks:=_,heap:=s.heap.push {cls:=.type "list",data:=.seq (strsFrom s.toks (partsBetween x (occurrences x y 0 x.length (x.length+1)) y.length)).toArray} };rw[strsFrom_eq];exact h (numbered s.toks _) _ ((numbered_texts _ _).trans ((if_neg (ne_true_of_eq_false h1)).trans (if_neg (ne_true_of_eq_false hf))).symm)
  ·exact call_meets F.slot_str_split (typeIs_str _ _ _) F.entry_str_split (F.args_str_split_2 _ _) (meets_str_split_not_found x y t u h1 hy hf)
    (h [(x,t)] s.toks ((if_neg (ne_true_of_eq_false h1)).trans (if_pos hf)).symm)
 ·exact call_meets F.slot_str_split (typeIs_str _ _ _) F.entry_str_split (F.args_str_split_2 _ _) (meets_str_split_cannot_occur x y t u h1)
   (h [(x,t)] s.toks (if_pos h1).symm)
end
theorem oF(c:Nat):∀l,(eV c l).length<=l.length+1
 |[]=>by simp[eV]
 |x::r=>by
  have ih:=oF c r;unfold eV;split
  ·simp;omega
  ·split
   ·rename_i e;rw[e] at ih;simp at ih ⊢;omega
   ·simp
section
variable{X:Cx}
def JJ:V->List V->Hp->VK->Prop:=λx vs H Q=>∃(l:List Nat) (c:Nat),x=.str (Tx l)/\vs=[.str (Tx [c])]/\l.length+2<=sizeLine/\∀p,H p=none->Q (.ref p) (upd H p (.lst ((eV c l).map λq=>V.str (Tx q))))
theorem Xb:mY X "str.split" JJ:=by
 intro pins s σ H x xs v us Q I rx rv h;obtain⟨l,c,rfl,rfl,hz,q⟩:=h;obtain⟨u,rfl,t',rfl⟩:=iH rv;obtain⟨t,rfl⟩:=rx;refine PU (by rfl) (by rw[iy];exact hz) λps k e=>?_;have e2:ps.map (λp=>V.str p.1)=(eV c l).map λq=>V.str (Tx q):=by
  have:=congrArg (List.map V.str) e;rw[N7,List.map_map,List.map_map] at this;exact this
 have hl:((eV c l).map λq=>V.str (Tx q)).length<=sizeLine:=by
  have:=oF c l;rw[aQ];omega
 refine⟨.ref s.heap.objs.size,upd H s.heap.objs.size (.lst ((eV c l).map λq=>V.str (Tx q))),I.laid (t':=k) (λb u e=>aU _ e) (aP _) ?_,rfl,q _ (I.hok.fresh (aP _))⟩;exact⟨hl,strValues ps,0,by rw[←e2];exact ES ps,bM _ rfl⟩
theorem nh{o e:Expr}{to te:TE}{apos cpos:Pos}(ho:E X o to)(he:E X e te)(hbase:attributeBase o "split" X.env (eval o X.env)=eval o X.env:=by rfl)
  (hfew:((backTo cpos (starEach [e] X.env)).all (λx=> !x.1)&&(backToKw cpos (keywordEach [] X.env)).all (λx=>x.1.isSome)&&decide (([e]:List Expr).length+([]:List Keyword).length+(if ([]:List Keyword).isEmpty then 0 else 1)<30))=true:=by rfl)
  (hline:(apos.endLine==cpos.line)=true:=by rfl) (hs:starEach [e] X.env=(false,eval e X.env)::starEach [] X.env:=by rfl) (hplain:(backTo cpos (starEach [] X.env)).any (·.1)=false:=by rfl):
  E X (.Call (.Attribute o "split" apos) [e] [] cpos) (mH X.K "str" JJ to (iI te il)):=
 ⟨nr PySem.F.plainAttrs_str PySem.F.slot_str_split PySem.F.type_str_split Xb ho.h (jR he.h kz hs) hbase hfew hline hs hplain⟩
theorem rJ:gu X (compareOp .In) (λx y H Q=>∃(c:Nat) (l:List Nat),x=.str (Tx [c])/\y=.str (Tx l)/\Q (.bl (decide (c∈l))) H):=by
 refine⟨λpins s σ H x y v u Q I rx ry h=>?_⟩;obtain⟨c,l,rfl,rfl,q⟩:=h;refine Xu pins s σ H _ _ v u Q I rx ry ⟨(()),?_⟩;rw[show (!(occurrences (Tx l) (Tx [c]) 0 (Tx l).length 1).isEmpty)=decide (c∈(Tx l).cps.toList) from StrLaws.found_one (Tx l) c];exact q
theorem wq:gZ X (.builtin "len") (λxs H Q=>∃l:List Nat,xs=[.str (Tx l)]/\l.length<=sizeLine/\Q (.int l.length) H):=by
 refine⟨λpins s σ H xs us Q I r h=>?_⟩;obtain⟨l,rfl,hz,q⟩:=h;refine Pj pins s σ H _ us Q I r ⟨Tx l,rfl,by rw[iy];exact hz,?_⟩;rw[iy];exact q
theorem oh:gu X (binaryOp .Add) (λx y H Q=>∃a b:List Nat,x=.str (Tx a)/\y=.str (Tx b)/\a.length+b.length<=sizeLine/\Q (.str (Tx (a++b))) H):=by
 refine⟨λpins s σ H x y v u Q I rx ry h=>?_⟩;obtain⟨a,b,rfl,rfl,hz,q⟩:=h;refine VJ pins s σ H _ _ v u Q I rx ry ⟨(()),by rw[iy,iy];exact hz,?_⟩;have e:Tx a++Tx b=Tx (a++b):=by show Str.mk _=Str.mk _;simp
 rw[e];exact q
theorem xX:nW X (λx y H Q=>∃(l:List Nat) (i:Int) (c:Nat),x=.str (Tx l)/\y=.int i/\l.length<=sizeLine/\gK l i=some c/\Q (.str (Tx [c])) H):=by
 refine⟨λvalue slice pins s σ H x y v u Q I rx ry h hs=>?_⟩;obtain⟨l,i,c,rfl,rfl,hz,ha,q⟩:=h;exact UM value slice pins s σ H _ _ v u Q I rx ry ⟨Tx l,i,c,rfl,rfl,by rw[iy];exact hz,by simpa using ha,q⟩ hs
end
end L2
namespace L2
open PySem PySem.Spec PyProof.Rows PySem.Builtin PySem.Builtin.Str
section
variable{X:Cx}{pins:List (Addr×Obj)}{σ:St}{H:Hp}{s:Shared}{h':Heap}
theorem Inv.turnT{ch:List Addr}{T:Addr}{o:HO}{t':Nat}(I:Inv X pins σ H s)(k:∀b u,b∉ch->s.heap.get? b=some u->h'.get? b=some u)(hch:∀b∈ch,jo X pins H b)(hT:s.heap.objs.size<=T)(new:ObjOk X.prog X.w (upd H T o) h' T o):
  Inv X pins σ (upd H T o) {s with heap:=h',toks:=t'}:=by
 have hn:=I.hok.fresh hT;have nit:∀b u,H b=some u->b∉ch:=λb u e z=>by rw[(hch b z).1] at e;cases e
 refine I.step (g':=s.gens) (d':=s.drawn) (ch:=ch) (λb hb=>?_) (λb u _ _ hc e _=>k b u hc e) (λb u _ _ hc e _=>⟨u.slots,k b u hc e⟩) (λb u _ e n=>?_)
  (λb u hc e=>⟨u,k b u hc e⟩) (λb xs e=>by rw[fh (gF e hn)];exact e) (λb u xs e=>by rw[fh (gF e hn)];exact e) (λb ps e=>⟨#[],by rw[fh (gF e hn),e];simp⟩) (λm hm=>?_) (λb u e=>?_) I.bare
 ·obtain⟨f0,f1,f2,f3,f4,f5⟩:=hch b hb;exact⟨f3,f1,f4,f5⟩
 ·rw[fh (aW (bC (aR e) hT))];exact n
 ·obtain⟨ob,es,ep,ho,r⟩:=hm;exact⟨ob,es,ep,k _ ob (λz=>(hch _ z).2.1 rfl) ho,r⟩
 ·by_cases hb:b=T
  ·subst hb;rw[eJ] at e;cases e;exact new
  ·rw[fh hb] at e;refine (I.hok b u e).stay (λc v hc q=>k c v ?_ q) (λc q=>by rw[fh (gF q hn)];exact q) λc xs q=>by rw[fh (gF q hn)];exact q
   rcases hc with z | z
   ·rw[z];exact nit b u e
   ·exact nit c _ z
theorem Inv.turnN{ch:List Addr}{t':Nat}(I:Inv X pins σ H s)(k:∀b u,b∉ch->s.heap.get? b=some u->h'.get? b=some u)(hch:∀b∈ch,jo X pins H b):Inv X pins σ H {s with heap:=h',toks:=t'}:=by
 have nit:∀b u,H b=some u->b∉ch:=λb u e z=>by rw[(hch b z).1] at e;cases e
 refine I.step (g':=s.gens) (d':=s.drawn) (ch:=ch) (λb hb=>?_) (λb u _ _ hc e _=>k b u hc e) (λb u _ _ hc e _=>⟨u.slots,k b u hc e⟩) (λb u _ e n=>n)
  (λb u hc e=>⟨u,k b u hc e⟩) (λb xs e=>e) (λb u xs e=>e) (λb ps e=>⟨#[],by rw[e];simp⟩) (λm hm=>?_) (λb u e=>?_) I.bare
 ·obtain⟨f0,f1,f2,f3,f4,f5⟩:=hch b hb;exact⟨f3,f1,f4,f5⟩
 ·obtain⟨ob,es,ep,ho,r⟩:=hm;exact⟨ob,es,ep,k _ ob (λz=>(hch _ z).2.1 rfl) ho,r⟩
 ·refine (I.hok b u e).stay (λc v hc q=>k c v ?_ q) (λc q=>q) λc xs q=>q;rcases hc with z | z
  ·rw[z];exact nit b u e
  ·exact nit c _ z
end
noncomputable def mz(K:FG)(a:Addr):It:=
 ⟨λi H=>∃xs x,SqL K H a xs/\xs[i]? =some x,λi H v H'=>∃T,v=.ref T/\H T=none/\∀xs,SqL K H a xs->∃x,xs[i]? =some x/\H'=upd H T (.tup [.int i,x]),λi H=>∃xs,SqL K H a xs/\xs.length=i⟩
theorem Xp{P:Program}{w:World}{K:FG}{es:List Expr}{kk:Nat}{pos:Pos}(a e it:Addr)(hne:e≠it):ij P w K (.Tuple es kk pos) (mz K a) [e,it] e (λi h=>(∃old,IsEnum h e it i old)/\h.IsListIter it a i) where
 mem:=by simp
 obj:=λi h st b hb=>by
  obtain⟨⟨old,he⟩,o,e1,c,d⟩:=st;rcases aT.mp hb with z | z
  ·subst z;exact⟨_,he,λv q=>by
    have q':Data.fields _=Data.cell v:=q;cases q'⟩
  ·have z:b=it:=by simpa using z
   subst z;exact⟨o,e1,λv q=>by rw[d] at q;cases q⟩
 keep:=λi h h' st k=>by
  obtain⟨⟨old,he⟩,hit⟩:=st;exact⟨⟨old,k e (by simp) _ he⟩,hit.at λo q=>k it (by simp) o q⟩
 item:=by
  intro X hP hw hK hc i pins s σ H E I hf st hg;subst hP hw hK;obtain⟨xs,x,hq,hx⟩:=hg;obtain⟨⟨old,he⟩,hit⟩:=st;obtain⟨its,rv,p,hz⟩:=I.list hq;obtain⟨u,hu,ru⟩:=rv.get hx;refine wpAny_pyNext_enum_item he hit p.isList (x:=u) (by simpa using hu) hne λh1 ho hit1 hT hsz hk=>?_;refine⟨(),wpAny_letOwnedTupleGo_enum ho λh2 he2 sb=>?_⟩;have ele:e<s.heap.objs.size:=aR he;have k2:∀b ob,b∉[e,it]->s.heap.get? b=some ob->h2.get? b=some ob:=λb ob hb q=>by
   have n1:b≠e:=λz=>hb (by simp[z]);have n2:b≠it:=λz=>hb (by simp[z]);exact (sb.2 b n1).trans (hk b ob n1 n2 q)
  have hTn:s.heap.objs.size≠e:=Nat.ne_of_gt ele;have hT2:h2.get? s.heap.objs.size=some {cls:=.type "tuple",data:=.seq #[.int i s.toks,u]}:=(sb.2 _ hTn).trans hT;have hn:=I.hok.fresh (aP s.heap.objs.size);have I2:Inv X pins σ (upd H s.heap.objs.size (.tup [.int i,x])) {s with heap:=h2,toks:=s.toks+1}:=I.turnT k2 hf (aP _) ⟨by show 2<=sizeLine;decide,[.int i s.toks,u],.cons ⟨()⟩ (.cons ru .nil),⟨_,hT2,rfl,()⟩⟩
  refine⟨.ref s.heap.objs.size,_,I2,rfl,⟨s.heap.objs.size,rfl,hn,λys hy=>⟨x,by rw[I.list_inj hy hq];exact hx,rfl⟩⟩,⟨⟨_,by simpa using he2⟩,hit1.at λo q=>(sb.2 it (Ne.symm hne)).trans q⟩,λb hb=>?_⟩;have hblt:b<s.heap.objs.size:=by
   rcases aT.mp hb with z | z
   ·rw[z];exact ele
   ·have z:b=it:=by simpa using z
    obtain⟨o,q,_⟩:=hit;rw[z];exact aR q
  rw[fh (aW hblt)];exact (hf b hb).1
 done:=by
  intro X hP hw hK hc i pins s σ H E I hf st hg;subst hP hw hK;obtain⟨xs,hq,hx⟩:=hg;obtain⟨⟨old,he⟩,hit⟩:=st;obtain⟨its,rv,p,hz⟩:=I.list hq;have hl:=rv.length;refine wpAny_pyNext_enum_end (I.ok.hd hc) he hit p.isList (by simp;omega) λh' hk=>⟨rfl,?_⟩;exact I.turnN (ch:=[e,it]) (t':=s.toks) (λb ob hb q=>hk b ob (λz=>hb (by simp[z])) q) hf
 self:=λ_ _ _ _ _ st h=>by
  obtain⟨⟨old,he⟩,_⟩:=st;exact wpAny_pyIter_enum he h
section
variable{X:Cx}{es:List Expr}{kk:Nat}{tpos:Pos}
def vJ(K:FG)(tl:TE):TI:=λσ H R=>tl σ H λx H1=>∃a,x=.ref a/\(∃xs,SqL K H1 a xs)/\R (mz K a) H1
theorem N2:bootBuiltins "enumerate"=some (.type "enumerate"):=by decide +kernel
theorem iE{l:Expr}{tl:TE}{p pos:Pos}(hm:X.mg "enumerate"=none)(hl:E X l tl)(hg:Gl X "enumerate":=by rfl)(hs:starEach [l] X.env=[(false,eval l X.env)]:=by rfl):
  Il X (.Tuple es kk tpos) (.Call (.Name "enumerate" p) [l] [] pos) (vJ X.K tl):=by
 refine⟨λpins s σ H R I h=>?_⟩;have hA:PA X [l] (iI tl il):=jR hl.h kz hs;refine Call_ (mh I hg hm N2 (PyProof.Rows.callWith_type1 (fg (hA pos pins s σ H (λvs H1=>match vs with | [x]=>∃a,x=.ref a/\(∃xs,SqL X.K H1 a xs)/\R (mz X.K a) H1 | _=>False) I ?_) λus s1 ⟨vs,H1,I1,r1,q1⟩=>?_) hs rfl))
 ·exact h
 match vs,q1,r1 with
 |[x],q1,r1=>?_
 obtain⟨a,rfl,⟨xs,hq⟩,q⟩:=q1;obtain⟨u,rfl,rx⟩:=iH r1;cases rx;obtain⟨its,rv,pl,hz⟩:=I1.list hq;refine call_enumerate_list pl.isList λh' he hit hsz hk=>?_;refine wpAny_pyIter_enum he ?_;have I2:Inv X pins σ H1 {s1 with heap:=h'}:=I1.kept (t':=s1.toks) hk;have hne:s1.heap.objs.size+1≠s1.heap.objs.size:=Nat.ne_of_gt (Nat.lt_succ_self _);refine⟨s1.heap.objs.size+1,[s1.heap.objs.size+1,s1.heap.objs.size],_,_,H1,rfl,I2,Xp a _ _ hne,⟨⟨_,he⟩,hit⟩,λb hb=>?_,q⟩
 have hb2:s1.heap.objs.size<=b:=by
  rcases aT.mp hb with z | z
  ·rw[z];exact Nat.le_succ _
  ·have z:b=s1.heap.objs.size:=by simpa using z
   rw[z];exact aP _
 exact I1.fpOk hb2 (I1.hok.fresh hb2)
end
theorem ET{K:FG}{a:Addr}{xs:List V}{g:TG}{tb:TS}{D:gC}{σ:St}{H:Hp}(Pv:Nat->St->Hp->Prop)(h0:Pv 0 σ H)(hl:∀i σ H,i<=xs.length->Pv i σ H->SqL K H a xs)
  (hs:∀i x σ H T,xs[i]? =some x->Pv i σ H->H T=none->g (.ref T) σ (upd H T (.tup [.int i,x])) λσ2 H2=>tb {D with nx:=Pv (i+1),ct:=Pv (i+1),bk:=D.nx} σ2 H2) (hd:∀σ H,Pv xs.length σ H->D.nx σ H):
  ∃W:Nat->Nat->St->Hp->Prop,(∃m,W 0 m σ H)/\∀i m σ H,W i m σ H->
   ((mz K a).stop i H/\D.nx σ H)∨((mz K a).go i H/\∃N:St->Hp->Prop,(∀σ' H',N σ' H'->∃m',m'<m/\W (i+1) m' σ' H')/\∀x H',(mz K a).yld i H x H'->g x σ H' λσ2 H2=>tb {D with nx:=N,ct:=N,bk:=D.nx} σ2 H2):=by
 refine⟨λi m σ H=>m=xs.length-i/\i<=xs.length/\Pv i σ H,⟨xs.length,by simp,bD _,h0⟩,?_⟩;rintro i m σ H ⟨rfl,hi,p⟩;have hq:=hl i σ H hi p;by_cases hlt:i<xs.length
 ·refine .inr ⟨⟨xs,xs[i],hq,by simp[hlt]⟩,Pv (i+1),λσ' H' p'=>⟨xs.length-(i+1),⋯,rfl,hlt,p'⟩,λx H' y=>?_⟩;obtain⟨T,rfl,hT,hy⟩:=y;obtain⟨x,hx,rfl⟩:=hy xs hq;exact hs i x σ H T hx p hT
 ·have e:i=xs.length:=⋯;subst e;exact .inl ⟨⟨xs,hq,rfl⟩,hd σ H p⟩
noncomputable def num(m:Nat):List Nat:=(Nat.toDigits 10 m).map Char.toNat
section
variable{X:Cx}
theorem O7:gZ X (.type "int") (λxs H Q=>∃l:List Nat,xs=[.str (Tx l)]/\PySem.NumText.AllDigits l/\l≠[]/\l.length<=640/\Q (.int ((PySem.NumText.digitsVal l:Nat):Int)) H):=by
 refine⟨λpins s σ H xs us Q I r h=>?_⟩;obtain⟨l,rfl,h1,h2,h3,q⟩:=h;obtain⟨u,rfl,t,rfl⟩:=iH r;refine PySem.W.KIN.call_text (PySem.intText_digits (x:=Tx l) (by simpa using h1) (by simpa using h2) (by rw[iy];omega)) (by rw[iy];exact h3) ?_;exact⟨.int _,H,I.tok _,⟨()⟩,by simpa using q⟩
theorem i7:gZ X (.type "str") (λxs H Q=>∃n:Nat,xs=[.int n]/\n<10^500/\Q (.str (Tx (num n))) H):=by
 refine⟨λpins s σ H xs us Q I r h=>?_⟩;obtain⟨n,rfl,hn,q⟩:=h;refine TF pins s σ H _ us Q I r ⟨(n:Int),rfl,?_,?_⟩
 ·by_cases h0:n=0
  ·subst h0;decide
  ·have:n<2^1900:=bC hn (by decide +kernel);have:=(Nat.log2_lt h0).mpr this;show (n:Int).natAbs.log2<1920;simp only[Int.natAbs_natCast];omega
 ·have e:PySem.Str.ofString (toString (n:Int))=Tx (num n):=by
   rw[←Eu (PySem.Str.ofString (toString (n:Int)))];exact congrArg (λz=>Tx z) (PySem.W.KIN.signs_num n)
  show Q (.str (PySem.Str.ofString (toString (n:Int)))) H;rw[e];exact q
end
end L2
namespace L2
open PySem PySem.Spec PyProof.Rows PySem.Builtin PySem.Builtin.Str
theorem jI{b:Bool}{A B:Prop}(e:b=true)(h:A):if b=true then A else B:=by rw[if_pos e];exact h
theorem ik{b:Bool}{A B:Prop}(e:b=false)(h:B):if b=true then A else B:=by rw[if_neg (by rw[e];exact bA)];exact h
theorem Eh{b:Bool}{A B:Prop}(h1:b=true->A)(h2:b=false->B):if b=true then A else B:=by
 cases b
 ·exact ik rfl (h2 rfl)
 ·exact jI rfl (h1 rfl)
theorem oZ(a b:List Nat):decide (V.str (Tx a)=V.str (Tx b))=decide (a=b):=decide_eq_decide.mpr ⟨λh=>Tx_inj.mp (V.str.inj h),λh=>by rw[h]⟩
section
variable{X:Cx}{pos:Pos}
theorem gp{z:Str}{j}(l:List Nat)(h:z=Tx l:=by decide +kernel):E X (.Constant (.str z) j pos) (tC (.str (Tx l))):=by
 subst h;exact⟨WB⟩
end
noncomputable def kh(c:Nat):Bool:=decide (48<=c)&&decide (c<=57)
noncomputable def qZ:List Nat:=[48,49,50,51,52,53,54,55,56,57]
theorem NG:∀c:Nat,c<58->decide (c∈qZ)=kh c:=by decide
theorem XA(c:Nat):decide (c∈qZ)=kh c:=by
 rcases bP c 58 with h | h
 ·exact NG c h
 ·have n:∀x∈qZ,x<58:=by decide
  unfold kh;rw[d7 (λz=>absurd (n c z) (Nat.not_lt.mpr h)),d7 (show ¬c<=57 from Nat.not_le.mpr h),Bool.and_false]
noncomputable def l9(l:List Nat):Bool:= !decide (l=[])&&l.all kh
noncomputable def iJ(l:List Nat):Bool:=l9 l&&(decide (l=[48])|| !decide (l.headD 0=48))
noncomputable def dv(l:List Nat):Int:=((PySem.NumText.digitsVal l:Nat):Int)
noncomputable def gd(lo hi:Int)(l:List Nat):Option Int:=if iJ l=true then (if lo<=dv l/\dv l<=hi then some (dv l) else none) else none
noncomputable def oV:Option Int->V
 |none=>.non
 |some n=>.int n
noncomputable def lH(es:List (Option Int)):Option (Int×Int):=match es with
 |[some a]=>some (a,a)
 |[some a,some b]=>if b<a then none else some (a,b)
 |_=>none
noncomputable def ig(lo hi:Int)(l:List Nat):Option (Int×Int):=if l=[42] then some (lo,hi) else lH ((eV 45 l).map (gd lo hi))
@[irreducible] noncomputable def gY(a b s:Int):List Int:=(List.range (Builtin.Range.rangeSize a (b+1) s).toNat).map λi:Nat=>a+(i:Int)*s
theorem qr(a b s:Int):gY a b s=(List.range (Builtin.Range.rangeSize a (b+1) s).toNat).map λi:Nat=>a+(i:Int)*s:=by rw[gY]
noncomputable def jP(a b s:Int):Int:=fE (gY a b s)
noncomputable def jq(lo hi:Int)(r s:List Nat):Option Int:=
 match ig lo hi r,gd 1 99 s with
 |some (a,b),some st=>some (jP a (if iJ r=true then hi else b) st)
 |_,_=>none
noncomputable def gf(lo hi:Int)(l:List Nat):Option Int:=
 match eV 47 l with
 |[r,s]=>jq lo hi r s
 |_=>match ig lo hi l with
  |some (a,b)=>some (jP a b 1)
  |none=>none
theorem XO{l:List Nat}(h:iJ l=true):PySem.NumText.AllDigits l/\l≠[]:=by
 unfold iJ l9 at h;rw[bI,bI] at h;refine⟨λc hc=>?_,λe=>?_⟩
 ·have:=b6.mp h.1.2 c hc;unfold kh at this;rw[bI] at this;exact⟨dY this.1,dY this.2⟩
 ·rw[dZ e] at h;exact absurd h.1.1 (by decide)
theorem qI{a b s:Int}(hs:0<s):Builtin.Range.rangeSize a (b+1) s=if a<=b then (b-a) / s+1 else 0:=by
 unfold Builtin.Range.rangeSize;rw[if_pos hs];by_cases c:a<=b
 ·rw[if_pos c,if_pos ⋯,show b+1-a-1=b-a by omega]
 ·rw[if_neg c,if_neg ⋯]
theorem ud{a b s z:Int}(hs:0<s):z∈gY a b s↔a<=z/\z<=b/\(z-a)%s=0:=by
 rw[qr,bJ,qI hs];refine⟨λ⟨i,hi,e⟩=>?_,λ⟨h1,h2,h3⟩=>?_⟩
 ·subst e;by_cases c:a<=b
  ·rw[if_pos c,bR] at hi;have hq:(i:Int)<=(b-a) / s:=by
    have:0<=(b-a) / s:=Int.ediv_nonneg ⋯ ⋯;omega
   have hm:(i:Int)*s<=(b-a) / s*s:=Int.mul_le_mul_of_nonneg_right hq ⋯;have hd:(b-a) / s*s<=b-a:=Int.ediv_mul_le _ ⋯;have h0:0<=(i:Int)*s:=Int.mul_nonneg ⋯ ⋯;refine⟨⋯,⋯,?_⟩;rw[show a+(i:Int)*s-a=(i:Int)*s by omega];exact Int.mul_emod_left _ _
  ·rw[if_neg c,bR] at hi;exact absurd hi (by simp)
 ·rw[if_pos ⋯];have hd:s*((z-a) / s)+(z-a)%s=z-a:=Int.mul_ediv_add_emod _ _;rw[h3,Int.add_zero] at hd;have h0:0<=(z-a) / s:=Int.ediv_nonneg ⋯ ⋯;have hle:(z-a) / s<=(b-a) / s:=Int.ediv_le_ediv hs ⋯;refine⟨((z-a) / s).toNat,bR.mpr ⋯,?_⟩;rw[bQ h0,Int.mul_comm];omega
theorem Hg{a b s:Int}(h0:0<=a)(h1:b<=1000)(hs:0<s):(Builtin.Range.rangeSize a (b+1) s).toNat<=1001/\Builtin.Range.rangeSize a (b+1) s=((Builtin.Range.rangeSize a (b+1) s).toNat:Int):=by
 have hz:=F2 (a:=a) (b:=b+1) hs;refine⟨?_,⋯⟩;rw[qI hs];split
 ·have:(b-a) / s<=b-a:=Int.ediv_le_self _ ⋯;omega
 ·decide
theorem Te{a b s:Int}(h0:0<=a)(ha:a<=1000)(h1: -1<=b)(hb:b<=1000)(hs:0<s)(hs2:s<=1000):Builtin.Range.small a (b+1) s=true:=by
 have hl:=Hg h0 hb hs;have hz:=F2 (a:=a) (b:=b+1) hs;unfold Builtin.Range.small;simp only[Builtin.Range.rangeFitsLong,bI,cZ,d6,beq_iff_eq];refine⟨⟨⟨⟨?_,?_⟩,?_⟩,?_⟩,.inr ?_⟩
 ·exact⟨⋯,⋯⟩
 ·exact⟨⋯,⋯⟩
 ·exact⟨⋯,⋯⟩
 ·exact⟨⋯,⋯⟩
 ·rw[if_pos hs];simp only[bI,d6];exact⟨⋯,⋯⟩
end L2
namespace L2
open PySem PySem.Spec PyProof.Rows PySem.Builtin PySem.Builtin.Str
theorem KP{lo hi a:Int}{l:List Nat}(h:gd lo hi l=some a):lo<=a/\a<=hi:=by
 unfold gd at h;split at h
 ·split at h
  ·rename_i c;have:=a8 h;omega
  ·cases h
 ·cases h
theorem Ff{lo hi a b:Int}{l:List Nat}(hle:lo<=hi)(h:ig lo hi l=some (a,b)):(lo<=a/\a<=hi)/\lo<=b/\b<=hi:=by
 unfold ig at h;split at h
 ·cases h;omega
 ·have key:∀es:List (Option Int),(∀e∈es,∀x,e=some x->lo<=x/\x<=hi)->lH es=some (a,b)->(lo<=a/\a<=hi)/\lo<=b/\b<=hi:=by
   intro es hb h
   match es,hb,h with
   |[some x],hb,h=>
    have h:some (x,x)=some (a,b):=h;cases h;have:=hb _ (by simp) a rfl;exact⟨this,this⟩
   |[some x,some y],hb,h=>
    have h:(if y<x then none else some (x,y))=some (a,b):=h;split at h
    ·cases h
    ·cases h;exact⟨hb (some a) (by simp) a rfl,hb (some b) (by simp) b rfl⟩
   |[],_,h=>cases h
   |[none],_,h=>cases h
   |[none,y],_,h=>cases h
   |[some x,none],_,h=>cases h
   |x::y::u::r,_,h=>cases x<;>cases y<;>cases h
  refine key _ (λe he x hx=>?_) h;obtain⟨w,_,rfl⟩:=bJ.mp he;exact KP hx
noncomputable def fV(ms:List Int):Int:=ms.foldl (λa m=>Builtin.bitOr a m) 0
theorem oI(ms:List Int)(m:Int):fV (ms++[m])=Builtin.bitOr (fV ms) m:=by unfold fV;rw[List.foldl_append];rfl
theorem wQ:∀(ms:List Int) (a:Int),0<=a->(∀m∈ms,0<=m)->0<=ms.foldl (λa m=>Builtin.bitOr a m) a/\∀i,tb (ms.foldl (λa m=>Builtin.bitOr a m) a) i=(tb a i||ms.any λm=>tb m i)
 |[],a,h,_=>⟨h,λi=>by simp⟩
 |m::ms,a,h,hm=>by
  have hp:=hm m (by simp);obtain⟨h1,h2⟩:=wQ ms (Builtin.bitOr a m) (lI h hp) λz hz=>hm z (by simp[hz]);refine⟨h1,λi=>?_⟩;show tb (ms.foldl _ (Builtin.bitOr a m)) i=_;rw[h2 i,nO h hp,bT,Bool.or_assoc]
theorem jH{ms:List Int}(h:∀m∈ms,0<=m):0<=fV ms:=(wQ ms 0 (aV 0) h).1
theorem jC{ms:List Int}(h:∀m∈ms,0<=m)(i:Nat):tb (fV ms) i=ms.any λm=>tb m i:=by
 have:=(wQ ms 0 (aV 0) h).2 i;rw[jb,Bool.false_or] at this;exact this
noncomputable def kI(lo hi:Int)(l:List Nat):List Int:=(eV 44 l).map λw=>(gf lo hi w).getD 0
def Ag(lo hi:Int)(l:List Nat):Prop:=(eV 44 l).length<=40/\∀w∈eV 44 l,(gf lo hi w).isSome=true
theorem rl:∀n:Nat,n<100->iJ (num n)=true/\dv (num n)=(n:Int)/\((num n).all λc=>kh c)=true/\(num n).length<=2:=by decide +kernel
theorem kf{n c:Nat}(h:n<100)(hc:kh c=false):c∉num n:=λhm=>by
 have:=b6.mp (rl n h).2.2.1 c hm;rw[hc] at this;cases this
theorem Q2{n:Nat}(h:n<100):num n≠[42]:=λe=>by
 have:=kf h (c:=42) (by decide);rw[e] at this;exact this (by simp)
theorem ra{n:Nat}{lo hi:Int}(h:n<100)(h1:lo<=n)(h2:(n:Int)<=hi):gd lo hi (num n)=some (n:Int):=by
 obtain⟨a,b,_⟩:=rl n h;unfold gd;rw[if_pos a,b,if_pos ⟨h1,h2⟩]
theorem Gv{n:Nat}{lo hi:Int}(h:n<100)(h1:lo<=n)(h2:(n:Int)<=hi):ig lo hi (num n)=some ((n:Int),(n:Int)):=by
 unfold ig;rw[if_neg (Q2 h),nq 45 _ (kf h (by decide))];show lH [gd lo hi (num n)]=_;rw[ra h h1 h2];rfl
theorem VX{n m:Nat}{lo hi:Int}(h:n<100)(h':m<100)(h1:lo<=n)(h2:n<=m)(h3:(m:Int)<=hi):ig lo hi (num n++45::num m)=some ((n:Int),(m:Int)):=by
 unfold ig;rw[if_neg (λe=>by (have:45∈num n++45::num m:=(by simp));rw[e] at this;simp at this),qO 45 _ _ (kf h (by decide)),nq 45 _ (kf h' (by decide))];show lH [gd lo hi (num n),gd lo hi (num m)]=_;rw[ra h h1 ⋯,ra h' ⋯ h3];show (if (m:Int)<n then none else some ((n:Int),(m:Int)))=_;rw[if_neg ⋯]
theorem Lx{lo hi:Int}:ig lo hi [42]=some (lo,hi):=by unfold ig;rw[if_pos rfl]
theorem rP{lo hi a b:Int}{r:List Nat}(hf:47∉r)(h:ig lo hi r=some (a,b)):gf lo hi r=some (jP a b 1):=by
 unfold gf;rw[nq 47 r hf,h]
theorem Hj{lo hi a b:Int}{r:List Nat}{s:Nat}(hf:47∉r)(h:ig lo hi r=some (a,b))(hs:s<100)(hs1:1<=s):gf lo hi (r++47::num s)=some (jP a (if iJ r=true then hi else b) s):=by
 unfold gf;rw[qO 47 r _ hf,nq 47 _ (kf hs (by decide))];show jq lo hi r (num s)=_;unfold jq;rw[h,ra hs ⋯ ⋯]
end L2
namespace L2
open PySem PySem.Spec PyProof.Rows PySem.Builtin PySem.Builtin.Str
theorem K5:∀{ws:List (List Nat)} {vs:List Value},Vals (ws.map λq=>V.str (Tx q)) vs->StrsAre vs (ws.map Tx)
 |[],[],_=>.nil
 |[],_::_,h=>nomatch h
 |_::_,[],h=>nomatch h
 |w::r,v::vs,.cons h t=>by
  obtain⟨k,rfl⟩:=h;exact .cons (Tx w) k (K5 t)
theorem WN(c:Nat)(ws:List (List Nat)):Txt.join (Tx [c]) (ws.map Tx)=Tx (fU c ws):=by
 have e1:Txt.join (Tx [c]) (ws.map Tx)=Str.join (Tx [c]) (ws.map Tx):=StrLaws.glued_eq_join _ _;have e2:=sk c (ws.map Tx);rw[List.map_map] at e2;have e3:ws.map ((λx:Str=>x.cps.toList) ∘ Tx)=ws:=by
  have:∀l:List (List Nat),l.map ((λx:Str=>x.cps.toList) ∘ Tx)=l:=λl=>by
   induction l with
   |nil=>rfl
   |cons a r ih=>rw[bV,ih];simp
  exact this ws
 rw[e3] at e2;rw[e1,←Eu (Str.join (Tx [c]) (ws.map Tx)),e2]
theorem Ew(c:Nat):∀ws:List (List Nat),(ws.map (·.length)).sum+ws.length=(fU c ws).length+(if ws=[] then 0 else 1)
 |[]=>rfl
 |[p]=>by simp[fU]
 |p::q::r=>by
  have ih:=Ew c (q::r);rw[if_neg (by simp)] at ih ⊢;simp only[bV,List.sum_cons,bL,fU,aS] at ih ⊢;omega
section
variable{X:Cx}
def Md(K:FG):V->List V->Hp->VK->Prop:=λx vs H Q=>∃(c:Nat) (p:Addr) (ws:List (List Nat)),x=.str (Tx [c])/\vs=[.ref p]/\SqL K H p (ws.map λq=>V.str (Tx q))/\(fU c ws).length<=1000000/\Q (.str (Tx (fU c ws))) H
theorem Q3:mY X "str.join" (Md X.K):=by
 intro pins s σ H x xs v us Q I rx rv h;obtain⟨c,p,ws,rfl,rfl,hq,hz,q⟩:=h;obtain⟨u,rfl,r1⟩:=iH rv;cases r1;obtain⟨t,rfl⟩:=rx;obtain⟨its,rv2,pl,hz2⟩:=I.list hq;have hj:=Ew c ws;have hw:((ws.map Tx).map (·.length)).sum+(ws.map Tx).length<=1048576:=by
  rw[List.map_map,aQ];have e:ws.map ((λx:Str=>x.length) ∘ Tx)=ws.map (·.length):=List.map_congr_left λa _=>iy a;rw[e];split at hj<;>omega
 refine join_listW pl.isList (ys:=ws.map Tx) (by simpa using K5 rv2) (by rw[iy];show 1<=16;decide) hw λt' k=>?_;refine⟨.str (Tx (fU c ws)),H,I.kept (t':=k) λ_ _ e=>e,⟨t',by rw[WN]⟩,q⟩
theorem qy{o e:Expr}{to te:TE}{apos cpos:Pos}(ho:E X o to)(he:E X e te)(hbase:attributeBase o "join" X.env (eval o X.env)=eval o X.env:=by rfl)
  (hfew:((backTo cpos (starEach [e] X.env)).all (λx=> !x.1)&&(backToKw cpos (keywordEach [] X.env)).all (λx=>x.1.isSome)&&decide (([e]:List Expr).length+([]:List Keyword).length+(if ([]:List Keyword).isEmpty then 0 else 1)<30))=true:=by rfl)
  (hline:(apos.endLine==cpos.line)=true:=by rfl) (hs:starEach [e] X.env=(false,eval e X.env)::starEach [] X.env:=by rfl) (hplain:(backTo cpos (starEach [] X.env)).any (·.1)=false:=by rfl):
  E X (.Call (.Attribute o "join" apos) [e] [] cpos) (mH X.K "str" (Md X.K) to (iI te il)):=
 ⟨nr PySem.F.plainAttrs_str PySem.F.slot_str_join PySem.F.type_str_join Q3 ho.h (jR he.h kz hs) hbase hfew hline hs hplain⟩
theorem rH:gu X (binaryOp .Add) (λx y H Q=>∃(a b:Addr) (xs ys:List V),x=.ref a/\y=.ref b/\SqL X.K H a xs/\SqL X.K H b ys/\xs.length+ys.length<=sizeLine/\∀p,H p=none->Q (.ref p) (upd H p (.lst (xs++ys)))):=by
 refine⟨λpins s σ H x y v u Q I rx ry h=>?_⟩;obtain⟨a,b,xs,ys,rfl,rfl,ha,hb,hz,q⟩:=h;cases rx;cases ry;obtain⟨i1,r1,p1,z1⟩:=I.list ha;obtain⟨i2,r2,p2,z2⟩:=I.list hb;obtain⟨⟨cls,dd,data,sl⟩,ho,hc,n,hd⟩:=p1.isList;obtain⟨⟨cls2,dd2,data2,sl2⟩,ho2,hc2,n2,hd2⟩:=p2.isList;simp only at hc hd hc2 hd2;subst hc hd hc2 hd2;have l1:=r1.length;have l2:=r2.length;refine concat_meets ⟨_,ho,rfl⟩ ⟨_,ho2,rfl⟩ noFill_list_add seq_list_add PySem.F.slot_list_add PySem.F.entry_list_add (PySem.F.args_list_add_2 _ _) (list_addW a b _ _ n n2 dd dd2 sl sl2 (by simp only[bB];omega)) ⟨ho,ho2,?_⟩
 refine⟨.ref s.heap.objs.size,upd H s.heap.objs.size (.lst (xs++ys)),I.laid (t':=s.toks) (λb u e=>aU _ e) (aP _) ?_,rfl,q _ (I.hok.fresh (aP _))⟩;exact⟨by rw[aS];exact hz,i1++i2,0,r1.append r2,by simpa using bM _ rfl⟩
end
def vB(J:It)(k:Nat)(js:List Nat)(g:TG)(σ:St)(tt:TT)(te:TE)(Q:VK)(H1:Hp):Prop:=∀D,H1 D=none->∃W:Nat->Nat->Hp->Prop,(∃m,W 0 m (upd H1 D (.lst [])))/\∀i m H2,W i m H2->
 (J.stop i H2/\Q (.ref D) H2)∨(J.go i H2/\∀v H3,J.yld i H2 v H3->∀τ:St,τ.length=k->g v (τ++gy js σ) H3 λσ2 H3'=>(∃τ':St,τ'.length=k/\σ2=τ'++gy js σ)/\tt σ2 H3' λb H4=>if b=true then
  te σ2 H4 λy H5=>∃ys,H5 D=some (.lst ys)/\ys.length<sizeLine/\∃m',m'<m/\W (i+1) m' (upd H5 D (.lst (ys++[y])))
  else ∃m',m'<m/\W (i+1) m' H4)
def Fz(wi:TI)(k:Nat)(js:List Nat)(g:TG)(tt:TT)(te:TE):TE:=λσ H Q=>wi σ H λJ H1=>vB J k js g σ tt te Q H1
section
variable{X:Cx}{elt iter tg:Expr}{xs:List Str}{y:Str}{py pos spos:Pos}{ifs:List Expr}{scope:Scope}{cl:List (Str×Addr)}{N':List Str}{js:List Nat}{tt:TT}{te:TE}{g:TG}{wi:TI}
theorem W7{pins:List (Addr×Obj)}{σ:St}{H:Hp}{s s4:Shared}{fp:List Addr}{C:Addr}{m4:Str->Option Value}(hcl:jd X scope cl)(hN:js.map (λj=>X.N[j]?)=N'.map some)
  (hk:N'.all (λy=>(X.env.kindOf y==some .cell)||(X.env.kindOf y==some .free))=true) (hf:N'.all (λy=>scope.names.lookup y==some .free)=true)
  (I:Inv X pins σ H s) (hfp:∀b∈fp,jo X pins H b/\b<s.heap.objs.size) (hC:C=s.heap.objs.size) (ho:s4.os=s.os) (hg:s4.gens=s.gens) (hkeep:∀b o,s.heap.get? b=some o->s4.heap.get? b=some o) (hn:s4.heap.Ns C m4):
  Inv (gJ X (xs++N') scope cl C fp pins s H) [] (List.replicate xs.length none++gy js σ) H s4:=by
 have hne:∀b o,s.heap.get? b=some o->b≠C:=λb o e=>by rw[hC];exact aW (aR e)
 refine⟨⟨I.ok.mod,hcl.kind,I.ok.glob,I.ok.blt,Nat.le_of_eq hC.symm,λy z c h1 h2=>I.ok.inj y z c (hcl.sub y c h1) (hcl.sub z c h2),λy hy=>hcl.has y (Ot (λz=>hcl.nocell _ (PySem.mem_of_lookup z) rfl) (by rw[←tJ];exact hy)),λy c h _=>(nomatch h),I.ok.hd,I.ok.frames,.inl rfl,λb hb=>⟨?_,λy c e=>(hfp b hb).1.2.2.2.2.1 y c (hcl.sub y c e)⟩,
  I.bs,bK I.ok.bsz I.sz,λb o e hb=>?_,λb hb hz=>?_,I.stack,I.stkFree⟩,ho,by rw[hg];exact I.bare,Un.kept hkeep,⟨m4,hn,λi y v h1 h2 h3=>?_⟩,λy c e=>?_,?_,λy c e=>I.freeC y c (hcl.sub y c e),λp hp=>?_,I.hok.kept hkeep,?_⟩
 ·rw[hC];exact aW (hfp b hb).2
 ·rcases (hfp b hb).1.2.2.2.1 with z | z
  ·exact I.ok.noex b o e z
  ·exact absurd (bC (aR e) (bK I.ok.bsz z)) (cC _)
 ·rcases aT.mp (I.stkSub b hz) with z | z
  ·exact (hfp b hb).1.2.1 z
  ·exact (hfp b hb).1.2.2.1 z
 ·by_cases hi:i<xs.length
  ·rw[cH (by rw[cT];exact hi),List.getElem?_replicate,if_pos hi] at h2;exact nomatch h2
  ·obtain⟨j0,rfl⟩:∃j0,i=xs.length+j0:=⟨i-xs.length,⋯⟩;have h1:N'[j0]? =some y:=by
    have h1:(xs++N')[xs.length+j0]? =some y:=h1;rw[cF (c7 _ _),Nat.add_sub_cancel_left] at h1;exact h1
   have h2:(gy js σ)[j0]? =some (some v):=by rw[cF (by rw[cT];exact c7 _ _),cT,Nat.add_sub_cancel_left] at h2;exact h2
   generalize j0=i at h1 h2;have hy:y∈N':=aY h1;have q:(js.map (λj=>X.N[j]?))[i]? =some (some y):=by rw[hN,bG,h1];rfl
   rw[bG] at q;cases ej:js[i]? with
   |none=>rw[ej] at q;cases q
   |some j=>
    rw[ej] at q;have q:X.N[j]? =some y:=a8 q;unfold gy at h2;rw[bG,ej] at h2;have h2:(σ[j]?).getD none=some v:=a8 h2;have h2:σ[j]? =some (some v):=by
     cases e:σ[j]? with
     |none=>rw[e] at h2;cases h2
     |some o=>rw[e] at h2;exact congrArg some h2
    have kk:=b6.mp hk y hy;have kk:X.env.kindOf y=some .cell∨X.env.kindOf y=some .free:=by simpa using kk
    have ff:=b6.mp hf y hy;have ff:scope.names.lookup y=some .free:=by simpa using ff
    obtain⟨m,_,hl⟩:=I.loc;obtain⟨u,r,l⟩:=hl j y v q h2 (by rcases kk with z | z;exact .inr (.inl z);exact .inr (.inr z))
    refine⟨u,r,.inr ⟨Vy ff,?_⟩⟩;obtain⟨c,hc⟩:=hcl.has y ff;rcases l with ⟨z,_⟩ | ⟨_,c',e',cell⟩
    ·rcases kk with k | k<;>(rw[k] at z;cases z)
    ·rw[hcl.sub y c hc] at e';cases e';exact⟨c,hc,cell.keeps hkeep⟩
 ·obtain⟨v,q⟩:=I.cell y c (hcl.sub y c e);exact⟨v,q.keeps hkeep⟩
 ·show H C=none;rw[hC];exact I.hok.fresh (aP _)
 ·have hp:p∈X.pn++pins:=by
   have hp:p∈(X.pn++pins)++[]:=hp
   rwa [b8] at hp
  obtain⟨e,n,ne,nf,d⟩:=I.pin p hp;refine⟨hkeep _ _ e,n,hne _ _ e,λz=>?_,d⟩;rcases aT.mp (I.stkSub p.1 z) with z | z
  ·exact ne z
  ·exact nf z
 ·show (List.replicate xs.length none++gy js σ).length=(xs++N').length;rw[aS,aS,cT];have q:=congrArg List.length hN;rw[aQ,aQ] at q;unfold gy;rw[aQ,q]
theorem Nw{pins:List (Addr×Obj)}{σ σ':St}{H H':Hp}{s s':Shared}{fp:List Addr}{C:Addr}(I:Inv X pins σ H s)(hfp:∀b∈fp,jo X pins H b)(J:Inv (gJ X (xs++N') scope cl C fp pins s H) [] σ' H' s'):Inv X pins σ H' s':=
 I.call' (ch:=fp) J.os J.base J.hok J.bare λb hb=>⟨(hfp b hb).2.2.2.1,(hfp b hb).2.1,(hfp b hb).2.2.2.2.1,(hfp b hb).2.2.2.2.2⟩
theorem vf{pins:List (Addr×Obj)}{σ:St}{H:Hp}{s:Shared}{Q:VK}{RR:Value->Addr->Result->Shared->Prop}{J:It}{fp:List Addr}{it:Addr}{tn:Nat->Heap->Prop}
  (hcl:jd X scope cl) (hnd:(xs++N').Nodup) (hN:js.map (λj=>X.N[j]?)=N'.map some)
  (hk:N'.all (λy=>(X.env.kindOf y==some .cell)||(X.env.kindOf y==some .free))=true) (hf:N'.all (λy=>scope.names.lookup y==some .free)=true) (hc:X.calm=true)
  (hg:∀(C:Addr) (ex:List Addr) (pins:List (Addr×Obj)) (s:Shared) (H:Hp),PG (gJ X (xs++N') scope cl C ex pins s H) tg g)
  (ht:∀(C:Addr) (ex:List Addr) (pins:List (Addr×Obj)) (s:Shared) (H:Hp),PF (gJ X (xs++N') scope cl C ex pins s H) ifs tt)
  (he:∀(C:Addr) (ex:List Addr) (pins:List (Addr×Obj)) (s:Shared) (H:Hp),PE (gJ X (xs++N') scope cl C ex pins s H) elt te)
  (I:Inv X pins σ H s) (T:ij X.prog X.w X.K (tg) J fp it tn) (st:tn 0 s.heap) (hfp:∀b∈fp,jo X pins H b)
  (q:∀D,H D=none->∃W:Nat->Nat->Hp->Prop,(∃m,W 0 m (upd H D (.lst [])))/\∀i m H2,W i m H2->
   (J.stop i H2/\Q (.ref D) H2)∨(J.go i H2/\∀v H3,J.yld i H2 v H3->∀τ:St,τ.length=xs.length->g v (τ++gy js σ) H3 λσ2 H3'=>(∃τ':St,τ'.length=xs.length/\σ2=τ'++gy js σ)/\tt σ2 H3' λb H4=>if b=true then
    te σ2 H4 λy H5=>∃ys,H5 D=some (.lst ys)/\ys.length<sizeLine/\∃m',m'<m/\W (i+1) m' (upd H5 D (.lst (ys++[y])))
    else ∃m',m'<m/\W (i+1) m' H4))
  (hRR:∀(D C:Addr) (s':Shared) (H':Hp) (m:Str->Option Value),Inv X pins σ H' s'->H' C=none->C≠X.env.locals->X.s₀.heap.objs.size<=C->(∀y c,X.env.cells.lookup y=some c->c≠C)->(∀p∈X.pn++pins,p.1≠C)->s'.heap.Ns C m->Q (.ref D) H'->RR (.ref D) C (.ok .next) s'):
  wpAny (model X.prog X.w) X.A (newList []) (λacc s₃=>wpAny (model X.prog X.w) X.A (newFunctionEnv scope X.env.globals cl [] X.env.qual none .none (some X.env)) (λcenv s₄=>
   codeAny (model X.prog X.w) X.A (.compStart (.ListComp elt [⟨tg,iter,ifs,0⟩] scope pos) 0 (.ref it) acc {cenv with scope:=relabel scope X.env}) (RR acc cenv.locals) s₄) X.xe s₃) X.xe s:=by
 refine dQ ?_;have hD:H s.heap.objs.size=none:=I.hok.fresh (aP _);have I3:Inv X pins σ (upd H s.heap.objs.size (.lst [])) {s with heap:=s.heap.push {cls:=.type "list",dict:=none,data:=.seq ([]:List Value).toArray} }:=I.lnew (its:=[]) (t':=s.toks) .nil (bD _);have hfp3:∀b∈fp,jo X pins (upd H s.heap.objs.size (.lst [])) b/\b<(s.heap.push {cls:=.type "list",dict:=none,data:=.seq ([]:List Value).toArray}).objs.size:=λb hb=>by
  obtain⟨o,ho,_⟩:=T.obj 0 _ st b hb;have hlt:=aR ho;obtain⟨f0,f1⟩:=hfp b hb;exact⟨⟨by rw[fh (aW hlt)];exact f0,f1⟩,by rw[Heap.size_push];exact cJ hlt⟩
 have st3:tn 0 (s.heap.push {cls:=.type "list",dict:=none,data:=.seq ([]:List Value).toArray}):=T.keep _ _ _ st λb _ o e=>aU _ e;obtain⟨W,⟨m0,w0⟩,turn⟩:=q s.heap.objs.size hD;generalize hs3:({s with heap:=s.heap.push {cls:=.type "list",dict:=none,data:=.seq ([]:List Value).toArray} }:Shared)=s3 at I3 ⊢;have hh3:s.heap.push {cls:=.type "list",dict:=none,data:=.seq ([]:List Value).toArray}=s3.heap:=by rw[←hs3]
 rw[hh3] at hfp3 st3;generalize s.heap.objs.size=D at I3 hfp3 w0 turn hD ⊢;generalize upd H D (.lst [])=H3 at I3 hfp3 w0;refine wpAny_newFunctionEnv hcl.nocell (by intro y hy;simp at hy) (λh₁ hns₁ hsb₁=>?_) hcl.kind;have hkeep:∀b o,s3.heap.get? b=some o->h₁.get? b=some o:=λb o e=>hsb₁.extBut b o (aW (aR e)) (aU _ e);have J4:Inv (gJ X (xs++N') scope cl s3.heap.objs.size fp pins s3 H3) [] (List.replicate xs.length none++gy js σ) H3 {s3 with heap:=h₁,toks:=s3.toks+([]:List (Str×Value)).length}:=
  W7 hcl hN hk hf I3 hfp3 rfl rfl rfl hkeep hns₁
 have st4:tn 0 h₁:=T.keep _ _ _ st3 λb _ o e=>hkeep b o e;have cell':∀{s':Shared} {σ':St} {H':Hp},Inv (gJ X (xs++N') scope cl s3.heap.objs.size fp pins s3 H3) [] σ' H' s'->Q (.ref D) H'->RR (.ref D) s3.heap.objs.size (.ok .next) s':=λ{s' σ' H'} J hq=>by
  obtain⟨m,hn,_⟩:=J.loc;refine hRR D _ s' H' m (Nw I3 (λb hb=>(hfp3 b hb).1) J) J.free (Nat.ne_of_gt I3.lt) I3.sz (λy c e z=>?_) (λp hp z=>?_) hn hq
  ·obtain⟨v,k⟩:=I3.cell y c e;exact absurd k.lt (by rw[z];exact cC _)
  ·exact absurd (aR (I3.pin p hp).1) (by rw[z];exact cC _)
 have fpX:∀{H':Hp},(∀b∈fp,H' b=none)->∀b∈fp,jo (gJ X (xs++N') scope cl s3.heap.objs.size fp pins s3 H3) [] H' b:=λ{H'} hn b hb=>by
  obtain⟨⟨f0,f1,f2,f3,f4,f5⟩,flt⟩:=hfp3 b hb;refine⟨hn b hb,aW flt,λz=>?_,.inl hb,λy c e=>f4 y c (hcl.sub y c e),λp hp=>?_⟩
  ·rcases aT.mp (I3.stkSub b z) with z | z
   ·exact f1 z
   ·exact f2 z
  ·have hp:p∈(X.pn++pins)++[]:=hp;rw[b8] at hp;exact f5 p hp
 have loop:∀s₄:Shared,s₄={s3 with heap:=h₁,toks:=s3.toks+([]:List (Str×Value)).length}->
   codeAny (model X.prog X.w) X.A (.compLoop (.ListComp elt [⟨tg,iter,ifs,0⟩] scope pos) 0 (.ref it) (.ref D) (compEnvC scope cl s3.heap.objs.size X.env)) (RR (.ref D) s3.heap.objs.size) s₄:=by
  rintro s₄ rfl;refine M5 rfl (λn s'=>∃i τ H',τ.length=xs.length/\Inv (gJ X (xs++N') scope cl s3.heap.objs.size fp pins s3 H3) [] (τ++gy js σ) H' s'/\tn i s'.heap/\(∀b∈fp,H' b=none)/\W i n H') ?_ m0 ⟨0,List.replicate xs.length none,H3,cT,J4,st4,λb hb=>(hfp3 b hb).1.1,w0⟩;rintro n s5 ⟨i,τ,H5,hτ,J5,st5,fr5,w5⟩;rcases turn i n H5 w5 with ⟨stop,qn⟩ | ⟨go,step⟩
  ·refine dU (T.done (gJ X (xs++N') scope cl s3.heap.objs.size fp pins s3 H3) rfl rfl rfl hc i [] s5 _ H5 (λ_ _=>False) J5 (fpX fr5) st5 stop) (λr s6 ⟨hr,J6⟩=>?_) λ_ _ z=>z.elim;subst hr;exact cell' J6 qn
  ·refine dU (T.item (gJ X (xs++N') scope cl s3.heap.objs.size fp pins s3 H3) rfl rfl rfl hc i [] s5 _ H5 (λ_ _=>False) J5 (fpX fr5) st5 go) (λr s6 ⟨u,hr,h6⟩=>?_) λ_ _ z=>z.elim;subst hr;refine dU h6 (λ_ s6' h6'=>?_) λ_ _ z=>z.elim;obtain⟨v,H6,J6,r6,y6,st6,fr6⟩:=h6';clear h6;have J6':=J6.pinned (fpX fr6) (T.obj _ _ st6);show wpAny _ _ (assign tg _ u) _ _ _;refine dU (hg _ _ _ _ _ _ s6' _ H6 v u _ J6' r6 (step v H6 y6 τ hτ)) (λ_ s7 h7=>?_) λ_ _ z=>z.elim
   obtain⟨_,H7,J7,⟨τ',hτ',rfl⟩,q7⟩:=h7;have again:∀{σ8:St} {H8:Hp} {s8:Shared},Inv (gJ X (xs++N') scope cl s3.heap.objs.size fp pins s3 H3) ([]++pz fp s6'.heap) σ8 H8 s8->tn (i+1) s8.heap/\∀b∈fp,H8 b=none:=λ{σ8 H8 s8} J8=>by
    refine⟨T.keep _ _ _ st6 λb hb o e=>(J8.pin (b,o) (bO _ (bO _ (pL hb e)))).1,λb hb=>?_⟩;obtain⟨o,e,d⟩:=T.obj _ _ st6 b hb;exact (J8.pin (b,o) (bO _ (bO _ (pL hb e)))).2.1
   refine dU (ht _ _ _ _ _ _ s7 _ H7 _ J7 q7) (λok s8 ⟨H8,J8,q8⟩=>?_) λ_ _ z=>z.elim;cases ok with
   |false=>
    obtain⟨m',hm,w8⟩:=(show ∃m',m'<n/\W (i+1) m' H8 from q8);obtain⟨a1,a2⟩:=again J8;exact⟨m',hm,i+1,τ',H8,hτ',J8.unpinned,a1,a2,w8⟩
   |true=>
    refine dU (he _ _ _ _ _ _ s8 _ H8 _ J8 q8) (λy s9 ⟨z,H9,J9,r9,ys,hys,hlen,m',hm,w9⟩=>?_) λ_ _ z=>z.elim;refine dU (Ad (X:=gJ X (xs++N') scope cl s3.heap.objs.size fp pins s3 H3) _ s9 _ H9 (.ref D) [z] (.ref D) [y] (λ_ H10=>H10=upd H9 D (.lst (ys++[z]))) J9 rfl (.cons r9 .nil) ⟨D,ys,z,rfl,rfl,hys,hlen,rfl⟩) (λ_ s10 ⟨_,H10,J10,_,e10⟩=>?_) λ_ _ z=>z.elim;subst e10;obtain⟨a1,a2⟩:=again J10;exact⟨m',hm,i+1,τ',_,hτ',J10.unpinned,a1,a2,w9⟩
 exact codeAny_compStart_list (loop _ rfl) (T.self _ 0 _ _ _ st4 (loop _ rfl))
theorem Qc(hcl:jd X scope cl)(hnd:(xs++N').Nodup)(hN:js.map (λj=>X.N[j]?)=N'.map some)
  (hk:N'.all (λy=>(X.env.kindOf y==some .cell)||(X.env.kindOf y==some .free))=true) (hf:N'.all (λy=>scope.names.lookup y==some .free)=true) (hc:X.calm=true)
  (hi:PI X (tg) iter wi)
  (hg:∀(C:Addr) (ex:List Addr) (pins:List (Addr×Obj)) (s:Shared) (H:Hp),PG (gJ X (xs++N') scope cl C ex pins s H) tg g)
  (ht:∀(C:Addr) (ex:List Addr) (pins:List (Addr×Obj)) (s:Shared) (H:Hp),PF (gJ X (xs++N') scope cl C ex pins s H) ifs tt)
  (he:∀(C:Addr) (ex:List Addr) (pins:List (Addr×Obj)) (s:Shared) (H:Hp),PE (gJ X (xs++N') scope cl C ex pins s H) elt te)
  (hs:∀x,foldedSetIterable iter X.env x=pure x:=by intro _;rfl):
  PE X (.ListComp elt [⟨tg,iter,ifs,0⟩] scope pos) (Fz wi xs.length js g tt te):=by
 intro pins s σ H Q I h;rw[eval_ListComp];refine wpAny_comprehension_free (use:=none) rfl hs hcl.is hcl.kind hcl.names (fg (hi pins s σ H _ I h) λxv s₁ h₁=>fg h₁ λitv s₂ h₂=>?_);obtain⟨it,fp,tn,J,H2,rfl,I2,T,st,hfp,q⟩:=h₂;refine vf (RR:=λacc C=>compPost (model X.prog X.w) X.A X.xe none (EP X pins σ Q) acc C) hcl hnd hN hk hf hc hg ht he I2 T st hfp q ?_;intro D C s' H' m I' hC0 hCL hCs hCc hCp hn hq
 refine⟨m,hn,λh' sb=>⟨.ref D,H',?_,rfl,hq⟩⟩;exact I'.turned (t':=s'.toks) (λb o hb e=>(sb.2 b hb).trans e) hC0 hCL (.inr hCs) hCc hCp
theorem NP(xs N':List Str)(js:List Nat)(hi:Il X (tg) iter wi)
  (hg:∀(cl:List (Str×Addr)) (C:Addr) (ex:List Addr) (pins:List (Addr×Obj)) (s:Shared) (H:Hp),Gt (gJ X (xs++N') scope cl C ex pins s H) tg g)
  (ht:∀(cl:List (Str×Addr)) (C:Addr) (ex:List Addr) (pins:List (Addr×Obj)) (s:Shared) (H:Hp),Fs (gJ X (xs++N') scope cl C ex pins s H) ifs tt)
  (he:∀(cl:List (Str×Addr)) (C:Addr) (ex:List Addr) (pins:List (Addr×Obj)) (s:Shared) (H:Hp),E (gJ X (xs++N') scope cl C ex pins s H) elt te)
  (hcl:∃cl,jd X scope cl:=by exact wm rfl rfl rfl rfl) (hnd:(xs++N').Nodup:=by decide +kernel) (hN:js.map (λj=>X.N[j]?)=N'.map some:=by rfl)
  (hk:N'.all (λy=>(X.env.kindOf y==some .cell)||(X.env.kindOf y==some .free))=true:=by rfl) (hf:N'.all (λy=>scope.names.lookup y==some .free)=true:=by rfl) (hc:X.calm=true:=by rfl)
  (hs:∀x,foldedSetIterable iter X.env x=pure x:=by intro _;rfl):E X (.ListComp elt [⟨tg,iter,ifs,0⟩] scope pos) (Fz wi xs.length js g tt te):=by
 obtain⟨cl,hcl⟩:=hcl;exact⟨Qc hcl hnd hN hk hf hc hi.h (λC ex pins s H=>(hg cl C ex pins s H).h) (λC ex pins s H=>(ht cl C ex pins s H).h) (λC ex pins s H=>(he cl C ex pins s H).h) hs⟩
variable{σ:St}{Q:VK}{H1:Hp}
end
theorem k7{X:Cx}{pos:Pos}{K:FG}{es:List Expr}{k n:Nat}{t:iV}(h:nX X es t)(hK:X.K=K:=by rfl)(hc:X.calm=true:=by rfl)(hn:(assignEach es X.env).length=n:=by rfl)(hst:(assignEach es X.env).findIdx? (·.1)=none:=by rfl):Gt X (.Tuple es k pos) (pR K n t):=by
 subst hK;exact SY h hc hn hst
end L2
namespace L2
open PySem PySem.Spec PyProof.Rows PySem.SeqAt
section
variable{X:Cx}
theorem i8{K:FG}{tg e:Expr}{te:TE}(hl:E X e te)(hK:X.K=K:=by rfl):Il X tg e (rX K te):=by
 subst hK;exact iL hl
variable{M:Model}{A:Around}{E:Value->Shared->Prop}{s:Shared}{f:Obj->Prop}{B:Heap}{env:Env}{outer l:List Env}{L e:Addr}{fl:Value}{Q:Unit->Shared->Prop}
end
theorem ObjOk.at{P:Program}{w:World}{H:Hp}{h:Heap}{a:Addr}{o:HO}(x:ObjOk P w H h a o):∃ob,h.get? a=some ob:=by
 induction o with
 |lst xs=>obtain⟨_,_,_,_,e⟩:=x;exact⟨_,e⟩
 |tup xs=>obtain⟨_,_,_,ob,e,_⟩:=x;exact⟨_,e⟩
 |dK kvs=>obtain⟨_,_,_,_,ob,_,_,e,_⟩:=x;exact⟨_,e⟩
 |dT kvs=>obtain⟨_,_,_,_,ob,_,_,e,_⟩:=x;exact⟨_,e⟩
 |set S n=>obtain⟨ob,_,_,_,e,_⟩:=x;exact⟨_,e⟩
 |ins C dx fs=>obtain⟨_,_,_,e,_⟩:=x;exact⟨_,e⟩
 |own y=>exact x
 |xd fs=>obtain⟨_,⟨ob,_,_,e,_⟩,_⟩:=x;exact⟨_,e⟩
 |rng lo hi=>obtain⟨_,_,_,e⟩:=x;exact⟨_,e⟩
 |frz ob u ih=>exact⟨_,x.1⟩
 |tbl ps=>exact⟨_,x⟩
 |met f y=>exact⟨_,x⟩
 |ext φ=>exact x.2.1
def Ex(C:Addr)(d:Option Addr)(b:Bool)(o:Obj):Prop:=o.cls=.ref C/\o.dict=d/\∃vs,o.data=.fields vs/\(b=true->vs[2]? =some .none)
noncomputable def wc(C:Addr):Value:=.int C 0
noncomputable def cv(C:Addr):Bool->Value
 |true=>.ref C
 |false=>wc C
def N1(g h:Heap)(H:Hp)(a C:Addr)(d:Option Addr)(b:Bool):Prop:=
 H a=none/\g.get? a=none/\∃(o:Obj) (vs:Array Value) (T:Addr) (oT:Obj) (ts:Array Value),(h.get? a=some o/\o.data=.fields vs/\vs[1]? =some (.ref T)/\Ex C d b o)/\
  (h.get? T=some oT/\oT.data=.fields ts/\ts[3]? =some .none)/\(H T=none/\g.get? T=none)/\T≠a
def PN(P:Program)(w:World):jV:=λouter H s E e s'=>
 ∃a C d b H',e=.ref a/\s'.os=s.os/\AllBare s'.gens/\Un (jm outer) [] H H' s.heap s'.heap/\HOk P w H' s'.heap/\N1 s.heap s'.heap H' a C d b/\E (cv C b) d H'
noncomputable abbrev yr:List Value:=[.type "ValueError",.type "Exception",.type "BaseException",.type "object"]
structure Xc(K:FG)(mg:Str->Option Value)(x:Str)(C:Addr):Prop where
 m:mg x=some (.ref C)
 n:PySem.W.nsIn K mainGlobals x=some (some (.ref C))
 q:PySem.W.excIn K C yr "ValueError.__new__"=true
theorem Mod.top{K:FG}{mg:Str->Option Value}{base:Heap}(m:Mod K mg base)(p:Program):∃loose mb,PySem.W.TopRead p loose mg mb base:=by
 obtain⟨mb,b1,b2⟩:=m.blt;obtain⟨o,es,ep,ho,hd,hk,hf⟩:=id m.glob;refine⟨es.toList.filterMap λe=>match e.key with | .str y _=>some y | _=>none,mb,m.glob,b1,m.nolimit,b2,λx _ hx _ _ _=>?_⟩
 rw[←hf];have none_:es.find? (λe=>e.key.isStr x)=none:=by
  rw[Array.find?_eq_none];intro e he hs;obtain⟨y,t,ek⟩:=hk e he;refine hx (List.mem_filterMap.mpr ⟨e,by simpa using he,?_⟩);rw[ek] at hs ⊢;have:y=x:=by simpa [Value.isStr] using hs
  rw[this]
 show (es.find? λe=>e.key.isStr x).map (·.val)=none;rw[none_];rfl
theorem Xc.own{K:FG}{mg:Str->Option Value}{base:Heap}{x:Str}{C:Addr}(c:Xc K mg x C)(m:Mod K mg base)(p:Program):OwnCls x C yr "ValueError.__new__" mg base:=by
 obtain⟨loose,mb,T⟩:=m.top p;exact PySem.W.own_of_in m.kin T c.n c.q
def XP(X:Cx)(pins:List (Addr×Obj))(σ:St)(E:XK)(e:Value)(s':Shared):Prop:=∃s1 H1,Inv X pins σ H1 s1/\PN X.prog X.w X.stack H1 s1 E e s'
noncomputable abbrev TX:=St->Hp->VK->XK->Prop
noncomputable abbrev TB:=gC->St->Hp->XK->Prop
noncomputable def xo(a C:Addr)(d:Option Addr)(b:Bool):HO:=.ext λh=>∃o,h.get? a=some o/\Ex C d b o
def AtC(a C:Addr)(h:Heap):Prop:=∃o vs,h.get? a=some o/\o.cls=.ref C/\o.data=.fields vs
theorem AtC.ty{M:Model}{a C:Addr}{h:Heap}(x:AtC a C h):PySem.W.Looks M h (typeOf (.ref a)) (.ref C):=by
 obtain⟨o,vs,h1,h2,_⟩:=x;exact h2▸(PySem.W.Looks.ld h1).andThen .now
section
open PySem.W
variable{prog:Program}{w:World}{A:Around}{E:Value->Shared->Prop}{s:Shared}{K:FG}{a C:Addr}
open Builtin Builtin.ObjectAttr Builtin.Getset_descriptor in
open Builtin Builtin.ObjectAttr in
variable{X:Cx}{body suite:List Stmt}{b0:Stmt}{tb:TB}{th:Addr->TS}{cx:Str}{np hpos pos:Pos}{CF:Addr}
variable{e:Addr}{d:Option Addr}
variable{env:Env}
end
noncomputable def Kd.wh:Kd->Bool
 |.int=>true
 |_=>false
theorem KindV.same{K:FG}{H H':Hp}{v:V}{k:Kd}(h:KindV K H v k)(s:Same H H'):KindV K H' v k:=by
 cases v with
 |ref a=>
  rcases h with ⟨e,xs,h⟩ | ⟨e,xs,h⟩ | ⟨e,xs,h⟩
  ·exact .inl ⟨e,xs,s.seq h⟩
  ·refine .inr (.inl ⟨e,xs,?_⟩);rcases h with (h | ⟨o,h⟩) | h
   ·exact .inl (.inl (s _ _ h))
   ·exact .inl (.inr ⟨o,s _ _ h⟩)
   ·exact .inr h
  ·exact .inr (.inr ⟨e,xs,s _ _ h⟩)
 |int i=>exact h
 |bl b=>exact h
 |str x=>exact h
 |non=>exact h
 |byt b=>exact h
 |flt b=>exact h
 |ty n=>exact h
noncomputable def ix(l:List Nat)(lo hi:Option Int):List Nat:=(l.drop (HT.sIx l.length 0 lo)).take (HT.sIx l.length l.length hi-HT.sIx l.length 0 lo)
theorem EM(v:Option Int)(n d:Nat):(match v with | none=>(d:Int) | some i=>max 0 (min (if i<0 then i+(n:Int) else i) (n:Int)))=((HT.sIx n d v:Nat):Int):=by
 cases v with
 |none=>rfl
 |some i=>
  show max 0 (min (if i<0 then i+(n:Int) else i) (n:Int))=(((if i<0 then (i+(n:Int)).toNat else min i.toNat n):Nat):Int);by_cases h:i<0
  ·rw[if_pos h,if_pos h];omega
  ·rw[if_neg h,if_neg h];omega
theorem yA(lo hi:Option Int)(n:Nat):Builtin.Str.strSliceIndices lo hi 1 n=sliceRange ((HT.sIx n 0 lo:Nat):Int) ((HT.sIx n n hi:Nat):Int) 1:=by
 unfold Builtin.Str.strSliceIndices;simp only[show ((1:Int)>0)=True from by simp,if_true];rw[←EM lo n 0,←EM hi n n];cases lo<;>cases hi<;>rfl
theorem K7(a b:Nat):sliceRange (a:Int) (b:Int) 1=(List.range (b-a)).map λk=>a+k:=by
 rcases bP a b with c | c
 ·have up:(a:Int)<b:=⋯;have many:(((b:Int)-a+1-1) / 1).toNat=b-a:=by rw[Int.ediv_one];omega
  have e:∀k:Nat,((a:Int)+1*(k:Int)).toNat=a+k:=λk=>by omega
  simp only[sliceRange,gt_iff_lt,Int.one_pos,if_true,up,many,e]
 ·have no:¬((a:Int)<b):=⋯;have z:b-a=0:=⋯;simp only[sliceRange,gt_iff_lt,Int.one_pos,if_true,no,if_false,z,List.range_zero,List.map_nil];rfl
theorem SI(l:List Nat)(n a:Nat):((List.range n).map λk=>a+k).filterMap (λi=>(Tx l).cps[i]?)=(l.drop a).take n:=by
 rw[List.filterMap_map];induction n with
 |zero=>rw[List.take_zero];rfl
 |succ n ih=>
  have one:[n].filterMap ((λi=>(Tx l).cps[i]?) ∘ λk=>a+k)=(l[a+n]?).toList:=by
   show List.filterMap _ [n]=_;cases e:l[a+n]? <;>simp[e]
  rw[cY,dM,ih,one,cG,List.getElem?_drop]
theorem XB(l:List Nat)(lo hi:Option Int):(Builtin.Str.strSliceIndices lo hi 1 l.length).filterMap (λi=>(Tx l).cps[i]?)=ix l lo hi:=by
 rw[yA,K7,SI];rfl
theorem Ti(l:List Nat)(lo hi:Option Int)(h:(Builtin.Str.strSliceIndices lo hi 1 l.length).length=l.length):ix l lo hi=l:=by
 rw[yA,K7,aQ,cA] at h;have h1:=HT.sIx_le l.length l.length (aP _) hi;have e1:HT.sIx l.length 0 lo=0∨l.length=0:=⋯;unfold ix;rcases e1 with e | e
 ·rw[e];have:HT.sIx l.length l.length hi=l.length:=⋯;rw[this];simp
 ·have:l=[]:=c8 e;subst this;simp
theorem qT(l:List Nat)(lo hi:Option Int):(ix l lo hi).length<=l.length:=by
 unfold ix;rw[b9,cU];omega
section
variable{X:Cx}
def wg:V->Option Int->Option Int->Hp->VK->Prop:=λx lo hi H Q=>∃l:List Nat,x=.str (Tx l)/\l.length<=sizeLine/\Q (.str (Tx (ix l lo hi))) H
theorem ug:ny X wg:=by
 refine⟨λpins s σ H x v vl vu lo hi sl Q I rx hs pl pu h=>?_⟩;obtain⟨l,rfl,hz,q⟩:=h;obtain⟨t,rfl⟩:=rx;refine⟨"str",_,PySem.F.slot_str_getitem.lookup,typeIs_str _ _ _,?_⟩;obtain⟨o,ho,hc,hd⟩:=hs;have fB:∀(a b:Option (Int×Tok)),o.data=.fields #[partValue a,partValue b,.none]->a.map (·.1)=lo->b.map (·.1)=hi->wpAny (model X.prog X.w) X.A (getItem (.str (Tx l) t) (.ref sl)) (EP X pins σ Q) X.xe s:=λa b hd ea eb=>by
  refine wpAny_getItem_str_slice (l:=a) (u:=b) (st:=none) ⟨o,ho,hc,hd⟩ rfl ?_;have ep:slicePicked (Tx l) a b none=Builtin.Str.strSliceIndices lo hi 1 l.length:=by unfold slicePicked;rw[ea,eb,iy];rfl
  unfold sliceMade;rw[ep];split
  ·next hw=>
   have hw2:(Builtin.Str.strSliceIndices lo hi 1 l.length).length=l.length:=by
    have:=(Bool.and_eq_true_iff.mp hw).2;rw[iy] at this;exact beq_iff_eq.mp this
   show EP X pins σ Q _ s;rw[Ti l lo hi hw2] at q;exact⟨.str (Tx l),H,I,⟨t,rfl⟩,q⟩
  ·rw[XB];exact⟨by rw[iy];exact bK (qT l lo hi) hz,⟨.str (Tx (ix l lo hi)),H,I.tok _,⟨()⟩,q⟩⟩
 cases pl with
 |none=>
  cases pu with
  |none=>exact fB none none hd rfl rfl
  |int j tj=>exact fB none (some (j,tj)) hd rfl rfl
 |int i ti=>
  cases pu with
  |none=>exact fB (some (i,ti)) none hd rfl rfl
  |int j tj=>exact fB (some (i,ti)) (some (j,tj)) hd rfl rfl
theorem Jh(m:Nat):num m≠[]:=λe=>Nat.toDigits_ne_nil (List.map_eq_nil_iff.mp e)
variable{prog:Program}{w:World}{A:Around}{E:Value->Shared->Prop}{s:Shared}{I:Addr}{fp wr:List Addr}{G:Array GenState->Array GenState->Prop}{n:Nat}{P:Nat->Value->Prop}{St:Nat->Shared->Prop}
variable{o e:Expr}{to te:TE}{p rpos apos cpos:Pos}
end
theorem uk{n:Nat}(h:n<10):num n=[48+n]:=by
 have:∀n:Nat,n<10->num n=[48+n]:=by decide +kernel
 exact this n h
theorem zX{n:Nat}(h:10<=n):num n=num (n / 10)++[48+n%10]:=by
 have hm:n%10<10:=Nat.mod_lt n (by decide);have t:Nat.toDigits 10 (n / 10)++Nat.toDigits 10 (n%10)=Nat.toDigits 10 (10*(n / 10)+n%10):=Nat.toDigits_append_toDigits (by decide) ⋯ hm;rw[Nat.div_add_mod] at t;unfold num;rw[←t,bE];have:=uk hm;unfold num at this;rw[this]
theorem Xs(k:Nat):∀n:Nat,(num n).length<=k+1↔n<10^(k+1):=by
 induction k with
 |zero=>
  intro n;by_cases h:n<10
  ·rw[uk h];simp;omega
  ·rw[zX ⋯,aS];have:(num (n / 10)).length≠0:=λe=>Jh _ (c8 e);have e:(10:Nat)^(0+1)=10:=rfl;rw[e];simp only[bL,List.length_nil];omega
 |succ k ih=>
  intro n;have h2:10^(k+1+1)=10*10^(k+1):=by rw[Nat.pow_succ,Nat.mul_comm]
  have h0:0<10^(k+1):=Nat.pow_pos (by decide);by_cases h:n<10
  ·rw[uk h];simp;omega
  ·rw[zX ⋯,aS];have:=ih (n / 10);simp only[bL,List.length_nil];omega
theorem uu(c:Nat)(l:List Nat):ix (c::l) (some 1) none=l:=by
 unfold ix HT.sIx;simp
theorem kH{X:Cx}{e:Expr}{t u:TE}(h:E X e t)(h':E X e u):E X e (λσ H Q=>t σ H Q∨u σ H Q):=
 ⟨λpins s σ H Q I z=>z.elim (λz=>h.h pins s σ H Q I z) λz=>h'.h pins s σ H Q I z⟩
section
variable{κ:Type}[DecidableEq κ]
noncomputable def jS(kvs:List (κ×V))(k:κ):Option V:=(kvs.find? λkv=>decide (kv.1=k)).map (·.2)
noncomputable def qo(kvs:List (κ×V))(k:κ)(v:V):List (κ×V):=
 if (kvs.any λkv=>decide (kv.1=k))=true then kvs.map (λkv=>if kv.1=k then (kv.1,v) else kv) else kvs++[(k,v)]
theorem FM{p:κ×V}{r:List (κ×V)}{k:κ}(e:p.1=k):jS (p::r) k=some p.2:=by simp[jS,c9,e]
theorem La{p:κ×V}{r:List (κ×V)}{k:κ}(e:¬p.1=k):jS (p::r) k=jS r k:=by simp[jS,c9,e]
theorem KV.val{kvs:List (κ×V)}{vs:List (κ×Value)}(r:KV kvs vs)(k:κ):RelO (jS kvs k) (valueAt vs k):=by
 unfold KV at r;induction r with
 |nil=>exact True.intro
 |@cons p q ps qs h t ih=>
  obtain⟨h1,h2⟩:=h;by_cases e:p.1=k
  ·have e':q.1=k:=h1.symm.trans e;have b:valueAt (q::qs) k=some q.2:=by simp[valueAt,c9,e']
   rw[FM e,b];exact h2
  ·have e':¬q.1=k:=λz=>e (h1.trans z);have b:valueAt (q::qs) k=valueAt qs k:=by simp[valueAt,c9,e']
   rw[La e,b];exact ih
theorem KV.any{kvs:List (κ×V)}{vs:List (κ×Value)}(r:KV kvs vs)(k:κ):(kvs.any λkv=>decide (kv.1=k))=vs.any λkv=>decide (kv.1=k):=by
 unfold KV at r;induction r with
 |nil=>rfl
 |cons h t ih=>rw[bT,bT,ih,h.1]
theorem KV.length{kvs:List (κ×V)}{vs:List (κ×Value)}(r:KV kvs vs):kvs.length=vs.length:=Paired.length r
end
theorem XE{P:Program}{w:World}{k:fO}{u:Value}(r:RelV (kV k) u):(lG P w).is k u=true:=by
 cases k with
 |inl i=>obtain⟨t,e⟩:=(show ∃t,u=Value.int i t from r);subst e;exact WP P w i t
 |inr x=>obtain⟨t,e⟩:=(show ∃t,u=Value.str x t from r);subst e;exact WV P w x t
abbrev KT(H:Hp):List (List fO×V)->List (List fO×Addr×Value)->Prop:=Paired λp q=>p.1=q.1/\TupK H q.2.1 p.1/\RelV p.2 q.2.2
theorem KT.val{H:Hp}{kvs:List (List fO×V)}{xs:List (List fO×Addr×Value)}(r:KT H kvs xs)(k:List fO):RelO (jS kvs k) ((atKey xs k).map (·.2)):=by
 induction r with
 |nil=>exact True.intro
 |@cons p q ps qs h t ih=>
  obtain⟨h1,_,h2⟩:=h;by_cases e:p.1=k
  ·have e':q.1=k:=h1.symm.trans e;have b:atKey (q::qs) k=some q.2:=by simp[atKey,c9,e']
   rw[FM e,b];exact h2
  ·have e':¬q.1=k:=λz=>e (h1.trans z);have b:atKey (q::qs) k=atKey qs k:=by simp[atKey,c9,e']
   rw[La e,b];exact ih
theorem KT.keeps{H H':Hp}{kvs:List (List fO×V)}{xs:List (List fO×Addr×Value)}(r:KT H kvs xs)(ht:∀b ys,H b=some (.tup ys)->H' b=some (.tup ys)):KT H' kvs xs:=
 Paired.mapP r λ_ _ z=>⟨z.1,z.2.1.keeps ht,z.2.2⟩
def DGet(H:Hp)(a:Addr)(y:V)(r:Option V):Prop:=
 (∃kvs k,Rd H a (.dK kvs)/\y=kV k/\r=jS kvs k)∨∃kvs k b,Rd H a (.dT kvs)/\y=.ref b/\TupK H b k/\r=jS kvs k
def DPut(H:Hp)(a:Addr)(y v:V)(H':Hp):Prop:=
 (∃kvs k,H a=some (.dK kvs)/\y=kV k/\kvs.length<sizeLine/\H'=upd H a (.dK (qo kvs k v)))∨
 ∃kvs k b,H a=some (.dT kvs)/\y=.ref b/\TupK H b k/\kvs.length<sizeLine/\H'=upd H a (.dT (qo kvs k v))
theorem DGet.k{H:Hp}{a:Addr}{kvs:List (fO×V)}{k:fO}(e:H a=some (.dK kvs)):DGet H a (kV k) (jS kvs k):=.inl ⟨kvs,k,.inl e,rfl,rfl⟩
theorem DGet.t{H:Hp}{a b:Addr}{kvs:List (List fO×V)}{k:List fO}(e:H a=some (.dT kvs))(eb:TupK H b k):DGet H a (.ref b) (jS kvs k):=.inr ⟨kvs,k,b,.inl e,rfl,eb,rfl⟩
theorem DPut.k{H:Hp}{a:Addr}{kvs:List (fO×V)}{k:fO}{v:V}(e:H a=some (.dK kvs))(hl:kvs.length<sizeLine):DPut H a (kV k) v (upd H a (.dK (qo kvs k v))):=.inl ⟨kvs,k,e,rfl,hl,rfl⟩
theorem DPut.t{H:Hp}{a b:Addr}{kvs:List (List fO×V)}{k:List fO}{v:V}(e:H a=some (.dT kvs))(eb:TupK H b k)(hl:kvs.length<sizeLine):
  DPut H a (.ref b) v (upd H a (.dT (qo kvs k v))):=.inr ⟨kvs,k,b,e,rfl,eb,hl,rfl⟩
def Ao(i:Expr):Prop:=∀ov iv,subscripted i false ov iv=operate [ov,iv] (getItem ov iv)
theorem Xv{prog:Program}{w:World}{A:Around}{E:Value->Shared->Prop}{s:Shared}{env:Env}{value slice:Expr}{pos:Pos}{T id:String}{Q:Value->Shared->Prop}
  (hl:typeLookup (.type T) "__getitem__"=pure (some (.builtin id))) (hs:Ao slice)
  (h:wpAny (model prog w) A (eval value env) (λo s₁=>wpAny (model prog w) A (eval slice env) (λi s₂=>s₂.TypeIs o T/\wpAny (model prog w) A (getItem o i) Q E s₂) E s₁) E s):
  wpAny (model prog w) A (eval (.Subscript value slice pos) env) Q E s:=by
 refine Subscript_ (dU h (λo s₁ h₁=>dU h₁ (λi s₂ h₂=>?_) λ_ _ x=>x) λ_ _ x=>x);obtain⟨hT,h₂⟩:=h₂;unfold subscriptTail;refine dR ?_;rw[getitemInPython_of_ne hT.not_modules];refine dR (wpAny_specialOf hT hl ?_);have fB:wpAny (model prog w) A (subscripted slice false o i) (λr s₃=>wpAny (model prog w) A (letTemporaryGo value o r >>=λ_=>pure r) Q E s₃) E s₂:=by
  rw[hs o i];exact wpAny_operating (dU h₂ (λr s₃ h₃=>dR (wpAny_letTemporaryGo (d9 h₃))) λ_ _ x=>x)
 first
  |exact d9 (dR fB)
  |exact dR (d9 (dR fB))
  |exact dR fB
theorem ri{a b:List Nat}{A B:Prop}(h1:a=b->A)(h2:¬a=b->B):if decide (V.str (Tx a)=V.str (Tx b))=true then A else B:=by
 rw[oZ];exact gz h1 h2
end L2
namespace KM
open PySem PySem.Spec PyProof.Rows L2
inductive Mk where
 |num (m:Int) | lst (b:Int) | nea (d:Int) | wrk | wkd (m:Int) | nth (w m:Int) | one (w:Int) | nil
 deriving DecidableEq
abbrev Ko:=Option (List Mk)
def Lf(l f:Int):Prop:=(28<=l/\l<=31)/\0<=f/\f<=6
noncomputable def iY(ds:List Int):Int:=(ds.map λd=>1*2^d.toNat).sum
noncomputable def qv:List Int->Bool
 |[]=>true
 |[_]=>true
 |x::y::r=>decide (x<y)&&qv (y::r)
noncomputable def qW(ds:List Int):Bool:=decide (ds.length<=31)&&(qv ds&&ds.all λd=>decide (0<=d)&&decide (d<=31))
theorem Js:∀{ds:List Int},qv ds=true->ds.Pairwise (·<·)
 |[],_=>.nil
 |[_],_=>.cons (λ_ h=>nomatch h) .nil
 |x::y::r,h=>by
  have h':(decide (x<y)&&qv (y::r))=true:=h;rw[bI] at h';have ih:=Js h'.2;refine .cons (λz hz=>?_) ih;rcases aT.mp hz with rfl | hz
  ·exact dY h'.1
  ·exact Int.lt_trans (dY h'.1) ((List.pairwise_cons.mp ih).1 z hz)
theorem WZ{ds:List Int}(h:qW ds=true):ds.length<=31/\ds.Pairwise (·<·)/\∀d∈ds,0<=d/\d<=31:=by
 unfold qW at h;rw[bI,bI] at h;refine⟨dY h.1,Js h.2.1,λd hd=>?_⟩;have z:=b6.mp h.2.2 d hd;rw[bI] at z;exact⟨dY z.1,dY z.2⟩
theorem CK(ds:List Int):0<=iY ds:=by
 unfold iY;induction ds with
 |nil=>exact aV 0
 |cons d ds ih=>
  have:=gT d.toNat;rw[bV,List.sum_cons];omega
theorem yO{n:Nat}:∀{ds:List Int} (a:Nat),ds.Pairwise (·<·)->(∀d∈ds,(a:Int)<=d/\d<(n:Int))->a<=n->iY ds+2^a<=2^n
 |[],a,_,_,h=>by
  have:=Nat.pow_le_pow_right (show 0<2 by decide) h;have e:((2:Int)^a)<=2^n:=by exact_mod_cast this
  show (0:Int)+2^a<=2^n;omega
 |d::ds,a,hp,hb,h=>by
  have p:=List.pairwise_cons.mp hp;have hd:=hb d (bF ..);have ih:=yO (n:=n) (d.toNat+1) p.2 (λz hz=>by
   have:=p.1 z hz;have:=hb z (bN _ hz);omega) ⋯
  have hm:=Nat.pow_le_pow_right (show 0<2 by decide) (show a<=d.toNat by omega);have e:((2:Int)^a)<=2^d.toNat:=by exact_mod_cast hm
  have e2:(2:Int)^(d.toNat+1)=2^d.toNat*2:=Int.pow_succ ..;unfold iY at ih ⊢;rw[bV,List.sum_cons];omega
noncomputable def j8(m l:Int):Int:=Builtin.bitAnd m (2*2^l.toNat-2)
noncomputable def l8(b l:Int):Int:=if l<=b then 0 else 1*2^(l-b).toNat
noncomputable def k8(m:Int)(n:Nat):Bool:=decide (Builtin.bitAnd (m / 2^(1+(n:Int)).toNat) 1=1)
noncomputable def jz(m:Int):Nat->List Int
 |0=>[]
 |n+1=>jz m n++(if k8 m n=true then [1+(n:Int)] else [])
noncomputable def nw(d l f:Int):Int:=if (f+d-1)%7=6 then (if 1<d then d-1 else 3) else if (f+d-1)%7=0 then (if d<l then d+1 else l-2) else d
noncomputable def l6(d l f:Int):Int:=if l<d then 0 else 1*2^(nw d l f).toNat
noncomputable def wk(f:Int)(n:Nat):Bool:=decide (1<=(f+(1+(n:Int))-1)%7)&&decide ((f+(1+(n:Int))-1)%7<=5)
noncomputable def tD(f:Int):Nat->List Int
 |0=>[]
 |n+1=>tD f n++(if wk f n=true then [1+(n:Int)] else [])
noncomputable def ab(i:Int):Int:=if i<0 then -i else i
noncomputable def Mf(d acc o:Int):Int:=if acc=0 then o else if ab (o-d)<ab (acc-d) then o else acc
noncomputable def km(w m f:Int):Int:=1+(w-f)%7+7*(m-1)
noncomputable def jW(w m l f:Int):Int:=if l<km w m f then 0 else 1*2^(km w m f).toNat
noncomputable def nK(w l f:Int):Int:=l-((f+l-1)%7-w)%7
noncomputable def CC(w l f:Int):Int:=1*2^(nK w l f).toNat
noncomputable def oR(m:Int):Nat->Int
 |0=>0
 |n+1=>Builtin.bitOr (oR m n) (m*2^(7*(0+(n:Int))).toNat)
noncomputable def jK(m l f:Int):Int:=Builtin.bitAnd (oR m 6 / 2^f.toNat*2^(1:Int).toNat) (2*2^l.toNat-2)
noncomputable def Xg(f w:Int)(n:Nat):Bool:=decide ((f+(1+(n:Int))-1)%7=w)
noncomputable def p7(f w:Int):Nat->List Int
 |0=>[]
 |n+1=>p7 f w n++(if Xg f w n=true then [1+(n:Int)] else [])
noncomputable def pE(m f:Int)(n:Nat):Bool:=decide (Builtin.bitAnd (m / 2^((f+(1+(n:Int))-1)%7).toNat) 1=1)
noncomputable def oj(m f:Int):Nat->List Int
 |0=>[]
 |n+1=>oj m f n++(if pE m f n=true then [1+(n:Int)] else [])
noncomputable def pY:List Int:=[1,2,3,4,5,6,7,8,9,10,11,12,13,14,15,16,17,18,19,20,21,22,23,24,25,26,27,28,29,30,31]
noncomputable def lJ:List Int:=[28,29,30,31]
noncomputable def jB:List Int:=[0,1,2,3,4,5,6]
noncomputable def Eo:List Int:=[1,2,3,4,5]
noncomputable def oJ:List Int:=(List.range 128).map λn:Nat=>(n:Int)
theorem On:∀l∈lJ,∀f∈jB,∀d∈pY,d<=l->(tD f l.toNat).foldl (Mf d) 0=nw d l f/\1<=nw d l f/\nw d l f<=31:=by decide +kernel
theorem O8:∀l∈lJ,∀f∈jB,∀w∈jB,∀m∈Eo,jW w m l f=iY (Gu (p7 f w l.toNat) (some (m-1)) (some m))/\qW (Gu (p7 f w l.toNat) (some (m-1)) (some m))=true/\0<=km w m f/\km w m f<=100:=by decide +kernel
theorem We:∀l∈lJ,∀f∈jB,∀w∈jB,gK ((p7 f w l.toNat).map V.int) (-1)=some (V.int (nK w l f))/\0<=nK w l f/\nK w l f<=31:=by decide +kernel
theorem yW:∀m∈oJ,∀l∈lJ,∀f∈jB,jK m l f=iY (oj m f l.toNat)/\qW (oj m f l.toNat)=true:=by decide +kernel
theorem Oa:∀m∈oJ,(∀n:Nat,n<7->(oR m n).natAbs<2^60)/\∀f∈jB,(oR m 6 / 2^f.toNat).natAbs<2^64:=by decide +kernel
theorem kZ{l:Int}(h0:28<=l)(h1:l<=31):l∈lJ:=by
 have:l=28∨l=29∨l=30∨l=31:=⋯;rcases this with rfl | rfl | rfl | rfl<;>decide
theorem jn{f:Int}(h0:0<=f)(h1:f<=6):f∈jB:=by
 have:f=0∨f=1∨f=2∨f=3∨f=4∨f=5∨f=6:=⋯;rcases this with rfl | rfl | rfl | rfl | rfl | rfl | rfl<;>decide
theorem rK{m:Int}(h0:1<=m)(h1:m<=5):m∈Eo:=by
 have:m=1∨m=2∨m=3∨m=4∨m=5:=⋯;rcases this with rfl | rfl | rfl | rfl | rfl<;>decide
theorem qj{m:Int}(h0:0<=m)(h1:m<=127):m∈oJ:=by
 unfold oJ;exact bJ.mpr ⟨m.toNat,bR.mpr ⋯,⋯⟩
theorem uU{d:Int}(h0:1<=d)(h1:d<=31):d∈pY:=by
 have e:d=1+((d-1).toNat:Int):=⋯;have hn:(d-1).toNat<31:=⋯;rw[e];generalize (d-1).toNat=n at hn;have all:∀n:Nat,n<31->(1+(n:Int))∈pY:=by decide +kernel
 exact all n hn
def pX(d l f:Int):Prop:=(1<=d/\d<=31)/\(28<=l/\l<=31)/\0<=f/\f<=6
theorem Bh{d l f:Int}(h:pX d l f)(hd:d<=l):(tD f l.toNat).foldl (Mf d) 0=nw d l f/\1<=nw d l f/\nw d l f<=31:=On l (kZ h.2.1.1 h.2.1.2) f (jn h.2.2.1 h.2.2.2) d (uU h.1.1 h.1.2) hd
theorem Lf.last{l f:Int}(h:Lf l f):pX l l f:=⟨⟨by have:=h.1.1;omega,h.1.2⟩,h.1,h.2⟩
theorem RK{m:Int}(h:0<=m)(n:Nat):k8 m n=tb m (n+1):=by
 have e:(1+(n:Int)).toNat=n+1:=⋯;unfold k8;rw[e];by_cases c:tb m (n+1)=true
 ·rw[c];exact dZ ((nE h _).mpr c)
 ·have c':tb m (n+1)=false:=by simpa using c
  rw[c'];exact d7 λq=>c ((nE h _).mp q)
noncomputable def n8(m:Int)(i:Nat):Bool:=decide (1<=i)&&tb m i
theorem El{m:Int}(h:0<=m):∀n:Nat,iY (jz m n)=kq (n8 m) (n+1)
 |0=>by
  have e:n8 m 0=false:=rfl;rw[Cp,OI,e];rfl
 |n+1=>by
  have ih:=El h n;rw[Cp,←ih];show iY (jz m n++(if k8 m n=true then [1+(n:Int)] else []))=_;have e:n8 m (n+1)=k8 m n:=by rw[RK h];unfold n8;simp
  have e1:(1+(n:Int)).toNat=n+1:=⋯;rw[e];unfold iY;rw[bE,List.sum_append];by_cases c:k8 m n=true
  ·rw[if_pos c,if_pos c];show _+(1*2^(1+(n:Int)).toNat+0)=_;rw[e1];omega
  ·rw[if_neg c,if_neg c];rfl
theorem rG(m:Int):∀n:Nat,(jz m n).length<=n/\(jz m n).Pairwise (·<·)/\∀d∈jz m n,0<=d/\d<=n
 |0=>⟨aP _,.nil,λd hd=>nomatch hd⟩
 |n+1=>by
  obtain⟨h1,hp,h2⟩:=rG m n;show (jz m n++(if k8 m n=true then [1+(n:Int)] else [])).length<=n+1/\(jz m n++(if k8 m n=true then [1+(n:Int)] else [])).Pairwise (·<·)/\∀d∈jz m n++(if k8 m n=true then [1+(n:Int)] else []),_;split
  ·refine⟨by simp;omega,cL.mpr ⟨hp,.cons (λ_ h=>nomatch h) .nil,λa ha b hb=>?_⟩,λd hd=>?_⟩
   ·have:b=1+(n:Int):=by simpa using hb
    have:=h2 a ha;omega
   ·rcases bY.mp hd with z | z
    ·have:=h2 d z;omega
    ·have:d=1+(n:Int):=by simpa using z
     omega
  ·rw[b8];refine⟨⋯,hp,λd hd=>?_⟩;have:=h2 d hd;omega
theorem tG{m l:Int}(h:0<=m)(hl:28<=l/\l<=31):j8 m l=iY (jz m l.toNat)/\(jz m l.toNat).length<=31/\(jz m l.toNat).Pairwise (·<·)/\∀d∈jz m l.toNat,0<=d/\d<=31:=by
 obtain⟨k1,kp,k2⟩:=rG m l.toNat;have hp:=gT l.toNat;refine⟨?_,⋯,kp,λd hd=>by have:=k2 d hd;omega⟩;rw[El h];have e:(2*2^l.toNat-2:Int)=(2^l.toNat-1)*2^1:=⋯;have n0:(0:Int)<=2^l.toNat-1:=⋯;have n1:(0:Int)<=(2^l.toNat-1)*2^1:=⋯;unfold j8;rw[e];refine jy (oE h n1) (yG _ _) λi=>?_;rw[ly h n1,qh n0,qX,DC];unfold n8;by_cases c1:1<=i
 ·have:(i-1<l.toNat)↔(i<l.toNat+1):=⋯;simp only[c1,this,decide_true,Bool.true_and];rw[Bool.and_comm]
 ·simp[c1]
theorem rng{l:Int}(hl:28<=l/\l<=31):(-(2^62)<=(1:Int)/\(1:Int)<2^62/\ -(2^62)<=l+1/\l+1<2^62)/\(l+1-1).toNat=l.toNat/\(l+1-1).toNat<=sizeLine:=by
 obtain⟨h0,h1⟩:=hl;refine⟨⟨by decide,by decide,⋯,⋯⟩,⋯,?_⟩;rw[dW];omega
noncomputable def lE(w m:Int):List (Str×V):=fj "many" (.int m) (fj "weekday" (.int w) [])
theorem Wx:¬(("weekday":Str)="many"):=by decide +kernel
theorem QY(w m:Int):(lE w m).lookup ("weekday":Str)=some (.int w):=by
 unfold lE;rw[fK,if_neg Wx,fK,if_pos rfl]
theorem S5(w m:Int):(lE w m).lookup ("many":Str)=some (.int m):=by
 unfold lE;rw[fK,if_pos rfl]
theorem Qt(w m:Int):(lE w m).lookup ("days":Str)=none:=by
 unfold lE;rw[fK,if_neg (by decide +kernel),fK,if_neg (by decide +kernel)];rfl
noncomputable def Mk.due:Mk->Int->Int->Int
 |.num m,l,_=>j8 m l
 |.lst b,l,_=>l8 b l
 |.nea d,l,f=>l6 d l f
 |.wrk,l,f=>1*2^(nw l l f).toNat
 |.wkd m,l,f=>jK m l f
 |.nth w m,l,f=>jW w m l f
 |.one w,l,f=>CC w l f
 |.nil,_,_=>0
def Mk.ok:Mk->Prop
 |.num m=>0<=m
 |.lst b=>0<=b/\b<=30
 |.nea d=>1<=d/\d<=31
 |.wrk=>True
 |.wkd m=>0<=m/\m<=127
 |.nth w m=>(0<=w/\w<=6)/\1<=m/\m<=5
 |.one w=>0<=w/\w<=6
 |.nil=>True
noncomputable def Mk.wk:Mk->Bool
 |.wkd _ | .nth _ _ | .one _=>true
 |_=>false
noncomputable def Mk.tup:Mk->List V
 |.num m=>[.str (Tx [112,108,97,105,110]),.int m,.int 0]
 |.wkd m=>[.str (Tx [112,108,97,105,110]),.int m,.int 0]
 |.lst b=>[.str (Tx [108,97,115,116]),.int b,.int 0]
 |.nea d=>[.str (Tx [110,101,97,114]),.int d,.int 0]
 |.wrk=>[.str (Tx [119,111,114,107]),.int 0,.int 0]
 |.nth w m=>[.str (Tx [110,116,104]),.int w,.int m]
 |.one w=>[.str (Tx [108,97,115,116,111,110,101]),.int w,.int 0]
 |.nil=>[]
noncomputable def Mk.sp:Mk->Bool
 |.nil=>false
 |_=>true
theorem mf{k:Mk}{l f:Int}(hk:k.ok)(h:Lf l f):0<=k.due l f:=by
 have p1:∀n:Nat,(0:Int)<=1*2^n:=λn=>by have:=gT n;omega
 cases k with
 |num m=>show 0<=j8 m l;rw[(tG hk h.1).1];exact CK _
 |lst b=>show 0<=l8 b l;unfold l8;split;exact aV 0;exact p1 _
 |nea d=>show 0<=l6 d l f;unfold l6;split;exact aV 0;exact p1 _
 |wrk=>exact p1 _
 |wkd m=>show 0<=jK m l f;rw[(yW m (qj hk.1 hk.2) l (kZ h.1.1 h.1.2) f (jn h.2.1 h.2.2)).1];exact CK _
 |nth w m=>show 0<=jW w m l f;unfold jW;split;exact aV 0;exact p1 _
 |one w=>exact p1 _
 |nil=>exact aV 0
noncomputable def i6(ks:List Mk)(l f:Int):Int:=fV (ks.map λk=>k.due l f)
theorem RI(ks:List Mk)(k:Mk)(l f:Int):i6 (ks++[k]) l f=Builtin.bitOr (i6 ks l f) (k.due l f):=by unfold i6;rw[bE];exact oI _ _
theorem Sf{ks ks':List Mk}{l f:Int}(h:Lf l f)(o:∀k∈ks,k.ok)(o':∀k∈ks',k.ok)(e:∀i,(ks.any λk=>tb (k.due l f) i)=(ks'.any λk=>tb (k.due l f) i)):i6 ks l f=i6 ks' l f:=by
 have n:∀(js:List Mk),(∀k∈js,k.ok)->∀m∈js.map (λk=>k.due l f),0<=m:=λjs hj m hm=>by
  obtain⟨k,hk,rfl⟩:=bJ.mp hm;exact mf (hj k hk) h
 refine jy (jH (n ks o)) (jH (n ks' o')) λi=>?_;unfold i6;rw[jC (n ks o),jC (n ks' o'),List.any_map,List.any_map];exact e i
structure Cs where
 (nu la ne lw we nt lo ma:Addr)
def MkAt(c:Cs)(H:Hp)(x:Addr):Mk->Prop
 |.num m=>∃dx,H x=some (.ins c.nu dx [("mask",.int m)])
 |.lst b=>∃dx,H x=some (.ins c.la dx [("back",.int b)])
 |.nea d=>∃dx,H x=some (.ins c.ne dx [("day",.int d)])
 |.wrk=>∃dx,H x=some (.ins c.lw dx [])
 |.wkd m=>∃dx,H x=some (.ins c.we dx [("mask",.int m)])
 |.nth w m=>∃dx,H x=some (.ins c.nt dx (lE w m))
 |.one w=>∃dx,H x=some (.ins c.lo dx [("weekday",.int w)])
 |.nil=>∃dx,H x=some (.ins c.ma dx [])
theorem MkAt.keep{c:Cs}{H H':Hp}(s:Keep H H'){x:Addr}{k:Mk}(h:MkAt c H x k):MkAt c H' x k:=by
 cases k<;>(obtain⟨dx,h⟩:=h;exact⟨dx,s.ins h⟩)
def PrAt(H:Hp)(p:Addr)(k:Mk):Prop:=k.ok/\k.sp=true/\∃u,H p=some (.tup [.ref u,.bl k.wk])/\H u=some (.tup k.tup)
theorem PrAt.keep{H H':Hp}(s:Keep H H'){p:Addr}{k:Mk}(h:PrAt H p k):PrAt H' p k:=by
 obtain⟨o,e,u,h1,h2⟩:=h;exact⟨o,e,u,s.tup h1,s.tup h2⟩
abbrev Ft(R:Addr->Mk->Prop):List Addr->List Mk->Prop:=Paired R
theorem Ft.get{R:Addr->Mk->Prop}:∀{ps:List Addr} {ks:List Mk},Ft R ps ks->∀{i:Nat} {p:Addr},ps[i]? =some p->∃k,ks[i]? =some k/\R p k
 |_,_,.nil,_,_,h=>nomatch h
 |_,_,.cons r _,0,_,h=>by cases h;exact⟨(),r⟩
 |_,_,.cons _ t,i+1,_,h=>Ft.get t h
theorem Ft.keepM{c:Cs}{H H':Hp}(s:Keep H H'){ps:List Addr}{ks:List Mk}(h:Ft (MkAt c H) ps ks):Ft (MkAt c H') ps ks:=Paired.imp' (λ_ _ z=>z.keep s) h
theorem Ft.app{R:Addr->Mk->Prop}:∀{ps:List Addr} {ks:List Mk} {ps':List Addr} {ks':List Mk},Ft R ps ks->Ft R ps' ks'->Ft R (ps++ps') (ks++ks')
 |_,_,_,_,.nil,h=>h
 |_,_,_,_,.cons r t,h=>.cons r (Ft.app t h)
end KM
namespace L2
open PySem
theorem GL{us:List Value}(h:us.length=1):∃a,us=[a]:=by
 cases us with
 |nil=>cases h
 |cons a r=>cases r with
  |nil=>exact⟨a,rfl⟩
  |cons b r=>cases h
theorem wF{us:List Value}{n:Nat}(h:us.length=n+1):∃a r,us=a::r/\r.length=n:=by
 cases us with
 |nil=>cases h
 |cons a r=>exact⟨a,r,rfl,Nat.succ.inj h⟩
theorem xJ{us:List Value}(h:us.length=2):∃a b,us=[a,b]:=by
 obtain⟨a,r,rfl,h'⟩:=wF h;obtain⟨b,rfl⟩:=GL h';exact⟨a,b,rfl⟩
theorem G2{us:List Value}(h:us.length=3):∃a b c,us=[a,b,c]:=by
 obtain⟨a,r,rfl,h'⟩:=wF h;obtain⟨b,c,rfl⟩:=xJ h';exact⟨a,b,c,rfl⟩
theorem uB{us:List Value}(h:us.length=4):∃a b c d,us=[a,b,c,d]:=by
 obtain⟨a,r,rfl,h'⟩:=wF h;obtain⟨b,c,d,rfl⟩:=G2 h';exact⟨a,b,c,d,rfl⟩
structure Io(P:Program)(w:World)(K:FG)(mg:Str->Option Value)(base:Heap)(f:Addr)(k:Nat)(ps:List Str)(sp:Sp):Prop where
 ex:∃fd:FuncData,fR P w K mg base iQ k f fd ps sp/\Binds K fd ps []/\PySem.W.keepIn K (.ref f)=true
theorem Df.at_{P:Program}{w:World}{K:FG}{mg:Str->Option Value}{base:Heap}{x:Str}{k:Nat}{ps:List Str}{sp:Sp}{f:Addr}(D:Df P w K mg base x k ps sp)(hm:mg x=some (.ref f)):Io P w K mg base f k ps sp:=by
 obtain⟨f',fd,F,hb,hm',kp⟩:=D.ex;rw[hm] at hm';cases hm';exact⟨fd,F,hb,kp⟩
def VU(f:Addr)(sp:Sp)(tv:TE)(t:TA):TE:=λσ H Q=>tv σ H λv H1=>v=.ref f/\nB sp [] E0 t σ H1 Q
section
variable{X:Cx}{f:Addr}{k k':Nat}{ps:List Str}{sp:Sp}{y:Str}{e:Expr}{es:List Expr}{t:TA}{tv:TE}{p pos:Pos}
theorem Jj(D:Io X.prog X.w X.K X.mg X.base f k ps sp)(hr:Room k' X.A)(hv:E X (.Name y p) tv)(ha:As X (e::es) t)(hk:k<=k':=by decide)
  (he:starEach (e::es) X.env=(false,eval e X.env)::starEach es X.env:=by rfl) (hpl:(backTo pos (starEach es X.env)).any (·.1)=false:=by rfl):E X (.Call (.Name y p) (e::es) [] pos) (VU f sp tv t):=by
 obtain⟨fd,F,hb,kp⟩:=D.ex;refine⟨λpins s σ H Q I h=>?_⟩;refine d8 (fg (hv.h pins s σ H _ I h) λv s1 ⟨x,H1,I1,r1,ex,q⟩=>?_);subst ex;cases r1;refine PySem.W.callWith_K (h₀:=X.base) I1.ok.mod.kin kp (fg (ha.h pos pins s1 σ H1 _ I1 q) λus s2 ⟨vs,H2,I2,r,q2⟩=>⟨I2.kIn,?_⟩) he hpl;exact oi F (hr.mono hk) hb .nil mW I2 r q2
end
section
variable{X:Cx}
def Fh:V->List V->Hp->VK->Prop:=λx vs H Q=>∃l p:List Nat,x=.str (Tx l)/\vs=[.str (Tx p)]/\Q (.bl (decide (l.take p.length=p))) H
theorem Tq(l p:List Nat):(decide (0+(Tx p).length<=(Tx l).length)&&Builtin.Str.subAt (Tx l) (Tx p) 0)=decide (l.take p.length=p):=by
 rw[iy,iy];have e:(Tx l).cps.extract 0 (0+(Tx p).length)=(l.take p.length).toArray:=by
  rw[iy];show l.toArray.extract 0 (0+p.length)=_;simp
 have e2:(((l.take p.length).toArray==p.toArray:Bool))=decide (l.take p.length=p):=by
  by_cases h:l.take p.length=p
  ·rw[h];simp
  ·rw[d7 h];exact beq_eq_false_iff_ne.mpr λz=>h (by simpa using congrArg Array.toList z)
 unfold Builtin.Str.subAt;rw[e];show (_&&((l.take p.length).toArray==p.toArray))=_;rw[e2];by_cases h:l.take p.length=p
 ·have:0+p.length<=l.length:=by
   have:=congrArg List.length h;rw[b9] at this;omega
  rw[dZ this,Bool.true_and]
 ·rw[d7 h,Bool.and_false]
theorem V4:mY X "str.startswith" Fh:=by
 intro pins s σ H x xs v us Q I rx rv h;obtain⟨l,p,rfl,rfl,q⟩:=h;obtain⟨u,rfl,r1⟩:=iH rv;obtain⟨t',rfl⟩:=r1;obtain⟨t,rfl⟩:=rx;refine call_gives PySem.F.slot_str_startswith (typeIs_str _ _ _) PySem.F.entry_str_startswith (PySem.F.args_str_startswith_2 _ _) (gives_str_startswith (Tx l) (Tx p) t t') ?_;rw[Tq];exact⟨.bl _,H,I,rfl,q⟩
theorem vR{o e:Expr}{to te:TE}{apos cpos:Pos}(ho:E X o to)(he:E X e te)(hbase:attributeBase o "startswith" X.env (eval o X.env)=eval o X.env:=by rfl)
  (hfew:((backTo cpos (starEach [e] X.env)).all (λx=> !x.1)&&(backToKw cpos (keywordEach [] X.env)).all (λx=>x.1.isSome)&&decide (([e]:List Expr).length+([]:List Keyword).length+(if ([]:List Keyword).isEmpty then 0 else 1)<30))=true:=by rfl)
  (hline:(apos.endLine==cpos.line)=true:=by rfl) (hs:starEach [e] X.env=(false,eval e X.env)::starEach [] X.env:=by rfl) (hplain:(backTo cpos (starEach [] X.env)).any (·.1)=false:=by rfl):
  E X (.Call (.Attribute o "startswith" apos) [e] [] cpos) (mH X.K "str" Fh to (iI te il)):=
 ⟨nr PySem.F.plainAttrs_str PySem.F.slot_str_startswith PySem.F.type_str_startswith V4 ho.h (jR he.h kz hs) hbase hfew hline hs hplain⟩
def zz:V->List V->Hp->VK->Prop:=λx vs H Q=>∃(l:List Nat) (c:Nat),x=.str (Tx l)/\vs=[.str (Tx [c])]/\Q (.bl (decide (l.getLast? =some c))) H
theorem Wb(l:List Nat)(c:Nat):(decide (0+(Tx [c]).length<=(Tx l).length)&&Builtin.Str.subAt (Tx l) (Tx [c]) ((Tx l).length-(Tx [c]).length))=decide (l.getLast? =some c):=by
 rw[iy,iy];rcases List.eq_nil_or_concat l with rfl | ⟨r,x,rfl⟩
 ·simp
 ·rw[List.concat_eq_append];have e:(Tx (r++[x])).cps.extract ((r++[x]).length - [c].length) ((r++[x]).length - [c].length+(Tx [c]).length)= #[x]:=by
   show (r++[x]).toArray.extract ((r++[x]).length-1) ((r++[x]).length-1+1)= #[x];rw[aS,bX,Nat.add_sub_cancel];simp
  unfold Builtin.Str.subAt;rw[e];have e2:decide (0+[c].length<=(r++[x]).length)=true:=by simp
  rw[e2,Bool.true_and,List.getLast?_append,List.getLast?_singleton];show (#[x]== #[c])=decide (some x=some c);by_cases h:x=c
  ·subst h;simp
  ·have h2:¬some x=some c:=λz=>h (a8 z);rw[d7 h2];exact beq_eq_false_iff_ne.mpr λz=>h (by simpa using z)
theorem O0:mY X "str.endswith" zz:=by
 intro pins s σ H x xs v us Q I rx rv h;obtain⟨l,c,rfl,rfl,q⟩:=h;obtain⟨u,rfl,r1⟩:=iH rv;obtain⟨t',rfl⟩:=r1;obtain⟨t,rfl⟩:=rx;refine call_gives PySem.F.slot_str_endswith (typeIs_str _ _ _) PySem.F.entry_str_endswith (PySem.F.args_str_endswith_2 _ _) (gives_str_endswith (Tx l) (Tx [c]) t t') ?_;rw[Wb];exact⟨.bl _,H,I,rfl,q⟩
theorem JD{o e:Expr}{to te:TE}{apos cpos:Pos}(ho:E X o to)(he:E X e te)(hbase:attributeBase o "endswith" X.env (eval o X.env)=eval o X.env:=by rfl)
  (hfew:((backTo cpos (starEach [e] X.env)).all (λx=> !x.1)&&(backToKw cpos (keywordEach [] X.env)).all (λx=>x.1.isSome)&&decide (([e]:List Expr).length+([]:List Keyword).length+(if ([]:List Keyword).isEmpty then 0 else 1)<30))=true:=by rfl)
  (hline:(apos.endLine==cpos.line)=true:=by rfl) (hs:starEach [e] X.env=(false,eval e X.env)::starEach [] X.env:=by rfl) (hplain:(backTo cpos (starEach [] X.env)).any (·.1)=false:=by rfl):
  E X (.Call (.Attribute o "endswith" apos) [e] [] cpos) (mH X.K "str" zz to (iI te il)):=
 ⟨nr PySem.F.plainAttrs_str PySem.F.slot_str_endswith PySem.F.type_str_endswith O0 ho.h (jR he.h kz hs) hbase hfew hline hs hplain⟩
end
end L2
namespace KM
open PySem PySem.Spec PyProof.Rows L2
noncomputable def ju(t:List Nat):Option Mk:=
 if t=[76] then some (.lst 0) else if t=[76,87] then some .wrk
 else if t.take ([76,45]:List Nat).length=[76,45] then (gd 1 30 (ix t (some 2) none)).map Mk.lst
 else if t.getLast? =some 87 then (gd 1 31 (ix t none (some (-1)))).map Mk.nea else none
noncomputable def kc(t:List Nat):Option Int:=(gd 0 7 t).map λn=>if n=7 then 0 else n
noncomputable def FB:Option Int->Option Int->Option Mk
 |some w,some m=>some (.nth w m)
 |_,_=>none
noncomputable def kF(t:List Nat):Option Mk:=
 if t.getLast? =some 76 then (kc (ix t none (some (-1)))).map Mk.one
 else match eV 35 t with
  |[a,b]=>FB (kc a) (gd 1 5 b)
  |_=>none
noncomputable def jL(wk:Bool)(t:List Nat):Option Mk:=if wk=true then kF t else ju t
def BV(c:Cs)(H:Hp)(v:V):Option Mk->Prop
 |none=>v=.non
 |some k=>∃x,v=.ref x/\MkAt c H x k
theorem nU(c:Nat):∀(l:List Nat),∀w∈eV c l,w.length<=l.length
 |[],w,hw=>by simp[eV] at hw;simp[hw]
 |x::r,w,hw=>by
  have ih:=nU c r;unfold eV at hw;split at hw
  ·rcases aT.mp hw with z | z
   ·subst z;simp
   ·have:=ih w z;simp;omega
  ·split at hw
   ·rename_i h t e;rcases aT.mp hw with z | z
    ·subst z;have:=ih h (by rw[e];simp);simp;omega
    ·have:=ih w (by rw[e];simp[z]);simp;omega
   ·have:w=[x]:=by simpa using hw
    subst this;simp
noncomputable def gA(lo hi:Int)(ws:List (List Nat)):List Int:=ws.filterMap (gf lo hi)
noncomputable def gW(wk:Bool)(lo hi:Int)(ws:List (List Nat)):List Mk:=ws.filterMap λw=>if (gf lo hi w).isSome=true then none else jL wk w
theorem TM{lo hi:Int}{ws:List (List Nat)}{w:List Nat}{m:Int}(h:gf lo hi w=some m):gA lo hi (ws++[w])=gA lo hi ws++[m]:=by
 unfold gA;rw[dM];simp[h]
theorem Lz{lo hi:Int}{ws:List (List Nat)}{w:List Nat}(h:gf lo hi w=none):gA lo hi (ws++[w])=gA lo hi ws:=by
 unfold gA;rw[dM];simp[h]
theorem Np{wk:Bool}{lo hi:Int}{ws:List (List Nat)}{w:List Nat}{m:Int}(h:gf lo hi w=some m):gW wk lo hi (ws++[w])=gW wk lo hi ws:=by
 unfold gW;rw[dM];simp[h]
theorem pO{wk:Bool}{lo hi:Int}{ws:List (List Nat)}{w:List Nat}{k:Mk}(h:gf lo hi w=none)(hk:jL wk w=some k):gW wk lo hi (ws++[w])=gW wk lo hi ws++[k]:=by
 unfold gW;rw[dM];simp[h,hk]
theorem Jy(wk:Bool)(lo hi:Int)(ws:List (List Nat))(i:Nat):(gW wk lo hi (ws.take i)).length<=(gW wk lo hi ws).length:=((List.take_sublist i ws).filterMap _).length_le
structure gv(wk:Bool)(lo hi:Int)(l:List Nat):Prop where
 len:l.length<=300
 few:(eV 44 l).length<=40
 all:∀w∈eV 44 l,(gf lo hi w).isSome=true∨(jL wk w).isSome=true
 most:(gW wk lo hi (eV 44 l)).length<=20
theorem Lc{xs:List V}(h:xs.length<=40):g8 xs none (some 40)=xs:=by
 unfold g8;have e1:HT.sIx xs.length 0 none=0:=rfl;have e2:xs.length<=HT.sIx xs.length xs.length (some 40):=by
  show xs.length<=HT.sIx xs.length xs.length (some 40);unfold HT.sIx;simp;omega
 rw[e1,List.drop_zero,Nat.sub_zero];exact dI e2
def wV(H:Hp)(r:V):Option (Int×Int)->Prop
 |none=>r=.non
 |some (a,b)=>∃p,r=.ref p/\H p=some (.tup [.int a,.int b])
theorem Vt(es:List (Option Int)):(es.map oV).all kj=true:=by
 rw[List.all_map];refine b6.mpr λx _=>?_;cases x<;>rfl
noncomputable def gn(m:Int):Int:=Builtin.bitAnd (Builtin.bitOr m (m / 2^(7:Int).toNat)) 127
noncomputable def kx(wk:Bool)(m:Int):List Mk:=if m=0 then [] else if wk=true then [.wkd (gn m)] else [.num m]
noncomputable def mm(wk:Bool)(lo hi:Int)(l:List Nat):List Mk:=kx wk (fV (gA lo hi (eV 44 l)))++gW wk lo hi (eV 44 l)
def Cl(t:List Nat):Prop:=(44∉t/\32∉t)/\t≠[]/\t.length<=8
instance (t:List Nat):Decidable (Cl t):=by unfold Cl;exact inferInstance
def mx(lo hi:Int)(t:List Nat)(ns:List Int):Prop:=gf lo hi t=some (fE ns)/\Cl t/\(∀n∈ns,lo<=n/\n<=hi)/\ns≠[]/\ns.length<=64
theorem sQ{c:Nat}{a b:List Nat}{d:Nat}(h1:c∉a)(h2:c∉b)(h3:c≠d):c∉a++d::b:=by
 simp only[bY,aT,not_or];exact⟨h1,h3,h2⟩
theorem r8{a b:List Nat}{d:Nat}(ha:(44∉a/\32∉a)/\a≠[]/\a.length<=5)(hb:(44∉b/\32∉b)/\b.length<=2)(h1:44≠d)(h2:32≠d):Cl (a++d::b):=by
 refine⟨⟨sQ ha.1.1 hb.1.1 h1,sQ ha.1.2 hb.1.2 h2⟩,by simp,?_⟩;have:=ha.2.2;have:=hb.2;rw[aS,bL];omega
theorem nc{n:Nat}(h:n<100):(44∉num n/\32∉num n)/\num n≠[]/\(num n).length<=2:=⟨⟨kf h (by decide),kf h (by decide)⟩,Jh n,(rl n h).2.2.2⟩
theorem oU{a b s lo hi:Int}(h0:0<=a)(h1:b<=63)(hab:a<=b)(hs:0<s)(hl:lo<=a)(hb:b<=hi):(∀n∈gY a b s,lo<=n/\n<=hi)/\gY a b s≠[]/\(gY a b s).length<=64:=by
 refine⟨λn hn=>?_,λe=>?_,?_⟩
 ·have:=(ud hs).mp hn;omega
 ·have:a∈gY a b s:=(ud hs).mpr ⟨aV _,hab,by rw[Int.sub_self];rfl⟩;rw[e] at this;cases this
 ·rw[qr,aQ,cA,qI hs,if_pos hab];have:=Int.ediv_le_self (a:=b-a) s ⋯;omega
theorem Qy(a:Int):gY a a 1=[a]:=by
 rw[qr,qI (by decide),if_pos (aV a),Int.sub_self];show [a+((0:Nat):Int)*1]=[a];simp
theorem i1{lo hi a:Int}(h0:0<=lo)(h1:lo<=a)(h2:a<=hi)(h3:hi<=63):mx lo hi (num a.toNat) [a]:=by
 have ha:a.toNat<100:=⋯;have e:=Gv (lo:=lo) (hi:=hi) ha ⋯ ⋯;rw[bQ ⋯] at e;have c:=nc ha;have r:=oU (a:=a) (b:=a) (s:=1) (lo:=lo) (hi:=hi) ⋯ ⋯ ⋯ (by decide) h1 h2;have e2:=rP (kf ha (by decide)) e;unfold jP at e2;rw[Qy] at e2 r;exact⟨e2,⟨c.1,c.2.1,by have:=c.2.2;omega⟩,r⟩
theorem i2{lo hi a b:Int}(h0:0<=lo)(h1:lo<=a)(h2:a<=b)(h4:b<=hi)(h3:hi<=63):mx lo hi (num a.toNat++45::num b.toNat) (gY a b 1):=by
 have ha:a.toNat<100:=⋯;have hb:b.toNat<100:=⋯;have e:=VX (lo:=lo) (hi:=hi) ha hb ⋯ ⋯ ⋯;rw[bQ ⋯,bQ ⋯] at e;have ca:=nc ha;have cb:=nc hb;exact⟨rP (sQ (kf ha (by decide)) (kf hb (by decide)) (by decide)) e,r8 ⟨ca.1,ca.2.1,by have:=ca.2.2;omega⟩ ⟨cb.1,cb.2.2⟩ (by decide) (by decide),oU ⋯ ⋯ h2 (by decide) h1 h4⟩
theorem i0{lo hi:Int}(h0:0<=lo)(h1:lo<=hi)(h3:hi<=63):mx lo hi [42] (gY lo hi 1):=
 ⟨rP (by decide) Lx,by decide,oU h0 h3 h1 (by decide) (aV _) (aV _)⟩
theorem i3{lo hi s:Int}(h0:0<=lo)(h1:lo<=hi)(h3:hi<=63)(hs:1<=s/\s<=99):mx lo hi ([42]++47::num s.toNat) (gY lo hi s):=by
 have hs':s.toNat<100:=⋯;have e:=Hj (show 47∉[42] by decide) (Lx (lo:=lo) (hi:=hi)) hs' ⋯;rw[if_neg (by decide),bQ ⋯] at e;have cs:=nc hs';exact⟨e,r8 (by decide) ⟨cs.1,cs.2.2⟩ (by decide) (by decide),oU h0 h3 h1 ⋯ (aV _) (aV _)⟩
theorem i4{lo hi a s:Int}(h0:0<=lo)(h1:lo<=a)(h2:a<=hi)(h3:hi<=63)(hs:1<=s/\s<=99):mx lo hi (num a.toNat++47::num s.toNat) (gY a hi s):=by
 have ha:a.toNat<100:=⋯;have hs':s.toNat<100:=⋯;have e1:=Gv (lo:=lo) (hi:=hi) ha ⋯ ⋯;have e:=Hj (kf ha (by decide)) e1 hs' ⋯;rw[if_pos (rl _ ha).1,bQ ⋯,bQ ⋯] at e;have ca:=nc ha;have cs:=nc hs';exact⟨e,r8 ⟨ca.1,ca.2.1,by have:=ca.2.2;omega⟩ ⟨cs.1,cs.2.2⟩ (by decide) (by decide),oU ⋯ h3 h2 ⋯ h1 (aV _)⟩
theorem UV:∀{zs:List Int},zs.Pairwise (·<·)->(∀z∈zs,0<=z)->∀i,0<=iY zs/\tb (iY zs) i=zs.any λz=>decide (z.toNat=i):=by
 intro zs hp hn i;have key:∀(n:Nat) (ys:List Int),ys.length=n->ys.Pairwise (·<·)->(∀z∈ys,0<=z)->iY ys=fE ys:=by
  intro n;induction n with
  |zero=>intro ys h _ _;rw[List.length_eq_zero_iff.mp h];rfl
  |succ n ih=>
   intro ys hl hp hn;rcases List.eq_nil_or_concat ys with rfl | ⟨r,z,rfl⟩
   ·cases hl
   rw[List.concat_eq_append] at hl hp hn ⊢;have hpa:=cL.mp hp;have er:=ih r (by rw[aS,bX] at hl;omega) hpa.1 λx hx=>hn x (cD _ hx);have hz:=hn z (bO _ (aX.mpr rfl));have hb:tb (fE r) z.toNat=false:=by
    rw[ng,cS];intro x hx;have h1:=hpa.2.2 x hx z (aX.mpr rfl);have h2:=hn x (cD _ hx);have:¬x.toNat=z.toNat:=⋯;simpa using this
   have e1:iY (r++[z])=iY r+1*2^z.toNat:=by unfold iY;rw[bE,List.sum_append];show _+(1*2^z.toNat+0)=_;omega
   have hnn:=jg r;have hp2:=bZ (gT z.toNat);rw[e1,er,Dk];refine jy ⋯ (lI hnn ⋯) λj=>?_;have e3:(1*2^z.toNat:Int)=2^z.toNat:=⋯;have hz0:Builtin.bitAnd (fE r) (2^z.toNat)=0:=by
    refine jy (oE hnn hp2) (aV 0) λk=>?_;rw[ly hnn hp2,kX,jb];by_cases c:z.toNat=k
    ·subst c;rw[hb];rfl
    ·simp[c]
   have ea:fE r+2^z.toNat=Builtin.bitOr (fE r) (2^z.toNat):=by rw[bitOr_and,hz0];omega
   rw[e3,ea]
 rw[key _ zs rfl hp hn];exact⟨jg _,ng _ _⟩
theorem mv{m:Int}(h:0<=m)(i:Nat):0<=gn m/\tb (gn m) i=((tb m i||tb m (7+i))&&decide (i<7)):=by
 have h1:(0:Int)<=m / 2^(7:Int).toNat:=Int.ediv_nonneg h (by decide);unfold gn;refine⟨oE (lI h h1) (by decide),?_⟩;rw[ly (lI h h1) (by decide),nO h h1,O3 h];have e:tb 127 i=decide (i<7):=qX 7 i;rw[e];rfl
theorem Bc{ms:List Int}(h:∀m∈ms,0<=m):fV ms=0↔∀m∈ms,m=0:=by
 constructor
 ·intro e m hm;refine jy (h m hm) (aV 0) λi=>?_;have z:=jC h i;rw[e,jb] at z;have:=cS.mp z.symm m hm;rw[jb];simpa using this
 ·intro e;refine jy (jH h) (aV 0) λi=>?_;rw[jC h,jb,cS];intro m hm;rw[e m hm,jb];exact bA
theorem GJ{ms:List Int}(h:∀m∈ms,0<=m):gn (fV ms)=fV (ms.map gn):=by
 have h':∀m∈ms.map gn,0<=m:=λm hm=>by
  obtain⟨z,hz,rfl⟩:=bJ.mp hm;exact (mv (h z hz) 0).1
 refine jy (mv (jH h) 0).1 (jH h') λi=>?_;rw[(mv (jH h) i).2,jC h,jC h,jC h',List.any_map,cE];simp only[bI,cZ,List.any_eq_true,d6,Function.comp];constructor
 ·rintro⟨⟨m,hm,e⟩ | ⟨m,hm,e⟩,hi⟩
  ·exact⟨m,hm,by rw[(mv (h m hm) i).2,e,dZ hi];rfl⟩
  ·exact⟨m,hm,by rw[(mv (h m hm) i).2,e,dZ hi,Bool.or_true];rfl⟩
 ·rintro⟨m,hm,e⟩;rw[(mv (h m hm) i).2,bI,cZ,d6] at e;rcases e with ⟨e | e,hi⟩
  ·exact⟨.inl ⟨m,hm,e⟩,hi⟩
  ·exact⟨.inr ⟨m,hm,e⟩,hi⟩
theorem rT{m:Int}(h0:0<m)(h1:m<=255):gn m≠0/\0<=gn m/\gn m<=127:=by
 have all:∀n:Nat,n<256->0<n->gn (n:Int)≠0/\0<=gn (n:Int)/\gn (n:Int)<=127:=by decide +kernel
 have e:m=((m.toNat:Nat):Int):=⋯;rw[e];exact all m.toNat ⋯ ⋯
def Gg(b:Bool)(t:List Nat):Mk->Prop
 |.num m=>b=false/\gf 1 31 t=some m/\0<m
 |.wkd m=>b=true/\∃M,gf 0 7 t=some M/\(0<M/\M<=255)/\m=gn M
 |.nil=>False
 |k=>gf (if b=true then 0 else 1) (if b=true then 7 else 31) t=none/\jL b t=some k
theorem Ox:∀n:Nat,n<8->(gf 0 7 (num n++[76])=none/\jL true (num n++[76])=some (.one ((n:Int)%7)))/\Cl (num n++[76]):=by decide +kernel
theorem M2:∀n:Nat,n<8->∀m:Nat,m<6->1<=m->(gf 0 7 (num n++[35]++num m)=none/\jL true (num n++[35]++num m)=some (.nth ((n:Int)%7) m))/\Cl (num n++[35]++num m):=by decide +kernel
theorem tY{ns:List Int}(h:ns≠[])(hn:∀n∈ns,0<=n):0<fE ns:=by
 have h0:=jg ns;rcases dC h0 with h1 | h1
 ·exact h1
 ·cases ns with
  |nil=>exact absurd rfl h
  |cons n r=>
   have z:=ng (n::r) n.toNat;rw[←h1,jb,bT] at z;simp at z
end KM
namespace L2
open PySem PySem.Spec PyProof.Rows PySem.SeqAt
section
variable{X:Cx}
theorem VB:gZ X (.builtin "isinstance") (λxs H Q=>∃(v:V) (t:Value) (C':Addr) (b:Bool),xs=[v,.ref C']/\iP X.K H v t/\PySem.W.kitOne X.K t (.ref C')=some b/\Q (.bl b) H):=by
 refine⟨λpins s σ H xs us Q I r h=>?_⟩;obtain⟨v,t,C',b,rfl,ty,e,q⟩:=h;obtain⟨u,w',rfl,r1,r2⟩:=mO r;cases r2;exact Nj I r1 ty e λtk=>⟨.bl b,H,I.tok _,rfl,q⟩
structure IsC(K:FG)(C:Addr):Prop where
 ha:PySem.W.findIn K (.ref C) "__class__"=some (some (.builtin "object.__class__"))
 hn:PySem.W.specialIn K (.builtin "object.__class__") "__get__"=some (some (.builtin "getset_descriptor.__get__"))
 htk:PySem.W.takesIn K (.builtin "object.__class__")=some true
 hm:PySem.W.mroIn K C (.type "object")=some true
theorem IsC.ty{K:FG}{C a dx:Addr}{H:Hp}{fs:List (Str×V)}(i:IsC K C)(c:Cls K C)(h:H a=some (.ins C dx fs)):iP K H (.ref a) (.ref C):=.ins h c i.ha i.hn i.htk i.hm
end
end L2
namespace KM
open PySem PySem.Spec PyProof.Rows L2
def TpAt(b:Bool)(H:Hp)(u:Addr)(k:Mk):Prop:=H u=some (.tup k.tup)/\k.sp=true/\k.wk=b/\k.ok
theorem TpAt.keep{b:Bool}{H H':Hp}(s:Keep H H'){u:Addr}{k:Mk}(h:TpAt b H u k):TpAt b H' u k:=⟨s.tup h.1,h.2⟩
theorem Ft.keepT{b:Bool}{H H':Hp}(s:Keep H H'){ps:List Addr}{ks:List Mk}(h:Ft (TpAt b H) ps ks):Ft (TpAt b H') ps ks:=Paired.imp' (λ_ _ z=>z.keep s) h
noncomputable def Mk.pl:Mk->Option Int
 |.num m=>some m
 |.wkd m=>some m
 |_=>none
noncomputable def jA(ks:List Mk):List Int:=ks.filterMap Mk.pl
noncomputable def mK(ks:List Mk):List Mk:=ks.filter λk=>k.pl.isNone
noncomputable def pF(b:Bool)(M:Int):List Mk:=if M=0 then [] else if b=true then [.wkd M] else [.num M]
noncomputable def lR(b:Bool)(ks:List Mk):List Mk:=pF b (fV (jA ks))++mK ks
theorem Bw{b:Bool}{ks:List Mk}(h:∀k∈ks,k.sp=true/\k.wk=b/\k.ok):∀m∈jA ks,0<=m/\(b=true->m<=127):=by
 intro m hm;obtain⟨k,hk,e⟩:=List.mem_filterMap.mp hm;have:=h k hk;cases k with
 |num z=>cases e;exact⟨this.2.2,λhb=>by rw[←this.2.1] at hb;cases hb⟩
 |wkd z=>cases e;exact⟨this.2.2.1,λ_=>this.2.2.2⟩
 |lst z=>cases e
 |nea z=>cases e
 |wrk=>cases e
 |nth z y=>cases e
 |one z=>cases e
 |nil=>cases e
theorem tX{ms:List Int}{n:Nat}(h:∀m∈ms,0<=m/\m<2^n):fV ms<2^n:=by
 have h0:∀m∈ms,0<=m:=λm hm=>(h m hm).1;have e:fV ms=kq (tb (fV ms)) n:=by
  refine jy (jH h0) (yG _ _) λi=>?_;rw[DC];by_cases c:i<n
  ·rw[dZ c,Bool.true_and]
  ·rw[d7 c,Bool.false_and,jC h0,cS];intro m hm;rw[pI (h m hm).2 ⋯];exact bA
 rw[e];exact XF _ _
theorem QE{b:Bool}{ks:List Mk}(h:∀k∈ks,k.sp=true/\k.wk=b/\k.ok):∀k∈pF b (fV (jA ks)),k.sp=true/\k.wk=b/\k.ok:=by
 have hp:=Bw h;have h0:0<=fV (jA ks):=jH λm hm=>(hp m hm).1;intro k hk;unfold pF at hk;split at hk
 ·cases hk
 ·split at hk
  ·rename_i hb;rw[aX.mp hk,hb];have e:(2:Int)^7=128:=by decide
   have:=tX (n:=7) (ms:=jA ks) λm hm=>⟨(hp m hm).1,by have:=(hp m hm).2 hb;omega⟩;exact⟨rfl,rfl,h0,⋯⟩
  ·rename_i hb;rw[aX.mp hk];exact⟨rfl,by cases b with | true=>exact absurd rfl hb | false=>rfl,h0⟩
abbrev Ws(b:Bool):List (List Nat)->List Mk->Prop:=Paired λw k=>Cl w/\Gg b w k
noncomputable def ip(b:Bool):Int:=if b=true then 0 else 1
noncomputable def ii(b:Bool):Int:=if b=true then 7 else 31
theorem CT(k:Mk)(ks:List Mk):jA (k::ks)=(match k.pl with | some m=>m::jA ks | none=>jA ks)/\mK (k::ks)=(match k.pl with | some _=>mK ks | none=>k::mK ks):=by
 unfold jA mK;rw[cN,List.filter_cons];cases k.pl<;>exact⟨rfl,rfl⟩
theorem Wz(b:Bool)(lo hi:Int)(w:List Nat)(ws:List (List Nat)):gA lo hi (w::ws)=(match gf lo hi w with | some m=>m::gA lo hi ws | none=>gA lo hi ws)/\gW b lo hi (w::ws)=(match gf lo hi w with | some _=>gW b lo hi ws | none=>match jL b w with | some k=>k::gW b lo hi ws | none=>gW b lo hi ws):=by
 unfold gA gW;rw[cN,cN];cases gf lo hi w with
 |some m=>exact⟨rfl,rfl⟩
 |none=>exact⟨rfl,by cases jL b w<;>rfl⟩
def oe(b:Bool)(ws:List (List Nat))(ks:List Mk):Prop:=gW b (ip b) (ii b) ws=mK ks/\jA ks=(gA (ip b) (ii b) ws).map (λm=>if b=true then gn m else m)/\(∀m∈gA (ip b) (ii b) ws,0<m/\(b=true->m<=255))/\∀w∈ws,(gf (ip b) (ii b) w).isSome=true∨(jL b w).isSome=true
theorem uT(b:Bool):∀{ws:List (List Nat)} {ks:List Mk},Ws b ws ks->oe b ws ks
 |_,_,.nil=>⟨rfl,rfl,λm hm=>(nomatch hm),λw hw=>(nomatch hw)⟩
 |w::ws,k::ks,.cons r t=>by
  obtain⟨i1,i2,i3,i4⟩:=uT b t;have c1:=CT k ks;have c2:=Wz b (ip b) (ii b) w ws;have plain:∀(m M:Int),k.pl=some m->gf (ip b) (ii b) w=some M->(m=if b=true then gn M else M)->(0<M/\(b=true->M<=255))->oe b (w::ws) (k::ks):=λm M e1 e2 e3 e4=>by
   unfold oe;rw[e1] at c1;rw[e2] at c2;rw[c1.1,c1.2,c2.1,c2.2];refine⟨i1,by rw[bV,←e3,←i2],λz hz=>?_,λv hv=>?_⟩
   ·rcases aT.mp hz with rfl | hz
    ·exact e4
    ·exact i3 z hz
   ·rcases aT.mp hv with rfl | hv
    ·exact .inl (by rw[e2];rfl)
    ·exact i4 v hv
  have mark:k.pl=none->gf (ip b) (ii b) w=none->jL b w=some k->oe b (w::ws) (k::ks):=λe1 e2 e3=>by
   unfold oe;rw[e1] at c1;rw[e2,e3] at c2;rw[c1.1,c1.2,c2.1,c2.2];refine⟨by rw[i1],i2,i3,λv hv=>?_⟩;rcases aT.mp hv with rfl | hv
   ·exact .inr (by rw[e3];rfl)
   ·exact i4 v hv
  cases k with
  |num m=>
   obtain⟨_,hb,hr,h0⟩:=r;subst hb;exact plain m m rfl hr rfl ⟨h0,λz=>nomatch z⟩
  |wkd m=>
   obtain⟨_,hb,M,hr,h0,hm⟩:=r;subst hb;exact plain m M rfl hr hm ⟨h0.1,λ_=>h0.2⟩
  |lst z=>exact mark rfl r.2.1 r.2.2
  |nea z=>exact mark rfl r.2.1 r.2.2
  |wrk=>exact mark rfl r.2.1 r.2.2
  |nth z y=>exact mark rfl r.2.1 r.2.2
  |one z=>exact mark rfl r.2.1 r.2.2
  |nil=>exact r.2.elim
theorem VN{b:Bool}{ws:List (List Nat)}{ks:List Mk}{l:List Nat}(h:Ws b ws ks)(hl:eV 44 l=ws):mm b (ip b) (ii b) l=lR b ks:=by
 obtain⟨i1,i2,i3,_⟩:=uT b h;have hz:∀m∈gA (ip b) (ii b) ws,0<=m:=λm hm=>bZ (i3 m hm).1;unfold mm lR;rw[hl,i1,i2];congr 1;cases b with
 |false=>
  have e:(gA (ip false) (ii false) ws).map (λm=>if false=true then gn m else m)=gA (ip false) (ii false) ws:=List.map_id'' (λ_=>rfl) _;rw[e];rfl
 |true=>
  have e:fV ((gA (ip true) (ii true) ws).map (λm=>if true=true then gn m else m))=gn (fV (gA (ip true) (ii true) ws)):=(GJ hz).symm;rw[e];unfold kx pF;by_cases c:fV (gA (ip true) (ii true) ws)=0
  ·rw[if_pos c,c];rfl
  ·have c2:¬gn (fV (gA (ip true) (ii true) ws))=0:=λz=>c (by
    rw[GJ hz] at z;have h0:∀m∈(gA (ip true) (ii true) ws).map gn,0<=m:=λm hm=>by
     obtain⟨y,hy,rfl⟩:=bJ.mp hm;exact (mv (hz y hy) 0).1
    rw[Bc hz];intro m hm;have:=(Bc h0).mp z (gn m) (bJ.mpr ⟨m,hm,rfl⟩);exact absurd this (rT (i3 m hm).1 ((i3 m hm).2 rfl)).1)
   rw[if_neg c,if_neg c2];rfl
theorem none_of{H H':Hp}(s:Same H H'){p:Addr}(h:H' p=none):H p=none:=by
 cases e:H p with
 |none=>rfl
 |some o=>rw[s _ _ e] at h;cases h
theorem tI:∀(ws:List (List Nat)),(∀w∈ws,w.length<=8)->(fU 44 ws).length<=9*ws.length
 |[],_=>bD _
 |[w],h=>by
  have:=h w (bF ..);show w.length<=9;omega
 |w::v::ws,h=>by
  have ih:=tI (v::ws) λz hz=>h z (bN _ hz);have:=h w (bF ..);show (w++44::fU 44 (v::ws)).length<=_;rw[aS,bL,bL];omega
theorem Ws.cl{b:Bool}:∀{ws:List (List Nat)} {ks:List Mk},Ws b ws ks->∀w∈ws,Cl w
 |_,_,.nil,w,hw=>nomatch hw
 |_,_,.cons r t,w,hw=>by
  rcases aT.mp hw with rfl | hw
  ·exact r.1
  ·exact Ws.cl t w hw
theorem zw{b:Bool}{ws:List (List Nat)}{ks:List Mk}(h:Ws b ws ks)(hne:ws≠[])(hn:ws.length<=20):eV 44 (fU 44 ws)=ws/\gv b (ip b) (ii b) (fU 44 ws):=by
 have hs:=oS 44 ws hne λw hw=>(h.cl w hw).1.1;have hl:=tI ws λw hw=>(h.cl w hw).2.2;refine⟨hs,⋯,by rw[hs];omega,?_,?_⟩
 ·rw[hs];exact (uT b h).2.2.2
 ·rw[hs];exact bK (List.length_filterMap_le ..) hn
def PrT(H:Hp)(ts:List Addr)(prs:List (Nat×Nat)):Prop:=Paired (λ(t:Addr) (pr:Nat×Nat)=>H t=some (.tup [.int pr.1,.int pr.2])) ts prs
theorem PrT.keep{H H':Hp}{ts:List Addr}{prs:List (Nat×Nat)}(h:PrT H ts prs)(k:Keep H H'):PrT H' ts prs:=Paired.mapP h λ_ _ z=>k.tup z
theorem Paired.at{α β:Type}{F:α->β->Prop}:∀{l:List α} {r:List β} {i:Nat} {a:α},Paired F l r->l[i]? =some a->∃b,r[i]? =some b/\F a b
 |_,_,_,_,.nil,e=>by simp at e
 |_,_,0,_,.cons h _,e=>by
  have:=a8 e;subst this;exact⟨(),h⟩
 |_,_,i+1,_,.cons _ t,e=>Paired.at (i:=i) t e
noncomputable def rt(x:Nat×Nat):List Nat:=if x.1=x.2 then num x.1 else num x.1++45::num x.2
noncomputable def Dd(b:Bool)(m l f:Int):Int:=if b=true then jK m l f else j8 m l
theorem Iy{m f:Int}(h:0<=m)(n:Nat):pE m f n=tb m ((f+(1+(n:Int))-1)%7).toNat:=by
 unfold pE;by_cases c:tb m ((f+(1+(n:Int))-1)%7).toNat=true
 ·rw[c];exact dZ ((nE h _).mpr c)
 ·have c':tb m ((f+(1+(n:Int))-1)%7).toNat=false:=by simpa using c
  rw[c'];exact d7 λq=>c ((nE h _).mp q)
theorem wkN_mem{m f z:Int}:∀{n:Nat},z∈oj m f n↔∃j,j<n/\pE m f j=true/\z=1+(j:Int)
 |0=>⟨λh=>(nomatch h),λ⟨j,h,_⟩=>absurd h (Nat.not_lt_zero j)⟩
 |n+1=>by
  show z∈oj m f n++(if pE m f n=true then [1+(n:Int)] else [])↔_;rw[bY,wkN_mem];constructor
  ·rintro (⟨j,h1,h2,h3⟩ | h)
   ·exact⟨j,cJ h1,h2,h3⟩
   ·split at h
    ·rename_i c;exact⟨n,Nat.lt_succ_self n,c,aX.mp h⟩
    ·cases h
  ·rintro⟨j,h1,h2,h3⟩;by_cases c:j=n
   ·subst c;rw[if_pos h2];exact .inr (aX.mpr h3)
   ·exact .inl ⟨j,⋯,h2,h3⟩
theorem JA{m l f:Int}(h0:0<=m)(h1:m<=127)(h:Lf l f)(i:Nat):tb (jK m l f) i=(decide (1<=i)&&(decide ((i:Int)<=l)&&tb m ((f+(i:Int)-1)%7).toNat)):=by
 have hw:=yW m (qj h0 h1) l (kZ h.1.1 h.1.2) f (jn h.2.1 h.2.2);obtain⟨_,hp,hn⟩:=WZ hw.2;rw[hw.1,(UV hp (λz hz=>(hn z hz).1) i).2,cE,List.any_eq_true];simp only[bI,d6];have hl:=h.1.1;constructor
 ·rintro⟨z,hz,e⟩;obtain⟨j,j1,j2,j3⟩:=wkN_mem.mp hz;rw[Iy h0] at j2;have:i=1+j:=⋯;subst this;exact⟨⋯,⋯,j2⟩
 ·rintro⟨i1,i2,i3⟩;refine⟨(i:Int),wkN_mem.mpr ⟨i-1,⋯,?_,⋯⟩,⋯⟩;rw[Iy h0,show (1+((i-1:Nat):Int))=(i:Int) by omega];exact i3
theorem Ai{m l:Int}(h0:0<=m)(hl:28<=l/\l<=31)(i:Nat):tb (j8 m l) i=(tb m i&&tb (2*2^l.toNat-2) i):=by
 have hp:=gT l.toNat;exact ly h0 ⋯ i
theorem sJ{α:Type}(l:List α)(p:α->Bool)(c:Bool):(l.any λx=>c&&p x)=(c&&l.any p):=by
 induction l with
 |nil=>rw[List.any_nil,List.any_nil,Bool.and_false]
 |cons x r ih=>rw[bT,bT,ih,Bool.and_or_distrib_left]
theorem qb{α:Type}{p q:α->Bool}:∀{l:List α},(∀x∈l,p x=q x)->l.any p=l.any q
 |[],_=>rfl
 |x::r,h=>by rw[bT,bT,h x (bF ..),qb λy hy=>h y (bN _ hy)]
theorem xD{b:Bool}{ms:List Int}{l f:Int}(hm:∀m∈ms,0<=m/\(b=true->m<=127))(h:Lf l f)(i:Nat):tb (Dd b (fV ms) l f) i=ms.any λm=>tb (Dd b m l f) i:=by
 have h0:∀m∈ms,0<=m:=λm hz=>(hm m hz).1;cases b with
 |false=>
  show tb (j8 (fV ms) l) i=ms.any λm=>tb (j8 m l) i;rw[Ai (jH h0) h.1,jC h0,Bool.and_comm,←sJ];exact qb λm hz=>by rw[Ai (h0 m hz) h.1,Bool.and_comm]
 |true=>
  have e:(2:Int)^7=128:=by decide
  have hM:fV ms<=127:=by
   have:=tX (n:=7) (ms:=ms) λm hz=>⟨h0 m hz,by have:=(hm m hz).2 rfl;omega⟩;omega
  show tb (jK (fV ms) l f) i=ms.any λm=>tb (jK m l f) i;rw[JA (jH h0) hM h,jC h0,←sJ,←sJ];exact qb λm hz=>by rw[JA (h0 m hz) ((hm m hz).2 rfl) h]
theorem NI{b:Bool}{k:Mk}{m:Int}(hp:k.pl=some m)(hw:k.wk=b)(l f:Int):k.due l f=Dd b m l f:=by
 cases k with
 |num z=>cases hp;cases hw;rfl
 |wkd z=>cases hp;cases hw;rfl
 |lst z=>cases hp
 |nea z=>cases hp
 |wrk=>cases hp
 |nth z y=>cases hp
 |one z=>cases hp
 |nil=>cases hp
theorem xQ{b:Bool}(l f:Int)(i:Nat):∀{ks:List Mk},(∀k∈ks,k.wk=b)->(ks.any λk=>tb (k.due l f) i)=((jA ks).any (λm=>tb (Dd b m l f) i)||(mK ks).any λk=>tb (k.due l f) i)
 |[],_=>rfl
 |k::ks,h=>by
  have ih:=xQ l f i (ks:=ks) λz hz=>h z (bN _ hz);have c:=CT k ks;have hk:=h k (bF ..);rw[bT,ih];cases e:k.pl with
  |some m=>
   rw[e] at c;rw[c.1,c.2,bT,NI e hk,Bool.or_assoc]
  |none=>
   rw[e] at c;rw[c.1,c.2,bT];cases tb (k.due l f) i<;>cases (jA ks).any _<;>rfl
theorem uF{b:Bool}{ks:List Mk}(h:∀k∈ks,k.sp=true/\k.wk=b/\k.ok):∀k∈lR b ks,k.sp=true/\k.wk=b/\k.ok:=λk hk=>by
 rcases bY.mp hk with z | z
 ·exact QE h k z
 ·exact h k ((List.mem_filter.mp z).1)
theorem Qi{b:Bool}{ks:List Mk}{l f:Int}(h:∀k∈ks,k.sp=true/\k.wk=b/\k.ok)(hlf:Lf l f):i6 (lR b ks) l f=i6 ks l f:=by
 refine Sf hlf (λk hk=>(uF h k hk).2.2) (λk hk=>(h k hk).2.2) λi=>?_;have hp:=Bw h;rw[xQ l f i λk hk=>(h k hk).2.1,←xD hp hlf i];unfold lR;rw[List.any_append];congr 1;unfold pF;by_cases c:fV (jA ks)=0
 ·rw[if_pos c,c];have:=xD (b:=b) (ms:=[]) (λm hm=>nomatch hm) hlf i;rw[show fV []=0 from rfl] at this;rw[this];rfl
 ·rw[if_neg c];cases b with
  |true=>show (tb (jK _ l f) i||false)=_;rw[Bool.or_false];rfl
  |false=>show (tb (j8 _ l) i||false)=_;rw[Bool.or_false];rfl
end KM
namespace L2
open PySem PySem.Spec PyProof.Rows
section
variable{X:Cx}{C:Addr}{m:Str}{k k':Nat}{ps:List Str}{sp:Sp}{o:Expr}{ta:TE}{apos pos:Pos}
theorem An{pl:Sem Bool}(c:Cls X.K C)(D:ni X.prog X.w X.K X.mg X.base C m k ps sp)(hr:Room k' X.A)(ho:E X o ta)(hk:k<=k':=by decide)
  (ht:eval (.Call (.Attribute o m apos) [] [] pos) X.env=(do
   let ov ←eval o X.env
   standAt apos.atName
   let (f,first) ←holding [ov] (getMethod ov m pl)
   callWith pos f first (backTo pos (starEach [] X.env)) (backToKw pos (keywordEach [] X.env))):=by rfl):E X (.Call (.Attribute o m apos) [] [] pos) (qA C m sp [] E0 ta il):=by
 obtain⟨f,fd,F,hb,hm⟩:=D.ex;exact⟨OL ho.h c hm F (hr.mono hk) hb .nil mW ht⟩
variable{body:List Stmt}{tb:TS}{h:ExceptHandler}{hs:List ExceptHandler}
theorem WW(hb:Ss X.nox body tb):S X (.Try body (h::hs) [] [] pos) tb:=by
 refine⟨λpins s σ H D I hw=>?_⟩;refine wpAny_Try_except (dU (hb.h pins s σ H D (I.wish _) hw) (λf s1 q=>?_) λe s1 hx=>False.elim hx);cases f with
 |next=>exact wpAny_execs_nil q.unwish
 |ret v=>exact q.unwish
 |brk=>exact q.unwish
 |cont=>exact q.unwish
end
section
variable{js:List Nat}{σ:St}{tt:TT}{te:TE}{Q:VK}{H1:Hp}
theorem Wm{K K':FG}{a:Addr}{xs:List V}(R:Addr->Nat->List V->Hp->Prop)(hm:∀D i l H l',R D i l H->R D i l (upd H D (.lst l')))(hS:∀D i l H H',Same H H'->R D i l H->R D i l H')(hn:xs.length<=sizeLine)(h0:∀D,H1 D=none->R D 0 [] H1)(hq:SqL K H1 a xs)
  (hs:∀(i:Nat) (x:V) (l:List V) (D:Addr) (H2:Hp) (E:V->Hp->Prop) (F:Hp->Prop),xs[i]? =some x->R D i l H2->H1 D=none->Same H1 H2->H2 D=some (.lst l)->(∀y H5,Same H2 H5->R D (i+1) (l++[y]) H5->E y H5)->(∀H4,Same H2 H4->R D (i+1) l H4->F H4)->
   tt (some (.int i)::some x::gy js σ) H2 λb H4=>if b=true then te (some (.int i)::some x::gy js σ) H4 E else F H4)
  (hd:∀(D:Addr) (H2:Hp) (l:List V),R D xs.length l H2->H1 D=none->Same H1 H2->H2 D=some (.lst l)->Q (.ref D) H2):
  vB (mz K a) 2 js (pR K' 2 (qK (jG 0) (qK (jG 1) uC))) σ tt te Q H1:=by
 intro D hD;refine⟨λi m H2=>m=xs.length-i/\i<=xs.length/\Same H1 H2/\∃l,H2 D=some (.lst l)/\l.length<=i/\R D i l H2,⟨xs.length,by simp,bD _,eS hD _,[],eJ,aP _,hm _ _ _ _ _ (h0 D hD)⟩,?_⟩;rintro i m H2 ⟨rfl,hi,s2,l,h2,hll,hR⟩;by_cases hlt:i<xs.length
 ·refine .inr ⟨⟨xs,xs[i],s2.seq hq,by simp[hlt]⟩,λv H3 y τ hτ=>?_⟩;obtain⟨T,rfl,hT,ev⟩:=y;obtain⟨x,hx,rfl⟩:=ev xs (s2.seq hq);have sT:=eS hT (.tup [.int i,x]);have s3:=s2.trans sT;have h3:=sT _ _ h2;obtain⟨t0,t1,rfl⟩:∃t0 t1,τ=[t0,t1]:=by
   match τ,hτ with
   |[a,b],_=>exact⟨a,b,rfl⟩
  have h:=hs i x l D _ (λy H5=>∃ys,H5 D=some (.lst ys)/\ys.length<sizeLine/\∃m',m'<xs.length-i/\(m'=xs.length-(i+1)/\i+1<=xs.length/\Same H1 (upd H5 D (.lst (ys++[y])))/\∃l,(upd H5 D (.lst (ys++[y]))) D=some (.lst l)/\l.length<=i+1/\R D (i+1) l (upd H5 D (.lst (ys++[y]))))) (λH4=>∃m',m'<xs.length-i/\(m'=xs.length-(i+1)/\i+1<=xs.length/\Same H1 H4/\∃l,H4 D=some (.lst l)/\l.length<=i+1/\R D (i+1) l H4)) hx (hS _ _ _ _ _ sT hR) hD s3 h3
   (λz H5 s5 r5=>by
    refine⟨l,s5 _ _ h3,cI hll (bC hlt hn),xs.length-(i+1),⋯,rfl,hlt,λb o hb=>?_,l++[z],eJ,by rw[aS,bX];omega,hm _ _ _ _ _ r5⟩;rw[fh (gF hb hD)];exact s5 _ _ (s3 _ _ hb))
   (λH4 s4 r4=>⟨xs.length-(i+1),⋯,rfl,hlt,s3.trans s4,l,s4 _ _ h3,⋯,r4⟩)
  exact⟨T,[.int i,x],rfl,SqT.of eJ,rfl,.int i,[x],rfl,x,[],rfl,rfl,⟨[some (.int i),some x],rfl,rfl⟩,h⟩
 ·have e:i=xs.length:=⋯;subst e;exact .inl ⟨⟨xs,s2.seq hq,rfl⟩,hd D H2 l hR hD s2 h2⟩
end
def KD(K:FG)(a:Addr)(kvs:List (Int×V)):Prop:=
 ∃(es:Array DictEntry) (ep:Nat) (vs:List (fO×Value)),K.lookup a=some ⟨.type "dict",none,.dict es ep,#[]⟩/\KV (kvs.map λx=>((Sum.inl x.1:fO),x.2)) vs/\(vs.map (·.1)).Nodup/\∀(P:Program) (w:World),KeysOf (lG P w) es/\PySem.Pairs (lG P w) es.toList vs
def Qb(K:FG)(td ty:TE):TE:=λσ H Q=>td σ H λx H1=>ty σ H1 λy H2=>∃a kvs k v,x=.ref a/\KD K a kvs/\y=.int k/\kvs.lookup k=some v/\Q v H2
theorem yZ{k:Int}{v:V}:∀{kvs:List (Int×V)} {vs:List (fO×Value)},KV (kvs.map λx=>((Sum.inl x.1:fO),x.2)) vs->kvs.lookup k=some v->∃w',valueAt vs (Sum.inl k:fO)=some w'/\RelV v w'
 |[],_,_,h=>by cases h
 |(k0,v0)::r,_,.cons (b:=(k1,w1)) h t,hl=>by
  obtain⟨e1,e2⟩:=h;have e1:(Sum.inl k0:fO)=k1:=e1;subst e1;rw[cV] at hl;unfold valueAt;by_cases c:k=k0
  ·subst c;rw[show (k==k)=true from beq_self_eq_true k] at hl;cases hl;refine⟨w1,?_,e2⟩;rw[List.find?_cons_of_pos (by simp)];rfl
  ·rw[show (k==k0)=false from beq_false_of_ne c] at hl;obtain⟨w',h1,h2⟩:=yZ t hl;refine⟨w',?_,h2⟩;rw[List.find?_cons_of_neg (by simp;exact λz=>c z.symm)];exact h1
section
variable{X:Cx}{o i:Expr}{td ty:TE}{pos:Pos}
theorem tQ(ho:E X o td)(hi:E X i ty)(hs:Ao i:=by intro _ _;rfl):E X (.Subscript o i pos) (Qb X.K td ty):=by
 refine⟨λpins s σ H Q I h=>?_⟩;refine Xv PySem.F.slot_dict_getitem.lookup hs (fg (ho.h pins s σ H _ I h) λu s1 ⟨x,H1,I1,rx,q1⟩=>fg (hi.h pins s1 σ H1 _ I1 q1) λiv s2 ⟨y,H2,I2,ry,a,kvs,k,v,ex,hk,ey,l,q2⟩=>?_);subst ex;subst ey;obtain rfl:u=Value.ref a:=rx;obtain⟨es,ep,vs,lk,kv,nd,kp⟩:=hk;obtain⟨k1,k2⟩:=kp X.prog X.w;have dd:s2.heap.DictOf (lG X.prog X.w) a vs:=⟨_,es,ep,I2.kIn _ _ lk,⟨rfl,rfl,rfl⟩,rfl,k1,k2,nd⟩
 obtain⟨w',hw,rw'⟩:=yZ kv l;exact⟨dd.typeIs,wpAny_getItem_of (XE (k:=Sum.inl k) ry) dd.mapOf hw ⟨v,H2,I2.tok _,rw',q2⟩⟩
end
end L2
namespace KM
open PySem PySem.Spec PyProof.Rows L2
theorem Kj{ks:List Mk}{l f:Int}(h:Lf l f)(o:∀k∈ks,k.ok):0<=i6 ks l f:=jH λm hm=>by
 obtain⟨k,hk,rfl⟩:=bJ.mp hm;exact mf (o k hk) h
def DV(c:Cs)(H:Hp)(v:V):Ko->Prop
 |none=>v=.non
 |some ks=>∃p qs,v=.ref p/\H p=some (.lst (qs.map V.ref))/\Ft (MkAt c H) qs ks/\∀k∈ks,k.ok
theorem DV.keep{c:Cs}{H H':Hp}(s:Same H H'){v:V}:∀{ko:Ko},DV c H v ko->DV c H' v ko
 |none,h=>h
 |some _,⟨p,qs,e,h1,h2,h3⟩=>⟨p,qs,e,s _ _ h1,h2.keepM s.keep,h3⟩
noncomputable def iK(ko:Ko)(a l f:Int):Int:=match ko with
 |none=>a
 |some ks=>Builtin.bitOr a (i6 ks l f)
noncomputable def hV(kd kw:Ko)(l f:Int):Int:=if kd.isNone=true/\kw.isNone=true then 2*2^l.toNat-2 else iK kw (iK kd 0 l f) l f
def DT(b:Bool)(t:List Nat)(ko:Ko):Prop:=(32∉t/\t≠[])/\gv b (ip b) (ii b) t/\match ko with
 |none=>t=[42]
 |some ks=>t≠[42]/\(∀k∈ks,k.sp=true/\k.wk=b/\k.ok)/\mm b (ip b) (ii b) t=lR b ks
noncomputable def gO(b:Bool):Ko->Ko
 |none=>none
 |some ks=>some (lR b ks)
theorem yv{b:Bool}{t:List Nat}{ko:Ko}(h:DT b t ko){a l f:Int}(hl:Lf l f):iK (gO b ko) a l f=iK ko a l f:=by
 cases ko with
 |none=>rfl
 |some ks=>
  show Builtin.bitOr a (i6 (lR b ks) l f)=Builtin.bitOr a (i6 ks l f);rw[Qi h.2.2.2.1 hl]
theorem Lr(b:Bool)(ko:Ko):(gO b ko).isNone=ko.isNone:=by cases ko<;>rfl
theorem Nf{t u:List Nat}{kd kw:Ko}(hd:DT false t kd)(hw:DT true u kw){l f:Int}(hl:Lf l f):hV (gO false kd) (gO true kw) l f=hV kd kw l f:=by
 unfold hV;rw[Lr,Lr,yv hd hl,yv hw hl]
theorem u6{c d:Nat}(hcd:c≠d):∀{ws:List (List Nat)},(∀w∈ws,c∉w)->c∉fU d ws
 |[],_=>cB
 |[w],h=>h w (bF ..)
 |w::v::ws,h=>by
  show c∉w++d::fU d (v::ws);rw[bY,aT,not_or,not_or];exact⟨h w (bF ..),hcd,u6 hcd λz hz=>h z (bN _ hz)⟩
theorem BG:∀{ws:List (List Nat)},ws≠[]->(∀w∈ws,w≠[])->∀d,fU d ws≠[]
 |[],h,_,_=>absurd rfl h
 |[w],_,h,_=>h w (bF ..)
 |w::v::ws,_,h,d=>λe=>by
  have e:w++d::fU d (v::ws)=[]:=e;rw[List.append_eq_nil_iff] at e;cases e.2
theorem qe{b:Bool}{ws:List (List Nat)}{ks:List Mk}(h:Ws b ws ks)(hne:ws≠[])(hn:ws.length<=20)(hs:∀w∈ws,w≠[42])(ho:∀k∈ks,k.sp=true/\k.wk=b/\k.ok):DT b (fU 44 ws) (some ks):=by
 have w:=zw h hne hn;refine⟨⟨u6 (by decide) λx hx=>(h.cl x hx).1.2,BG hne (λx hx=>(h.cl x hx).2.1) 44⟩,w.2,λe=>?_,ho,VN h w.1⟩;have e1:=w.1;rw[e] at e1;have e2:eV 44 [42]=[[42]]:=rfl;rw[e2] at e1;exact hs [42] (by rw[←e1];exact aX.mpr rfl) rfl
theorem mI(b:Bool):DT b [42] none:=by
 refine⟨by decide,?_,rfl⟩;have c:Cl [42]/\Gg b [42] (if b=true then .wkd 127 else .num 4294967294):=by
  cases b with
  |true=>exact⟨by decide,rfl,255,by decide +kernel,by decide,by decide +kernel⟩
  |false=>exact⟨by decide,rfl,by decide +kernel,by decide⟩
 exact (zw (.cons c .nil:Ws b [[42]] _) (bU _ _) (by show 1<=20;decide)).2
structure FT(lo hi:Int)(t:List Nat)(m:Int):Prop where
 ok:Ag lo hi t
 len:t.length<=300
 is:fV (kI lo hi t)=m
 sp:32∉t
 ne:t≠[]
 nn:0<=m
theorem HS{lo hi:Int}{ws:List (List Nat)}{nss:List (List Int)}(h:Paired (mx lo hi) ws nss)(hne:ws≠[])(hn:ws.length<=20):FT lo hi (fU 44 ws) (fE nss.flatten):=by
 have all:∀{ws:List (List Nat)} {nss:List (List Int)},Paired (mx lo hi) ws nss->(∀w∈ws,Cl w/\(gf lo hi w).isSome=true)/\(ws.map λw=>(gf lo hi w).getD 0)=nss.map fE:=by
  intro ws nss h;induction h with
  |nil=>exact⟨λw hw=>(nomatch hw),rfl⟩
  |cons r t ih=>
   refine⟨λw hw=>?_,?_⟩
   ·rcases aT.mp hw with z | z
    ·subst z;exact⟨r.2.1,by rw[r.1];rfl⟩
    ·exact ih.1 w z
   ·rw[bV,bV,ih.2,r.1];rfl
 have a:=all h;have hs:=oS 44 ws hne λw hw=>(a.1 w hw).1.1.1;have hl:=tI ws λw hw=>(a.1 w hw).1.2.2;refine⟨⟨by rw[hs];omega,by rw[hs];exact λw hw=>(a.1 w hw).2⟩,⋯,?_,u6 (by decide) λx hx=>(a.1 x hx).1.1.2,BG hne (λx hx=>(a.1 x hx).1.2.1) 44,jg _⟩;unfold kI;rw[hs,a.2];have nn:∀m∈nss.map fE,0<=m:=λm hm=>by
  obtain⟨z,_,rfl⟩:=bJ.mp hm;exact jg _
 refine jy (jH nn) (jg _) λi=>?_;rw[jC nn,ng,List.any_map,List.any_flatten];exact qb λz _=>ng z i
end KM
namespace L2
open PySem PySem.Spec PyProof.Rows
section
open PySem.W Builtin Builtin.ObjectAttr
variable{prog:Program}{w:World}{A:Around}{E:Value->Shared->Prop}{s:Shared}{K:FG}{x C:Addr}{f:Str}{v:Value}{o:Obj}{vs:Array Value}
end
def PY(e C:Addr)(d:Option Addr)(h:Heap):Prop:=∃(vs:Array Value) (sl:Array (Option Value)),h.get? e=some ⟨.ref C,d,.fields vs,sl⟩/\vs[1]? =some .none/\vs[2]? =some .none/\4<vs.size
noncomputable def xn(a C:Addr)(d:Option Addr):HO:=.ext (PY a C d)
theorem PY.ok{P:Program}{w:World}{H:Hp}{h:Heap}{a C:Addr}{d:Option Addr}(x:PY a C d h):ObjOk P w H h a (xn a C d):=by
 obtain⟨vs,sl,e,r⟩:=id x;exact⟨x,⟨_,e⟩,λh1 h2 ⟨vs,sl,e,r⟩ k=>⟨vs,sl,k _ e,r⟩⟩
section
open PySem.W
variable{prog:Program}{w:World}{A:Around}{E:Value->Shared->Prop}{s:Shared}{K:FG}{C fI:Addr}
variable{X:Cx}{pins:List (Addr×Obj)}{σ:St}{H:Hp}
variable{env:Env}
end
structure RoomQ(k:Nat)(A:Around):Prop where
 dp:A.depth+3*k+5<recursionLimit
 un:A.units+16*k+200<cLine
theorem Room.q{k:Nat}{A:Around}(r:Room k A):RoomQ k A:=⟨r.dp,r.un⟩
theorem RoomQ.units{k:Nat}{A:Around}(r:RoomQ k A):A.units+64<cLine:=by have:=r.un;omega
end L2
namespace L2
open PySem PySem.Spec PyProof.Rows PySem.SeqAt
end L2
namespace L2
open PySem PySem.Spec PyProof.Rows PySem.SeqAt
section
variable{X:Cx}
theorem Pk{x:Str}{k k':Nat}{sp:Sp}{p pos:Pos}(D:Df X.prog X.w X.K X.mg X.base x k [] sp)(hr:Room k' X.A)(hk:k<=k':=by decide)(hg:Gl X x:=by rfl)
  (hdb:(x==("__debug__":Str))=false:=by decide):E X (.Call (.Name x p) [] [] pos) (nB sp [] E0 il):=by
 obtain⟨f,fd,F,hb,hm,kp⟩:=D.ex;exact⟨NO F (hr.mono hk) hg hm kp hb .nil mW hdb⟩
end
theorem vg{us:List Value}(h:us.length=0):us=[]:=c8 h
theorem Tv{K:FG}{H H':Hp}{v:V}{t:Value}(s:Same H H')(h:iP K H v t):iP K H' v t:=by
 cases h with
 |non=>exact .non
 |bl x=>exact .bl x
 |int i=>exact .int i
 |str x=>exact .str x
 |flt x=>exact .flt x
 |lst e=>exact .lst (s _ _ e)
 |frz e=>exact .frz (s _ _ e)
 |tup e=>exact .tup (s _ _ e)
 |dK e=>exact .dK (s _ _ e)
 |dT e=>exact .dT (s _ _ e)
 |ins e c a n k m=>exact .ins (s _ _ e) c a n k m
def IsB(K:FG)(C:Addr)(H:Hp)(v:V)(b:Bool):Prop:=∃t,iP K H v t/\PySem.W.kitOne K t (.ref C)=some b
theorem IsB.keep{K:FG}{C:Addr}{H H':Hp}{v:V}{b:Bool}(h:IsB K C H v b)(s:Same H H'):IsB K C H' v b:=by
 obtain⟨t,h1,h2⟩:=h;exact⟨t,Tv s h1,h2⟩
def Aq(t u:TS):TS:=λD σ H=>∃I:St->Hp->Prop,t {D with nx:=I} σ H/\∀σ' H',I σ' H'->u D σ' H'
theorem Sk{X:Cx}{st:Stmt}{rest:List Stmt}{t u:TS}(h1:S X st t)(h2:Ss X rest u):Ss X (st::rest) (Aq t u):=by
 refine⟨λpins s σ H D I h=>?_⟩;obtain⟨J,h,hJ⟩:=h;refine wpAny_execs_cons (fg (h1.h pins s σ H {D with nx:=J} I h) λf s1 q=>?_);cases f with
 |next=>
  obtain⟨σ',H',I',q⟩:=q;exact h2.h pins s1 σ' H' D I' (hJ _ _ q)
 |ret v=>exact q
 |brk=>exact q
 |cont=>exact q
theorem Digs.non{ds:List Int}(h:Digs ds []):ds=[]:=by cases h;rfl
noncomputable def mZ(K:FG)(a b:Addr):It:=
 ⟨λi H=>∃xs ys x y,SqL K H a xs/\SqL K H b ys/\xs[i]? =some x/\ys[i]? =some y,λi H v H'=>∃T,v=.ref T/\H T=none/\∀xs ys,SqL K H a xs->SqL K H b ys->∃x y,xs[i]? =some x/\ys[i]? =some y/\H'=upd H T (.tup [x,y]),
  λi H=>∃xs ys,SqL K H a xs/\SqL K H b ys/\(xs.length=i∨ys.length=i)⟩
theorem NV{P:Program}{w:World}{K:FG}{es:List Expr}{kk:Nat}{pos:Pos}(a b z TI TO i1 i2:Addr)(n:Nat)(ez:z=n+4)(eI:TI=n+2)(eO:TO=n+3)(e1:i1=n)(e2:i2=n+1):
  ij P w K (.Tuple es kk pos) (mZ K a b) [z,TI,TO,i1,i2] z (λi h=>IsZip h z TI TO .none/\IsPair h TI (.ref i1) (.ref i2)/\(∃x y,IsPair h TO x y)/\h.IsListIter i1 a i/\h.IsListIter i2 b i/\a<n/\b<n) where
 mem:=by simp
 obj:=λi h st c hc=>by
  obtain⟨hz,hI,⟨x,y,hO⟩,⟨o1,q1,_,d1⟩,⟨o2,q2,_,d2⟩,_⟩:=st;simp only[aT,cB,or_false] at hc;rcases hc with rfl | rfl | rfl | rfl | rfl
  ·exact⟨_,hz,λv q=>by have q':Data.fields _=Data.cell v:=q;cases q'⟩
  ·exact⟨_,hI,λv q=>by have q':Data.seq _ _=Data.cell v:=q;cases q'⟩
  ·exact⟨_,hO,λv q=>by have q':Data.seq _ _=Data.cell v:=q;cases q'⟩
  ·exact⟨o1,q1,λv q=>by rw[d1] at q;cases q⟩
  ·exact⟨o2,q2,λv q=>by rw[d2] at q;cases q⟩
 keep:=λi h h' st k=>by
  obtain⟨hz,hI,⟨x,y,hO⟩,h1,h2,la,lb⟩:=st;exact⟨k _ (by simp) _ hz,k _ (by simp) _ hI,⟨x,y,k _ (by simp) _ hO⟩,h1.at λo q=>k _ (by simp) o q,h2.at λo q=>k _ (by simp) o q,la,lb⟩
 item:=by
  intro X hP hw hK hc i pins s σ H E I hf st hg;subst hP hw hK;obtain⟨xs,ys,x,y,hq,hr,hx,hy⟩:=hg;obtain⟨hz,hI,⟨x0,y0,hO⟩,h1,h2,la,lb⟩:=st;obtain⟨its,rv,p,_⟩:=I.list hq;obtain⟨its',rv',p',_⟩:=I.list hr;obtain⟨u,hu,ru⟩:=rv.get hx;obtain⟨u',hu',ru'⟩:=rv'.get hy;have D:ZipApart z TI TO i1 i2 a b:=by subst ez eI eO e1 e2;exact zipApart_new la lb
  refine wpAny_pyNext_zip_item D hz hI hO h1 h2 p.isList p'.isList (x:=u) (y:=u') (by simpa using hu) (by simpa using hu') λg ho hO1 hj1 hj2 hT hsz hk=>?_;refine⟨(),wpAny_letOwnedTupleGo_zip ho λg2 hz2 sb=>?_⟩;have lz:z<s.heap.objs.size:=aR hz;have k2:∀c oc,c∉[z,TI,TO,i1,i2]->s.heap.get? c=some oc->g2.get? c=some oc:=λc oc hc q=>by
   simp only[aT,cB,or_false,not_or] at hc;exact (sb.2 c hc.1).trans (hk c oc hc.1 hc.2.2.1 hc.2.2.2.1 hc.2.2.2.2 q)
  have hTz:s.heap.objs.size≠z:=Nat.ne_of_gt lz;have hT2:g2.get? s.heap.objs.size=some {cls:=.type "tuple",data:=.seq #[u,u']}:=(sb.2 _ hTz).trans hT;have hn:=I.hok.fresh (aP s.heap.objs.size);have I2:Inv X pins σ (upd H s.heap.objs.size (.tup [x,y])) {s with heap:=g2,toks:=s.toks}:=I.turnT k2 hf (aP _) ⟨by show 2<=sizeLine;decide,[u,u'],.cons ru (.cons ru' .nil),⟨_,hT2,rfl,()⟩⟩;refine⟨.ref s.heap.objs.size,_,I2,rfl,⟨s.heap.objs.size,rfl,hn,λxs' ys' e e'=>⟨x,y,by rw[I.list_inj e hq];exact hx,by rw[I.list_inj e' hr];exact hy,rfl⟩⟩,⟨hz2,?_,⟨_,_,(sb.2 _ D.TOz).trans hO1⟩,hj1.at λo q=>(sb.2 _ D.i1z).trans q,hj2.at λo q=>(sb.2 _ D.i2z).trans q,la,lb⟩,λc hc=>?_⟩
  ·exact (sb.2 _ D.TIz).trans (hk _ _ D.TIz D.TITO D.TIi1 D.TIi2 hI)
  have hclt:c<s.heap.objs.size:=by
   have m1:=aR hI;have m2:=aR hO;obtain⟨_,q1,_⟩:=h1;obtain⟨_,q2,_⟩:=h2;simp only[aT,cB,or_false] at hc;rcases hc with rfl | rfl | rfl | rfl | rfl
   ·exact lz
   ·exact m1
   ·exact m2
   ·exact aR q1
   ·exact aR q2
  rw[fh (aW hclt)];exact (hf c hc).1
 done:=by
  intro X hP hw hK hc i pins s σ H E I hf st hg;subst hP hw hK;obtain⟨xs,ys,hq,hr,hx⟩:=hg;obtain⟨hz,hI,⟨x0,y0,hO⟩,h1,h2,la,lb⟩:=st;obtain⟨its,rv,p,_⟩:=I.list hq;obtain⟨its',rv',p',_⟩:=I.list hr;have l1:=rv.length;have l2:=rv'.length;have D:ZipApart z TI TO i1 i2 a b:=by subst ez eI eO e1 e2;exact zipApart_new la lb
  refine wpAny_pyNext_zip_end (I.ok.hd hc) D hz hI hO h1 h2 p.isList p'.isList (hx.imp (λe=>by simp;omega) λe=>by simp;omega) λh' hk=>⟨rfl,?_⟩;exact I.turnN (ch:=[z,TI,TO,i1,i2]) (t':=s.toks) (λc oc hc q=>by
   simp only[aT,cB,or_false,not_or] at hc;exact hk c oc hc.1 hc.2.2.1 hc.2.2.2.1 hc.2.2.2.2 q) hf
 self:=λ_ _ _ _ _ st h=>wpAny_pyIter_zip st.1 h
section
variable{X:Cx}{es:List Expr}{kk:Nat}{tpos:Pos}
def M4(K:FG)(tl tr:TE):TI:=λσ H R=>tl σ H λx H1=>tr σ H1 λy H2=>∃a b,x=.ref a/\y=.ref b/\(∃xs,SqL K H2 a xs)/\(∃ys,SqL K H2 b ys)/\R (mZ K a b) H2
theorem iZ{l r:Expr}{tl tr:TE}{p pos:Pos}(hm:X.mg "zip"=none)(hl:E X l tl)(hr:E X r tr)(hg:Gl X "zip":=by rfl)(hs:starEach [l,r] X.env=[(false,eval l X.env),(false,eval r X.env)]:=by rfl)(hs2:starEach [r] X.env=[(false,eval r X.env)]:=by rfl):
  Il X (.Tuple es kk tpos) (.Call (.Name "zip" p) [l,r] [] pos) (M4 X.K tl tr):=by
 refine⟨λpins s σ H R I h=>?_⟩;have hA:PA X [l,r] (iI tl (iI tr il)):=jR hl.h (jR hr.h kz hs2) (by rw[hs,hs2]);refine Call_ (mh I hg hm boot_zip (PyProof.Rows.callWith_type1 (fg (hA pos pins s σ H (λvs H1=>match vs with | [x,y]=>∃a b,x=.ref a/\y=.ref b/\(∃xs,SqL X.K H1 a xs)/\(∃ys,SqL X.K H1 b ys)/\R (mZ X.K a b) H1 | _=>False) I ?_) λus s1 ⟨vs,H1,I1,r1,q1⟩=>?_) (by rw[hs,hs2]) (by rw[hs2];rfl)))
 ·exact h
 match vs,q1,r1 with
 |[x,y],q1,r1=>?_
 obtain⟨a,b,rfl,rfl,⟨xs,hq⟩,⟨ys,hq'⟩,q⟩:=q1;obtain⟨u,u',rfl,rx,ry⟩:=mO r1;cases rx;cases ry;obtain⟨its,rv,pl,hz⟩:=I1.list hq;obtain⟨its',rv',pl',hz'⟩:=I1.list hq';have la:a<s1.heap.objs.size:=by obtain⟨o,q,_⟩:=pl.isList;exact aR q
 have lb:b<s1.heap.objs.size:=by obtain⟨o,q,_⟩:=pl'.isList;exact aR q
 refine call_zip_2 pl.isList pl'.isList λh' hzp hI hO hi1 hi2 hsz hk=>?_;refine wpAny_pyIter_zip hzp ?_;have I2:Inv X pins σ H1 {s1 with heap:=h'}:=I1.kept (t':=s1.toks) hk;refine⟨_,_,_,_,H1,rfl,I2,NV a b _ _ _ _ _ s1.heap.objs.size rfl rfl rfl rfl rfl,⟨hzp,hI,⟨_,_,hO⟩,hi1,hi2,la,lb⟩,λc hc=>?_,q⟩;have hb2:s1.heap.objs.size<=c:=by
  simp only[aT,cB,or_false] at hc;rcases hc with rfl | rfl | rfl | rfl | rfl
  ·exact c7 _ _
  ·exact c7 _ _
  ·exact c7 _ _
  ·exact aP _
  ·exact c7 _ _
 exact I1.fpOk hb2 (I1.hok.fresh hb2)
variable{js:List Nat}{σ:St}{tt:TT}{te:TE}{Q:VK}{H1:Hp}
end
theorem hW{X:Cx}{K:FG}{e:Expr}{f:Str}{ta:TE}{pos:Pos}(he:E X e ta)(hK:X.K=K:=by rfl)(hb:attributeBase e f X.env (eval e X.env)=eval e X.env:=by rfl):E X (.Attribute e f pos) (wn K ta f):=hK▸Qw he hb
section
variable{js:List Nat}{σ:St}{tt:TT}{te:TE}{Q:VK}{H1:Hp}
theorem p6{K:FG}{a:Addr}{xs:List V}(R:Addr->Nat->List V->Hp->Prop)(hm:∀D i l H l0 l',H D=some (.lst l0)->H1 D=none->R D i l H->R D i l (upd H D (.lst l')))(hn:xs.length<=sizeLine)(h0:∀D,H1 D=none->R D 0 [] (upd H1 D (.lst [])))(hq:SqL K H1 a xs)
  (hs:∀(i:Nat) (v:V) (l:List V) (D:Addr) (H2:Hp) (E:V->Hp->Prop) (F:Hp->Prop),xs[i]? =some v->R D i l H2->H1 D=none->Same H1 H2->H2 D=some (.lst l)->(∀y H5,Same H2 H5->R D (i+1) (l++[y]) H5->E y H5)->(∀H4,Same H2 H4->R D (i+1) l H4->F H4)->
   tt (some v::gy js σ) H2 λb H4=>if b=true then te (some v::gy js σ) H4 E else F H4)
  (hd:∀(D:Addr) (H2:Hp) (l:List V),R D xs.length l H2->H1 D=none->Same H1 H2->H2 D=some (.lst l)->Q (.ref D) H2):l7 (mR K a) js σ tt te Q H1:=by
 intro D hD;refine⟨λi m H2=>m=xs.length-i/\i<=xs.length/\Same H1 H2/\∃l,H2 D=some (.lst l)/\l.length<=i/\R D i l H2,⟨xs.length,by simp,bD _,eS hD _,[],eJ,aP _,h0 D hD⟩,?_⟩;rintro i m H2 ⟨rfl,hi,s2,l,h2,hll,hR⟩;by_cases hlt:i<xs.length
 ·refine .inr ⟨⟨xs,xs[i],s2.seq hq,by simp[hlt]⟩,λv H3 y=>?_⟩;obtain⟨e,ev⟩:=y;subst e;refine hs i v l D _ _ _ (ev xs (s2.seq hq)) hR hD s2 h2 (λz H5 s5 r5=>?_) (λH4 s4 r4=>?_)
  ·refine⟨l,s5 _ _ h2,cI hll (bC hlt hn),xs.length-(i+1),⋯,rfl,hlt,λb o hb=>?_,l++[z],eJ,by rw[aS,bX];omega,hm _ _ _ _ _ _ (s5 _ _ h2) hD r5⟩;rw[fh (gF hb hD)];exact s5 _ _ (s2 _ _ hb)
  ·exact⟨xs.length-(i+1),⋯,rfl,hlt,s2.trans s4,l,s4 _ _ h2,⋯,r4⟩
 ·have e:i=xs.length:=⋯;subst e;exact .inl ⟨⟨xs,s2.seq hq,aP _⟩,hd D H2 l hR hD s2 h2⟩
theorem Ni{lo:Int}{n:Nat}(R:Addr->Nat->List V->Hp->Prop)(hm:∀D i l H l0 l',H D=some (.lst l0)->H1 D=none->R D i l H->R D i l (upd H D (.lst l')))(hn:n<=sizeLine)(h0:∀D,H1 D=none->R D 0 [] (upd H1 D (.lst [])))
  (hs:∀(i:Nat) (l:List V) (D:Addr) (H2:Hp) (E:V->Hp->Prop) (F:Hp->Prop),i<n->R D i l H2->H1 D=none->Same H1 H2->H2 D=some (.lst l)->(∀y H5,Same H2 H5->R D (i+1) (l++[y]) H5->E y H5)->(∀H4,Same H2 H4->R D (i+1) l H4->F H4)->
   tt (some (.int (lo+i))::gy js σ) H2 λb H4=>if b=true then te (some (.int (lo+i))::gy js σ) H4 E else F H4)
  (hd:∀(D:Addr) (H2:Hp) (l:List V),R D n l H2->H1 D=none->Same H1 H2->H2 D=some (.lst l)->Q (.ref D) H2):l7 (ki lo n) js σ tt te Q H1:=by
 intro D hD;refine⟨λi m H2=>m=n-i/\i<=n/\Same H1 H2/\∃l,H2 D=some (.lst l)/\l.length<=i/\R D i l H2,⟨n,by simp,bD _,eS hD _,[],eJ,aP _,h0 D hD⟩,?_⟩;rintro i m H2 ⟨rfl,hi,s2,l,h2,hll,hR⟩;by_cases hlt:i<n
 ·refine .inr ⟨hlt,λv H3 y=>?_⟩;obtain⟨e,ev⟩:=y;subst e ev;refine hs i l D _ _ _ hlt hR hD s2 h2 (λz H5 s5 r5=>?_) (λH4 s4 r4=>?_)
  ·refine⟨l,s5 _ _ h2,cI hll (bC hlt hn),n-(i+1),⋯,rfl,hlt,λb o hb=>?_,l++[z],eJ,by rw[aS,bX];omega,hm _ _ _ _ _ _ (s5 _ _ h2) hD r5⟩;rw[fh (gF hb hD)];exact s5 _ _ (s2 _ _ hb)
  ·exact⟨n-(i+1),⋯,rfl,hlt,s2.trans s4,l,s4 _ _ h2,⋯,r4⟩
 ·have e:i=n:=⋯;subst e;exact .inl ⟨aP _,hd D H2 l hR hD s2 h2⟩
variable{prog:Program}{w:World}{A:Around}{E:Value->Shared->Prop}{s:Shared}
variable{X:Cx}{es:List Expr}{kk:Nat}{tpos:Pos}
end
end L2
namespace L2
open PySem PySem.Spec PyProof.Rows PySem.SeqAt
noncomputable abbrev rh:=Int×Int×Int
noncomputable def qE(p:rh):PyData:=.tuple [.int p.1,.int p.2.1,.int p.2.2]
noncomputable def si(l:List rh):PyData:=.list (l.map qE)
section
variable{X:Cx}
theorem K2:∀ns ms:List rh,PySem.Spec.sameAll (ns.map qE) (ms.map qE)=decide (ns=ms)
 |[],[]=>by simp[PySem.Spec.sameAll]
 |[],_::_=>by simp[PySem.Spec.sameAll]
 |_::_,[]=>by simp[PySem.Spec.sameAll]
 |(a,b,c)::r,(x,y,z)::q=>by
  simp only[bV,qE,PySem.Spec.sameAll,PySem.Spec.same,K2 r q];by_cases h1:a=x<;>by_cases h2:b=y<;>by_cases h3:c=z<;>simp[h1,h2,h3]
theorem nV:∀ns ms:List (List rh),PySem.Spec.sameAll (ns.map si) (ms.map si)=decide (ns=ms)
 |[],[]=>by simp[PySem.Spec.sameAll]
 |[],_::_=>by simp[PySem.Spec.sameAll]
 |_::_,[]=>by simp[PySem.Spec.sameAll]
 |a::r,b::q=>by
  simp only[bV,si,PySem.Spec.sameAll,PySem.Spec.same,K2 a b,nV r q];by_cases h1:a=b<;>simp[h1]
end
def SameBut(S:Addr->Prop)(H H':Hp):Prop:=∀b o,H b=some o->¬S b->H' b=some o
theorem SameBut.trans{S:Addr->Prop}{H H1 H2:Hp}(a:SameBut S H H1)(b:SameBut S H1 H2):SameBut S H H2:=λc o h n=>b c o (a c o h n) n
theorem SameBut.seq{S:Addr->Prop}{K:FG}{H H':Hp}{a:Addr}{xs:List V}(e:SameBut S H H')(n:∀o,H a=some o->¬S a)(h:SqL K H a xs):SqL K H' a xs:=by
 rcases h with (h | ⟨o,h⟩) | h
 ·exact .inl (.inl (e _ _ h (n _ h)))
 ·exact .inl (.inr ⟨o,e _ _ h (n _ h)⟩)
 ·exact .inr h
theorem eX{N P:List Str}{sc:Scope}(h1:sc.kind=.function:=by rfl)(h2:sc.isCoroutine=false:=by rfl)(h3:sc.isGenerator=false:=by rfl)(h4:N.Nodup:=by decide +kernel)(h5:N.take P.length=P:=by rfl)(h6:∀x∈P,sc.names.lookup x=some .local∨sc.names.lookup x=some .cell:=by decide +kernel)(h7:∀y∈sc.names,y.2≠ .free:=by decide +kernel):eC N P sc:=⟨h1,h2,h3,h4,h5,h6,h7⟩
theorem zL(n:Nat)(h:n<=100:=by decide):n<=sizeLine:=by rw[dW];omega
end L2
namespace L2
open PySem PySem.Spec PyProof.Rows PySem.W
noncomputable def gr(H:Hp)(a:Addr):Hp:=λb=>if b=a then none else H b
theorem nN{H:Hp}{a:Addr}:gr H a a=none:=if_pos rfl
theorem gU{H:Hp}{a b:Addr}(h:b≠a):gr H a b=H b:=if_neg h
theorem oX{H:Hp}{a b:Addr}{o:HO}(h:gr H a b=some o):b≠a/\H b=some o:=by
 by_cases e:b=a
 ·rw[e,nN] at h;cases h
 ·rw[gU e] at h;exact⟨e,h⟩
section
variable{P:Program}{w:World}{H:Hp}{h:Heap}{a:Addr}{o:HO}
theorem HOk.era_(x:HOk P w H h)(no:∀z,H a≠some (.own z))(nt:∀xs,H a≠some (.tup xs)):HOk P w (gr H a) h:=λb u e=>by
 obtain⟨hb,e⟩:=oX e;refine (x b u e).stay (λ_ _ _ q=>q) (λc q=>?_) λc xs q=>?_
 ·by_cases z:c=a
  ·exact absurd (z▸q) (no b)
  ·rw[gU z];exact q
 ·by_cases z:c=a
  ·exact absurd (z▸q) (nt xs)
  ·rw[gU z];exact q
theorem HOk.track(x:HOk P w H h)(hn:H a=none)(new:ObjOk P w (upd H a o) h a o):HOk P w (upd H a o) h:=λb u e=>by
 by_cases hb:b=a
 ·subst hb;rw[eJ] at e;cases e;exact new
 ·rw[fh hb] at e;exact (x b u e).stay (λ_ _ _ q=>q) (λc q=>by rw[fh (gF q hn)];exact q) λc xs q=>by rw[fh (gF q hn)];exact q
end
end L2
namespace L2
open PySem PySem.Spec PyProof.Rows PySem.W
end L2
namespace L2
open PySem PySem.Spec PyProof.Rows PySem.W
section
variable{X:Cx}
def Calls(P:Program)(w:World)(K:Frag)(mg:Str->Option Value)(base:Heap)(k:Nat)(f:Addr)(vs:List V)(H:Hp)(Q:VK):Prop:=
 ∀(A:Around) (outer:List Env) (s:Shared) (us:List Value),Room k A->Env0 P w K mg base A outer s H->Vals vs us->codeAny (model P w) A (.call (.ref f) ⟨us,[]⟩) (CR iQ outer P w H s Q E0) s
end
end L2
namespace L2
open PySem PySem.Spec PyProof.Rows PySem.W
end L2
namespace L2
open PySem PySem.Spec PyProof.Rows PySem.SeqAt
end L2
namespace L2
open PySem PySem.Spec PyProof.Rows PySem.SeqAt
theorem eH{X:Cx}{st:Stmt}{rest:List Stmt}{t u:TS}(h1:S X st t)(h2:Ss X rest u):Ss X (st::rest) (let r:=u;uP t r):=O9 h1 h2
theorem lP{X:Cx}{st:Stmt}{rest:List Stmt}{t u:TS}(h1:S X st t)(h2:Ss X rest u):Ss X (st::rest) (let r:=u;Aq t r):=Sk h1 h2
theorem EJ{J:It}{js:List Nat}{σ:St}{tt:TT}{te:TE}{Q:VK}{H1:Hp}(h:l7 J js σ tt te Q H1):vB J 1 js (jG 0) σ tt te Q H1:=by
 intro D hD;obtain⟨W,h0,hs⟩:=h D hD;refine⟨W,h0,λi m H2 w=>?_⟩;rcases hs i m H2 w with z | ⟨hg,z⟩
 ·exact .inl z
 ·refine .inr ⟨hg,λv H3 y τ hτ=>?_⟩;obtain⟨u,rfl⟩:∃u,τ=[u]:=List.length_eq_one_iff.mp hτ;exact⟨⟨[some v],rfl,rfl⟩,z v H3 y⟩
section
variable{X:Cx}{elt iter:Expr}{x y:Str}{px py pos spos:Pos}{ifs:List Expr}{scope:Scope}{N':List Str}{js:List Nat}{tt:TT}{te:TE}{wi:TI}
theorem xg{cl:List (Str×Addr)}{C:Addr}{ex:List Addr}{pins:List (Addr×Obj)}{s:Shared}{H:Hp}(hx:scope.names.lookup x=some .local)(hnd:(x::N').Nodup):Gt (gJ X ([x]++N') scope cl C ex pins s H) (.Name x px) (jG 0):=by
 have hl:(relabel scope X.env).names.lookup x=some .local:=by rw[tJ,hx];rfl
 exact⟨Kh hnd rfl (.inl hl) (.inr hl)⟩
theorem kn(N':List Str)(js:List Nat)(hi:Il X (.Name x px) iter wi)
  (ht:∀(cl:List (Str×Addr)) (C:Addr) (ex:List Addr) (pins:List (Addr×Obj)) (s:Shared) (H:Hp),Fs (gJ X (x::N') scope cl C ex pins s H) ifs tt)
  (he:∀(cl:List (Str×Addr)) (C:Addr) (ex:List Addr) (pins:List (Addr×Obj)) (s:Shared) (H:Hp),E (gJ X (x::N') scope cl C ex pins s H) elt te)
  (hcl:∃cl,jd X scope cl:=by exact wm rfl rfl rfl rfl) (hx:scope.names.lookup x=some .local:=by rfl) (hnd:(x::N').Nodup:=by decide +kernel) (hN:js.map (λj=>X.N[j]?)=N'.map some:=by rfl)
  (hk:N'.all (λy=>(X.env.kindOf y==some .cell)||(X.env.kindOf y==some .free))=true:=by rfl) (hf:N'.all (λy=>scope.names.lookup y==some .free)=true:=by rfl) (hc:X.calm=true:=by rfl)
  (hs:∀x,foldedSetIterable iter X.env x=pure x:=by intro _;rfl):E X (.ListComp elt [⟨.Name x px,iter,ifs,0⟩] scope pos) (yX wi js tt te):=by
 obtain⟨cl,hcl⟩:=hcl;refine⟨λpins s σ H Q I h=>?_⟩;rw[eval_ListComp];refine wpAny_comprehension_free (use:=none) rfl hs hcl.is hcl.kind hcl.names (fg (hi.h pins s σ H _ I h) λxv s₁ h₁=>fg h₁ λitv s₂ h₂=>?_);obtain⟨it,fp,tn,J,H2,rfl,I2,T,st,hfp,q⟩:=h₂;refine vf (xs:=[x]) (g:=jG 0) (RR:=λacc C=>compPost (model X.prog X.w) X.A X.xe none (EP X pins σ Q) acc C) hcl hnd hN hk hf hc (λ_ _ _ _ _=>(xg hx hnd).h) (λC ex pins s H=>(ht cl C ex pins s H).h) (λC ex pins s H=>(he cl C ex pins s H).h) I2 T st hfp (EJ q) ?_
 intro D C s' H' m I' hC0 hCL hCs hCc hCp hn hq;refine⟨m,hn,λh' sb=>⟨.ref D,H',?_,rfl,hq⟩⟩;exact I'.turned (t':=s'.toks) (λb o hb e=>(sb.2 b hb).trans e) hC0 hCL (.inr hCs) hCc hCp
theorem Ei(i:Nat)(N':List Str)(js:List Nat)(hi:Il X (.Name x px) iter wi)
  (ht:∀(cl:List (Str×Addr)) (C:Addr) (ex:List Addr) (pins:List (Addr×Obj)) (s:Shared) (H:Hp),Fs (gJ X (x::N') scope cl C ex pins s H) ifs tt)
  (he:∀(cl:List (Str×Addr)) (C:Addr) (ex:List Addr) (pins:List (Addr×Obj)) (s:Shared) (H:Hp),E (gJ X (x::N') scope cl C ex pins s H) elt te)
  (hXN:X.N.Nodup) (hsw:swapsWith (.ListComp elt [⟨.Name x px,iter,ifs,0⟩] scope pos) (some (.Name y py)) spos.line X.env=pure true:=by rfl)
  (hiN:X.N[i]? =some y:=by rfl) (hy:X.env.scope.names.lookup y=some .local:=by rfl)
  (hcl:∃cl,jd X scope cl:=by exact wm rfl rfl rfl rfl) (hx:scope.names.lookup x=some .local:=by rfl) (hnd:(x::N').Nodup:=by decide +kernel) (hN:js.map (λj=>X.N[j]?)=N'.map some:=by rfl)
  (hk:N'.all (λy=>(X.env.kindOf y==some .cell)||(X.env.kindOf y==some .free))=true:=by rfl) (hf:N'.all (λy=>scope.names.lookup y==some .free)=true:=by rfl) (hc:X.calm=true:=by rfl)
  (hs:∀x,foldedSetIterable iter X.env x=pure x:=by intro _;rfl):S X (.Assign [.Name y py] (.ListComp elt [⟨.Name x px,iter,ifs,0⟩] scope pos) spos) (oH (yX wi js tt te) (jG i)):=by
 obtain⟨cl,hcl⟩:=hcl;refine⟨λpins s σ H D I h=>?_⟩;rw[exec_Assign_Name_used _ _ _ _ hsw];refine dR (wpAny_standAt (dR ?_));show wpAny _ X.A (do let _ ←comprehension (.ListComp elt [⟨.Name x px,iter,ifs,0⟩] scope pos) scope X.env _ (newList []) false (eval iter X.env) (some (assign (.Name y py) X.env))) _ _ s
 refine dR (dU (wpAny_comprehension_free (use:=some (assign (.Name y py) X.env)) (Q:=λ_ s'=>SP X pins D .next s') rfl hs hcl.is hcl.kind hcl.names ?_) (λ_ s' hq=>d9 (d9 hq)) λ_ _ z=>z);refine fg (hi.h pins s σ H _ I h) λxv s₁ h₁=>fg h₁ λitv s₂ h₂=>?_;obtain⟨it,fp,tn,J,H2,rfl,I2,T,st,hfp,q⟩:=h₂;refine vf (xs:=[x]) (g:=jG 0) (Q:=λv H'=>D.nx (σ.set i (some v)) H') (RR:=λacc C=>compPost (model X.prog X.w) X.A X.xe (some (assign (.Name y py) X.env)) (λ_ s'=>SP X pins D .next s') acc C) hcl hnd hN hk hf hc (λ_ _ _ _ _=>(xg hx hnd).h) (λC ex pins s H=>(ht cl C ex pins s H).h) (λC ex pins s H=>(he cl C ex pins s H).h) I2 T st hfp (EJ q) ?_
 intro D' C s' H' m I' hC0 hCL hCs hCc hCp hn hq;show wpAny _ _ (assign (.Name y py) X.env (.ref D')) _ _ s';refine wpAny_assign_Name (Cv I' hXN hiN (.inl hy) (v:=.ref D') rfl (λs3 I3 sb3=>?_) (.inr hy));obtain⟨a3,sb3,e3⟩:=sb3;have hCa:C≠a3:=by
  rcases e3 with e3 | e3
  ·rw[e3];exact hCL
  ·exact λz=>hCc y a3 e3 z.symm
 refine⟨m,hn.sameBut sb3 hCa,λh' sb=>⟨σ.set i (some (.ref D')),H',?_,hq⟩⟩;exact I3.turned (t':=s3.toks) (λb o hb e=>(sb.2 b hb).trans e) hC0 hCL (.inr hCs) hCc hCp
variable{e e1 e2 e3:Expr}{t t1 t2 t3:TE}
theorem A1(h:E X e t)(he':starEach (e::[]) X.env=(false,eval e X.env)::starEach [] X.env:=by rfl):As X [e] (iI t il):=aC h aN he'
theorem A2(h1:E X e1 t1)(h2:E X e2 t2)(he1':starEach (e1::[e2]) X.env=(false,eval e1 X.env)::starEach [e2] X.env:=by rfl)(he2':starEach (e2::[]) X.env=(false,eval e2 X.env)::starEach [] X.env:=by rfl):As X [e1,e2] (iI t1 (iI t2 il)):=aC h1 (aC h2 aN he2') he1'
theorem A3(h1:E X e1 t1)(h2:E X e2 t2)(h3:E X e3 t3)(he1':starEach (e1::[e2,e3]) X.env=(false,eval e1 X.env)::starEach [e2,e3] X.env:=by rfl)(he2':starEach (e2::[e3]) X.env=(false,eval e2 X.env)::starEach [e3] X.env:=by rfl)(he3':starEach (e3::[]) X.env=(false,eval e3 X.env)::starEach [] X.env:=by rfl):As X [e1,e2,e3] (iI t1 (iI t2 (iI t3 il))):=aC h1 (aC h2 (aC h3 aN he3') he2') he1'
end
noncomputable def Y0{X x pos}:=@v_ X x pos 0
noncomputable def Y1{X x pos}:=@v_ X x pos 1
noncomputable def Y2{X x pos}:=@v_ X x pos 2
noncomputable def Y3{X x pos}:=@v_ X x pos 3
noncomputable def Y4{X x pos}:=@v_ X x pos 4
noncomputable def Y5{X x pos}:=@v_ X x pos 5
noncomputable def Y6{X x pos}:=@v_ X x pos 6
noncomputable def Y7{X x pos}:=@v_ X x pos 7
noncomputable def Y8{X x pos}:=@v_ X x pos 8
noncomputable def Y9{X x pos}:=@v_ X x pos 9
noncomputable def iv(σ:St)(i:Nat):Int:=match σ[i]? with
 |some (some (.int n))=>n
 |_=>0
end L2
namespace L2
open PySem PySem.Spec PyProof.Rows PySem.W
noncomputable def jr(H:Hp)(A C:Addr):Hp:=gr (gr H A) C
noncomputable def jY(G:Hp)(A C:Addr)(xs ys:List V):Hp:=upd (upd G A (.lst xs)) C (.lst ys)
theorem Ey{H:Hp}{A C b:Addr}{o:HO}(h:jr H A C b=some o):b≠A/\b≠C/\H b=some o:=by
 obtain⟨n,h⟩:=oX h;obtain⟨n',h⟩:=oX h;exact⟨n',n,h⟩
theorem qa{H:Hp}{A C b:Addr}(h1:b≠A)(h2:b≠C):jr H A C b=H b:=by
 unfold jr;rw[gU h2,gU h1]
theorem oB{H:Hp}{A C b:Addr}(h:H b=none):jr H A C b=none:=by
 cases e:jr H A C b with
 |none=>rfl
 |some o=>rw[(Ey e).2.2] at h;cases h
theorem p9{H:Hp}{A C:Addr}:jr H A C A=none/\jr H A C C=none:=by
 refine⟨?_,nN⟩;cases e:jr H A C A with
 |none=>rfl
 |some o=>exact absurd rfl (Ey e).1
theorem nR{G:Hp}{A C b:Addr}{xs ys:List V}(h1:b≠A)(h2:b≠C):jY G A C xs ys b=G b:=by
 unfold jY;rw[fh h2,fh h1]
section
variable{X:Cx}
theorem QD{pins:List (Addr×Obj)}{σ:St}{H:Hp}{s:Shared}{Q:VK}{us:List Value}{vs:List V}{k:Nat}{f:Addr}{fd:FuncData}{ps:List Str}{sp:Sp}{A C:Addr}{xs ys:List V}(F:fR X.prog X.w X.K X.mg X.base iQ k f fd ps sp)(hr:Room k X.A)(hb:Binds X.K fd ps [])
  (I:Inv X pins σ H s) (r:Vals vs us) (hA:H A=some (.lst xs)) (hC:H C=some (.lst ys)) (ne:A≠C)
  (q:sp vs (jr H A C) (λv H'=>H' A=none->H' C=none->Q v (jY H' A C xs ys)) E0):
  wpAny (model X.prog X.w) X.A (call (.ref f) us) (EP X pins σ Q) X.xe s:=by
 have hok:HOk X.prog X.w (jr H A C) s.heap:=(I.hok.era_ (λz e=>by rw[hA] at e;cases e) (λxs e=>by rw[hA] at e;cases e)).era_ (λz e=>by rw[gU ne.symm,hC] at e;cases e) (λxs e=>by rw[gU ne.symm,hC] at e;cases e);have e0:Env0 X.prog X.w X.K X.mg X.base X.A X.stack s (jr H A C):=⟨I.ok.frames,I.ok.mod,λb o e=>⟨(I.bs b o e).1,oB (I.bs b o e).2⟩,bK I.ok.bsz I.sz,I.stack,λb hb=>oB (I.stkFree b hb),hok,I.bare⟩
 have hlen:(us++[]).length=ps.length:=by rw[b8,←r.length];exact F.len _ _ _ _ q
 have bt:=hb s us I.kIn hlen;rw[b8] at bt;refine wpAny_call (codeAny_mono (F.run X.A X.stack s _ ⟨us,[]⟩ us vs _ E0 hr e0 bt r q) λr s' hq=>?_);cases r with
 |error e=>exact False.elim hq
 |ok fl=>
  cases fl with
  |next=>exact False.elim hq
  |brk=>exact False.elim hq
  |cont=>exact False.elim hq
  |ret u=>
   obtain⟨v,H',os,bare,un,hok',rz,q⟩:=hq;obtain⟨zA,iA,nA,vA,oA⟩:=I.hok A _ hA;obtain⟨zC,iC,nC,vC,oC⟩:=I.hok C _ hC;have fA:A∉jm X.stack:=λz=>by rw[I.stkFree A z] at hA;cases hA
   have fC:C∉jm X.stack:=λz=>by rw[I.stkFree C z] at hC;cases hC
   have nx:∀{b:Addr},b∉([]:List Addr):=λz=>by cases z
   have hnA:=un.free A _ oA p9.1 nx;have hnC:=un.free C _ oC p9.2 nx;have kA:=un.keep A _ oA p9.1 fA nx;have kC:=un.keep C _ oC p9.2 fC nx;have t1:HOk X.prog X.w (upd H' A (.lst xs)) s'.heap:=hok'.track hnA ⟨zA,iA,nA,vA,kA⟩;have t2:HOk X.prog X.w (jY H' A C xs ys) s'.heap:=t1.track (by rw[fh ne.symm];exact hnC) ⟨zC,iC,nC,vC,kC⟩;have no:∀{b:Addr},H b=none->b≠A/\b≠C:=λ{b} n=>⟨λz=>(by rw[z,hA] at n;cases n),λz=>(by rw[z,hC] at n;cases n)⟩
   have so:∀{b:Addr} {o:HO},H b=some o->(∀xs,o≠ .lst xs)->b≠A/\b≠C:=λ{b o} e n=>⟨λz=>by rw[z,hA] at e;exact n _ (a8 e).symm,λz=>by rw[z,hC] at e;exact n _ (a8 e).symm⟩;refine I.after ⟨v,jY H' A C xs ys,os,bare,⟨λb o e n hb hx=>un.keep b o e (oB n) hb hx,λb o e n hb hx=>un.slot b o e (oB n) hb hx,λb o e n hx=>?_,λb o e hx=>un.there b o e hx,λb xs e=>?_,λb o u e=>?_,λb qs e=>?_⟩,t2,rz,q hnA hnC⟩
   ·obtain⟨z1,z2⟩:=no n;rw[nR z1 z2];exact un.free b o e (oB n) hx
   ·obtain⟨z1,z2⟩:=so e λ_ z=>by cases z
    rw[nR z1 z2];exact un.tups b xs (by rw[qa z1 z2];exact e)
   ·obtain⟨z1,z2⟩:=so e λ_ z=>by cases z
    rw[nR z1 z2];exact un.frzs b o u (by rw[qa z1 z2];exact e)
   ·obtain⟨z1,z2⟩:=so e λ_ z=>by cases z
    obtain⟨more,e'⟩:=un.tbls b qs (by rw[qa z1 z2];exact e);exact⟨more,by rw[nR z1 z2];exact e'⟩
inductive tZ (sp:Sp) (vs:List V) (H:Hp) (Q:VK):Prop
 |mk (A C:Addr) (xs ys:List V) (hA:H A=some (.lst xs)) (hC:H C=some (.lst ys)) (ne:A≠C) (q:sp vs (jr H A C) (λv H'=>H' A=none->H' C=none->Q v (jY H' A C xs ys)) E0)
def WX(sp:Sp)(t:TA):TE:=λσ H Q=>t σ H λvs H1=>tZ sp vs H1 Q
theorem Sj{x:Str}{k k':Nat}{ps:List Str}{sp:Sp}{e:Expr}{es:List Expr}{t:TA}{p pos:Pos}(D:Df X.prog X.w X.K X.mg X.base x k ps sp)(hr:Room k' X.A)(ha:As X (e::es) t)(hk:k<=k':=by decide)(hg:Gl X x:=by rfl)
  (hdb:(x==("__debug__":Str))=false:=by decide) (he:starEach (e::es) X.env=(false,eval e X.env)::starEach es X.env:=by rfl) (hpl:(backTo pos (starEach es X.env)).any (·.1)=false:=by rfl):
  E X (.Call (.Name x p) (e::es) [] pos) (WX sp t):=by
 obtain⟨f,fd,F,hb,hm,kp⟩:=D.ex;refine⟨λpins s σ H Q I h=>?_⟩;refine d8 (mC I hg hm ?_ hdb);refine callWith_K (h₀:=X.base) I.ok.mod.kin kp (fg (ha.h pos pins s σ H _ I h) λus s1 ⟨vs,H1,I1,r,q⟩=>⟨I1.kIn,?_⟩) he hpl;cases q with
 |mk A C xs ys hA hC ne q=>exact QD F (hr.mono hk) hb I1 r hA hC ne q
end
end L2
namespace L2
open PySem PySem.Spec PyProof.Rows PySem.W
def pw{α:Type}(lt:Nat->Nat->Bool)(n:Nat):KasT α->(α->Prop)->Prop
 |.ret a,Q=>Q a
 |.ask i j k,Q=>i<n/\j<n/\pw lt n (k (lt i j)) Q
theorem nQ{α β:Type}{lt:Nat->Nat->Bool}{n:Nat}{f:α->KasT β}{Q:β->Prop}:∀{t:KasT α},pw lt n t (λa=>pw lt n (f a) Q)->pw lt n (t.bind f) Q
 |.ret _,h=>h
 |.ask _ _ _,⟨h1,h2,h⟩=>⟨h1,h2,nQ h⟩
theorem mM{α:Type}{lt:Nat->Nat->Bool}{n:Nat}{Q R:α->Prop}(hq:∀a,Q a->R a):∀{t:KasT α},pw lt n t Q->pw lt n t R
 |.ret _,h=>hq _ h
 |.ask _ _ _,⟨h1,h2,h⟩=>⟨h1,h2,mM hq h⟩
theorem EB{α:Type}{lt:Nat->Nat->Bool}{n:Nat}{Q:α->Prop}{G:α->Shared->Prop}{s:Shared}{cmp:Nat->Nat->(Bool->Shared->Prop)->Shared->Prop}(hc:∀i j (C:Bool->Shared->Prop),i<n->j<n->C (lt i j) s->cmp i j C s)(hq:∀a,Q a->G a s):∀{t:KasT α},pw lt n t Q->t.kasWp cmp G s
 |.ret _,h=>hq _ h
 |.ask i j _,⟨h1,h2,h⟩=>hc i j _ h1 h2 (EB hc hq h)
structure jU(lt:Nat->Nat->Bool)(n:Nat):Prop where
 tr:∀i j k,lt i j=true->lt j k=true->lt i k=true
 ir:∀i,lt i i=false
 to:∀i j,i<n->j<n->i≠j->lt i j=true∨lt j i=true
section
variable{lt:Nat->Nat->Bool}{n:Nat}
noncomputable def fu(p:Array Nat)(k:Nat):Nat:=p.getD k 0
def Pm(n:Nat)(p:Array Nat):Prop:=p.Perm (List.range n).toArray
theorem Pm.len{p:Array Nat}(h:Pm n p):p.size=n:=by
 have:=h.size_eq;simpa using this
theorem kJ{p:Array Nat}{k:Nat}(h:k<p.size):p[k]? =some (fu p k):=by
 unfold fu;simp[Array.getD,h]
theorem Pm.low{p:Array Nat}(h:Pm n p){k:Nat}(hk:k<n):fu p k<n:=by
 have hl:=h.len;have m:fu p k∈p:=by
  rw[Array.mem_iff_getElem?];exact⟨k,kJ ⋯⟩
 have:=h.mem_iff.mp m;simpa using this
theorem Pm.inj{p:Array Nat}(h:Pm n p){i j:Nat}(hi:i<n)(hj:j<n)(e:fu p i=fu p j):i=j:=by
 have hl:=h.len;have nd:p.toList.Nodup:=(Array.perm_iff_toList_perm.mp h).nodup_iff.mpr (by simpa using List.nodup_range);have e1:p.toList[i]? =some (fu p i):=by rw[dH];exact kJ ⋯
 have e2:p.toList[j]? =some (fu p i):=by rw[dH,e];exact kJ ⋯
 obtain⟨h1,e1⟩:=a9.mp e1;obtain⟨h2,e2⟩:=a9.mp e2;exact (List.getElem_inj nd).mp (e1.trans e2.symm)
theorem Pm.to{p:Array Nat}(h:Pm n p)(O:jU lt n){i j:Nat}(hi:i<n)(hj:j<n)(ne:i≠j):lt (fu p i) (fu p j)=true∨lt (fu p j) (fu p i)=true:=O.to _ _ (h.low hi) (h.low hj) λe=>ne (h.inj hi hj e)
def Up(lt:Nat->Nat->Bool)(p:Array Nat)(m:Nat):Prop:=∀i j,i<j->j<m->lt (fu p i) (fu p j)=true
def Dn(lt:Nat->Nat->Bool)(p:Array Nat)(m:Nat):Prop:=∀i j,i<j->j<m->lt (fu p j) (fu p i)=true
theorem Qo(O:jU lt n){p:Array Nat}{m:Nat}(h1:1<=m)(h:Up lt p m)(l:lt (fu p (m-1)) (fu p m)=true):Up lt p (m+1):=λi j hij hj=>by
 by_cases c:j<m
 ·exact h i j hij c
 obtain rfl:j=m:=⋯;by_cases c2:i=j-1
 ·rw[c2];exact l
 ·exact O.tr _ _ _ (h i (j-1) ⋯ ⋯) l
theorem Bj(O:jU lt n){p:Array Nat}{m:Nat}(h1:1<=m)(h:Dn lt p m)(l:lt (fu p m) (fu p (m-1))=true):Dn lt p (m+1):=λi j hij hj=>by
 by_cases c:j<m
 ·exact h i j hij c
 obtain rfl:j=m:=⋯;by_cases c2:i=j-1
 ·rw[c2];exact l
 ·exact O.tr _ _ _ l (h i (j-1) ⋯ ⋯)
theorem rn(O:jU lt n){p:Array Nat}(hp:Pm n p):∀{f a:Nat},1<=a->a+f=n->Up lt p a->pw lt n (kas_asc p f a) λm=>a<=m/\m<=n/\Up lt p m/\(m=n∨lt (fu p m) (fu p (m-1))=true)
 |0,a,h1,e,h=>⟨aP _,⋯,h,.inl ⋯⟩
 |f+1,a,h1,e,h=>by
  refine⟨hp.low ⋯,hp.low ⋯,?_⟩;show pw lt n (if lt (fu p a) (fu p (a-1))=true then .ret a else kas_asc p f (a+1)) _;split
  ·rename_i c;exact⟨aP _,⋯,h,.inr c⟩
  ·rename_i c;have l:lt (fu p (a-1)) (fu p a)=true:=(hp.to O ⋯ ⋯ ⋯).resolve_left c;exact mM (λm hm=>⟨⋯,hm.2⟩) (rn O hp ⋯ ⋯ (Qo O h1 h l))
theorem JQ(O:jU lt n){p:Array Nat}(hp:Pm n p):∀{f a:Nat},1<=a->a+f=n->Dn lt p a->pw lt n (kas_desc f p a 0) λr=>r.1=p/\r.2.2=0/\1<=r.2.1/\r.2.1<=n/\Dn lt p r.2.1
 |0,a,h1,e,h=>⟨rfl,rfl,h1,by show a<=n;omega,h⟩
 |f+1,a,h1,e,h=>by
  refine⟨hp.low ⋯,hp.low ⋯,?_⟩;show pw lt n (if lt (fu p a) (fu p (a-1))=true then (if 0>0 then kas_desc f (kas_rev p (a-(0+1)) a) (a+1) 0 else kas_desc f p (a+1) 0) else .ask (fu p (a-1)) (fu p a) λd=>if d=true then .ret (p,a,0) else kas_desc f p (a+1) (0+1)) _;split
  ·rename_i c;rw[if_neg (by decide)];exact JQ O hp ⋯ ⋯ (Bj O h1 h c)
  ·rename_i c;have l:lt (fu p (a-1)) (fu p a)=true:=(hp.to O ⋯ ⋯ ⋯).resolve_left c;refine⟨hp.low ⋯,hp.low ⋯,?_⟩;show pw lt n (if lt (fu p (a-1)) (fu p a)=true then .ret (p,a,0) else kas_desc f p (a+1) (0+1)) _;rw[if_pos l];exact⟨rfl,rfl,h1,by show a<=n;omega,h⟩
theorem PC{p:Array Nat}{m:Nat}(hp:Pm n p)(hm:m<=n)(h:Dn lt p m):Pm n (kas_rev p 0 m)/\Up lt (kas_rev p 0 m) m:=by
 have hl:=hp.len;have g:∀k,k<m->fu (kas_rev p 0 m) k=fu p (m-1-k):=λk hk=>by
  have e:=getElem?_mirror (xs:=p) (i:=0) (j:=m) ⋯ ((m-0) / 2) ⋯ k;have hs:(kas_rev p 0 m).size=n:=(mirror_size _ _ _ _).trans hl;have e2:(kas_rev p 0 m)[k]? =p[m-1-k]? :=by
   refine e.trans ?_;split
   ·rw[show 0+m-1-k=m-1-k by omega]
   ·rw[show m-1-k=k by omega]
  rw[kJ ⋯,kJ ⋯] at e2;exact a8 e2
 refine⟨(mirror_perm _ _ _ _).trans hp,λi j hij hj=>?_⟩;rw[g i ⋯,g j hj];exact h _ _ ⋯ ⋯
theorem OQ(O:jU lt n){p:Array Nat}{m:Nat}(hp:Pm n p)(h1:1<=m)(hm:m<=n)(h:Dn lt p m):pw lt n (kas_tail3 m n p) λr=>Pm n r.2/\1<=r.1/\r.1<=n/\Up lt r.2 r.1:=by
 obtain⟨h2,h3⟩:=PC hp hm h;exact nQ (mM (λa ha=>⟨h2,by show 1<=a;omega,ha.2.1,ha.2.2.1⟩) (rn O h2 h1 ⋯ h3))
theorem Pu(O:jU lt n){p:Array Nat}(hn:2<=n)(hp:Pm n p):pw lt n (kas_count n p) λr=>Pm n r.2/\1<=r.1/\r.1<=n/\Up lt r.2 r.1:=by
 refine nQ (mM (λm hm=>?_) (rn O hp (aP 1) ⋯ (λi j h1 h2=>by omega)));obtain⟨m1,m2,m3,m4⟩:=hm;by_cases c:m=n
 ·rw[if_pos (by rw[c];exact beq_self_eq_true n)];exact⟨hp,m1,m2,m3⟩
 ·rw[if_neg (by simpa using c)];by_cases c1:m>1
  ·rw[if_pos c1];refine⟨hp.low ⋯,hp.low ⋯,?_⟩;show pw lt n (if lt (fu p 0) (fu p (m-1))=true then .ret (m,p) else kas_descPart m n (kas_rev p 0 m)) _;rw[if_pos (m3 0 (m-1) ⋯ ⋯)];exact⟨hp,m1,m2,m3⟩
  ·rw[if_neg c1];obtain rfl:m=1:=⋯;have l:=m4.resolve_left c;refine nQ (mM (λr hr=>?_) (JQ O hp (f:=n-(1+1)) (a:=1+1) ⋯ ⋯ (Bj O (aP 1) (λi j h1 h2=>by omega) l)));obtain⟨rp,q,m⟩:=r;obtain⟨r1,r2,r3,r4,r5⟩:=hr;obtain rfl:rp=p:=r1;obtain rfl:m=0:=r2;rw[if_neg (show ¬(0:Nat)>0 by decide)];exact OQ O hp r3 r4 r5
theorem ur(O:jU lt n){p:Array Nat}{k:Nat}(hp:Pm n p)(hk:k<n):∀{f l r:Nat},l<=r->r<=k->r-l<=f->(∀i,i<l->lt (fu p i) (fu p k)=true)->(∀i,r<=i->i<k->lt (fu p k) (fu p i)=true)->Up lt p k->
  pw lt n (kas_place p k f l r) λm=>m<=k/\(∀i,i<m->lt (fu p i) (fu p k)=true)/\∀i,m<=i->i<k->lt (fu p k) (fu p i)=true
 |0,l,r,h1,h2,h3,a,b,u=>⟨⋯,a,λi x y=>b i ⋯ y⟩
 |f+1,l,r,h1,h2,h3,a,b,u=>by
  show pw lt n (if l ≥ r then .ret l else .ask (fu p k) (fu p ((l+r) / 2)) λc=>if c=true then kas_place p k f l ((l+r) / 2) else kas_place p k f ((l+r) / 2+1) r) _;by_cases c:l ≥ r
  ·rw[if_pos c];exact⟨⋯,a,λi x y=>b i ⋯ y⟩
  ·rw[if_neg c];refine⟨hp.low hk,hp.low ⋯,?_⟩;have hmid:(l+r) / 2<r:=⋯;show pw lt n (if lt (fu p k) (fu p ((l+r) / 2))=true then kas_place p k f l ((l+r) / 2) else kas_place p k f ((l+r) / 2+1) r) _;split
   ·rename_i z;refine ur O hp hk ⋯ ⋯ ⋯ a (λi x y=>?_) u;by_cases e:i=(l+r) / 2
    ·rw[e];exact z
    ·exact O.tr _ _ _ z (u _ _ ⋯ y)
   ·rename_i z;have z':=(hp.to O hk (show (l+r) / 2<n by omega) ⋯).resolve_left z;refine ur O hp hk ⋯ h2 ⋯ (λi x=>?_) b u;by_cases e:i=(l+r) / 2
    ·rw[e];exact z'
    ·exact O.tr _ _ _ (u i ((l+r) / 2) ⋯ ⋯) z'
theorem RC{p:Array Nat}{k l:Nat}(hp:Pm n p)(hk:k<n)(hl:l<=k)(u:Up lt p k)(a:∀i,i<l->lt (fu p i) (fu p k)=true)(b:∀i,l<=i->i<k->lt (fu p k) (fu p i)=true):Pm n (bubble p k (k-l))/\Up lt (bubble p k (k-l)) (k+1):=by
 have hz:=hp.len;have hs:(bubble p k (k-l)).size=n:=(bubble_size _ _ _).trans hz;have g:∀i,i<=k->fu (bubble p k (k-l)) i=if i=l then fu p k else if l<i then fu p (i-1) else fu p i:=λi hi=>by
  have e:=getElem?_bubble (xs:=p) (src:=k) ⋯ (k-l) ⋯ i;rw[kJ ⋯,show k-(k-l)=l by omega] at e;split at e
  ·rename_i c;rw[kJ ⋯] at e;rw[if_pos c];exact a8 e
  ·rename_i c;rw[if_neg c];split at e
   ·rename_i c2;rw[kJ ⋯] at e;rw[if_pos c2.1];exact a8 e
   ·rename_i c2;rw[kJ ⋯] at e;rw[if_neg (λz=>c2 ⟨z,hi⟩)];exact a8 e
 refine⟨(bubble_perm _ _ _).trans hp,λi j hij hj=>?_⟩;rw[g i ⋯,g j ⋯];by_cases c1:i=l
 ·rw[if_pos c1,if_neg ⋯,if_pos ⋯];exact b _ ⋯ ⋯
 rw[if_neg c1];by_cases c2:j=l
 ·rw[if_pos c2,if_neg ⋯];exact a _ ⋯
 rw[if_neg c2];by_cases c3:l<i
 ·rw[if_pos c3,if_pos ⋯];exact u _ _ ⋯ ⋯
 rw[if_neg c3];by_cases c4:l<j
 ·rw[if_pos c4];exact u _ _ ⋯ ⋯
 ·rw[if_neg c4];exact u _ _ hij ⋯
theorem JE(O:jU lt n):∀{f:Nat} {p:Array Nat} {k:Nat},Pm n p->k+f=n->Up lt p k->pw lt n (kas_bin f p k) λp=>Pm n p/\Up lt p n
 |0,p,k,hp,e,u=>⟨hp,by rw[←e];exact u⟩
 |f+1,p,k,hp,e,u=>by
  refine nQ (mM (λm hm=>?_) (ur O hp ⋯ (bD _) (aP _) ⋯ (λi h=>by omega) (λi h1 h2=>by omega) u));obtain⟨b1,b2⟩:=RC hp ⋯ hm.1 u hm.2.1 hm.2.2;exact JE O b1 ⋯ b2
theorem Pt(O:jU lt n)(hn:2<=n):pw lt n (kas_sort n) λp=>Pm n p/\Up lt p n:=by
 refine nQ (mM (λr hr=>?_) (Pu O hn (p:=(List.range n).toArray) (Array.Perm.refl _)));obtain⟨h1,h2,h3,h4⟩:=hr;split
 ·exact JE O h1 ⋯ (by rw[Nat.max_eq_left h2];exact h4)
 ·rename_i c;exact⟨h1,by rw[show n=r.1 by omega];exact h4⟩
end
end L2
namespace L2
open PySem PySem.Spec PyProof.Rows PySem.W PySem.Calls
section
variable{prog:Program}{w:World}{A:Around}{E:Value->Shared->Prop}{s:Shared}
theorem RO{a:Addr}{vs:List Value}{n:Nat}{R:List Value->Prop}{P:PySem.Fin->Shared->Prop}(ho:s.heap.get? a=some (seqObj "list" vs.toArray n))(h2:2<=vs.length)(h64:vs.length<64)
  (hk:∀h',(∀b o,b≠a->s.heap.get? b=some o->h'.get? b=some o)->wpAny (model prog w) A (keyKind' vs.toArray) (λκ s'=>s'={s with heap:=h'}/\(kas_sort vs.length).kasWp (kas_ask prog w A κ vs) (λp s''=>s''=s'/\R (p.toList.map λi=>vs.getD i Value.none)) s') (λ_ _=>False) {s with heap:=h'})
  (hP:∀out h' c,R out->(∀b o,b≠a->s.heap.get? b=some o->h'.get? b=some o)->h'.get? a=some (seqObj "list" (List.toArray out) c)->P (.done (.ret .none)) {s with heap:=h'}):
  wpAny (model prog w) A (Builtin.«list.sort» ⟨[.ref a],[]⟩) P E s:=by
 have ha:a<s.heap.objs.size:=aR ho;have s1:=Heap.SameBut.update s.heap a (Obj.mapSeq λ_=>(#[]:Array Value));obtain⟨e1,ho1⟩:∃e1,(s.heap.update a (Obj.mapSeq λ_=>(#[]:Array Value))).get? a=some (seqObj "list" #[] e1):=⟨_,get?_update_seq ho λ_=> #[]⟩;have k1:∀b o,b≠a->s.heap.get? b=some o->(((s.heap.update a (Obj.mapSeq λ_=>(#[]:Array Value))).push (seqObj "tuple" vs.toArray 0)).push (seqObj "list" #[] 0)).get? b=some o:=λb o nb e=>
  aU _ (aU _ (by rw[dD _ _ _ _ nb];exact e))
 have na:(((s.heap.update a (Obj.mapSeq λ_=>(#[]:Array Value))).push (seqObj "tuple" vs.toArray 0)).push (seqObj "list" #[] 0)).get? a=some (seqObj "list" #[] e1):=aU _ (aU _ ho1);have ask:=hk _ k1;rw[list_sort_plain];refine dR (listItems_at ho rfl ?_);refine dR (listUpdate_at ho rfl ?_ (by rw[bB,dW];omega) (bD _));refine dR (seqEpoch_at ho1 rfl ?_);refine dR (wpAny_newTuple ?_ (by show vs.length<=_;rw[dW];omega))
 refine dR (wpAny_newList ?_ (bD _));refine dX ?_;show wpAny (model prog w) A _ P E {s with heap:=((s.heap.update a (Obj.mapSeq λ_=>(#[]:Array Value))).push (seqObj "tuple" vs.toArray 0)).push (seqObj "list" #[] 0)};dsimp only;have hn2:¬vs.toArray.size<2:=by rw[bB];omega
 rw[if_neg hn2,if_neg hn2];generalize ((s.heap.update a (Obj.mapSeq λ_=>(#[]:Array Value))).push (seqObj "tuple" vs.toArray 0)).push (seqObj "list" #[] 0)=h3 at k1 na ask ⊢;refine dR (dU ask (λκ s0 hk=>?_) λ_ _ x=>x.elim);obtain⟨rfl,hk⟩:=hk;refine dR (dU (kat_run (Q:=λst' s'=>s'={s with heap:=h3}/\∃p:Array Nat,p.size=vs.length/\arrOf st'=p.map (kas_item (vs.toArray.zip vs.toArray))/\failedOf st'=none/\R (p.toList.map λi=>vs.getD i Value.none))
  rfl h2 h64 (λp' st' s' a1 a2 a3 a4=>⟨a4.1,p',a1,a2,a3,a4.2⟩) hk) ?_ λ_ _ e=>e)
 rintro⟨⟨⟩,st'⟩ s' ⟨rfl,p,hp,har,hf,hR⟩;dsimp only;have hout:=kat_snds rfl har;have hsz:(List.toArray (p.toList.map λi=>vs.getD i Value.none)).size=vs.length:=by rw[bB,aQ,cQ,hp]
 rw[hout];obtain⟨c2,hc2⟩:∃c2,(h3.update a (Obj.mapSeq λ_=>List.toArray (p.toList.map λi=>vs.getD i Value.none))).get? a=some (seqObj "list" (List.toArray (p.toList.map λi=>vs.getD i Value.none)) c2):=⟨_,get?_update_seq na λ_=>List.toArray (p.toList.map λi=>vs.getD i Value.none)⟩;refine dR (seqEpoch_at na rfl ?_);refine dR (listUpdate_at na rfl ?_ (bD _) (bK (Nat.le_of_eq hsz) (by rw[dW];omega)));rw[hf]
 simp only[bne_self_eq_false,Bool.false_eq_true,if_false];exact d9 (hP _ _ c2 hR (λb o nb e=>by rw[dD _ _ _ _ nb];exact k1 b o nb e) hc2)
theorem Pl{l:Addr}{vs:List Value}{R:List Value->Prop}{Q:Value->Shared->Prop}(hl:s.heap.IsList l vs.toArray)(h2:2<=vs.length)(h64:vs.length<64)
  (hk:∀(A':Around) h',(∀b o,s.heap.get? b=some o->h'.get? b=some o)->wpAny (model prog w) A' (keyKind' vs.toArray) (λκ s'=>s'={s with heap:=h'}/\(kas_sort vs.length).kasWp (kas_ask prog w A' κ vs) (λp s''=>s''=s'/\R (p.toList.map λi=>vs.getD i Value.none)) s') (λ_ _=>False) {s with heap:=h'})
  (hQ:∀out D h' c,R out->(∀b o,s.heap.get? b=some o->h'.get? b=some o)->s.heap.objs.size<=D->h'.get? D=some (seqObj "list" (List.toArray out) c)->Q (.ref D) {s with heap:=h'}):
  wpAny (model prog w) A (call (.builtin "sorted") [.ref l]) Q E s:=by
 refine Calls.call_function_entry kind_sorted plain_sorted entry_sorted (args_sorted1 _) ?_;unfold Builtin.«sorted»;refine dR (m:=checkCount "sorted" 1 1 _) (d9 ?_);refine dR (collect_list hl ?_ (by rw[dW];omega));refine dR (wpAny_newList ?_ (by rw[dW];omega));have hsz:((s.heap.push (seqObj "list" #[] 0)).update s.heap.objs.size (Obj.mapSeq (·++vs.toArray))).objs.size=s.heap.objs.size+1:=by
  rw[Heap.size_update,size_push']
 have hoL:(((s.heap.push (seqObj "list" #[] 0)).update s.heap.objs.size (Obj.mapSeq (·++vs.toArray))).push (seqObj "list" vs.toArray 0)).get? (s.heap.objs.size+1)=some (seqObj "list" vs.toArray 0):=by
  rw[←hsz];exact bM _ rfl
 have keep:∀b o,s.heap.get? b=some o->(((s.heap.push (seqObj "list" #[] 0)).update s.heap.objs.size (Obj.mapSeq (·++vs.toArray))).push (seqObj "list" vs.toArray 0)).get? b=some o:=λb o q=>by
  have hlt:b<s.heap.objs.size:=aR q;rw[Heap.get?_push_ne _ _ _ (by rw[hsz];exact aW (cJ hlt)),dD _ _ _ _ (aW hlt),Heap.get?_push_ne _ _ _ (aW hlt)];exact q
 have ne:∀b o,s.heap.get? b=some o->b≠s.heap.objs.size+1:=λb o q=>aW (cJ (aR q));show wpAny _ _ _ _ _ {s with heap:=((s.heap.push (seqObj "list" #[] 0)).update s.heap.objs.size (Obj.mapSeq (·++vs.toArray))).push (seqObj "list" vs.toArray 0)};rw[hsz];refine dR (dX (wpAny_call_entry slot_list_sort ⟨_,hoL,rfl⟩ entry_list_sort ?body (args_list_sort _)))
 case body=>
  refine RO (s:={s with heap:=((s.heap.push (seqObj "list" #[] 0)).update s.heap.objs.size (Obj.mapSeq (·++vs.toArray))).push (seqObj "list" vs.toArray 0)}) (R:=R) hoL h2 h64 (λh' kp=>hk _ h' λb o e=>kp b o (ne b o e) (keep b o e)) λout h' c hR kp hD=>?_;exact⟨(),d9 ⟨(),hQ out _ h' c hR (λb o e=>kp b o (ne b o e) (keep b o e)) (Nat.le_succ _) hD⟩⟩
end
end L2
namespace L2
open PySem PySem.Spec PyProof.Rows PySem.W PySem.Calls
noncomputable def gI(p q:Int×Int):Bool:=decide (p.1<q.1)||(decide (p.1=q.1)&&decide (p.2<q.2))
theorem ltP_iff{p q:Int×Int}:gI p q=true↔p.1<q.1∨(p.1=q.1/\p.2<q.2):=by
 unfold gI;rw[cZ,bI,d6,d6,d6]
theorem qU{α:Type}{l:List α}{i:Nat}{d:α}(h:i<l.length):l.getD i d=l[i]:=by
 rw[List.getD_eq_getElem?_getD,bH h];rfl
theorem Nm{ps:List (Int×Int)}(nd:ps.Nodup):jU (λi j=>gI (ps.getD i (0,0)) (ps.getD j (0,0))) ps.length where
 tr i j k h1 h2:=by
  have h1:=ltP_iff.mp h1;have h2:=ltP_iff.mp h2;refine ltP_iff.mpr ?_;omega
 ir i:=by
  rw[Bool.eq_false_iff];intro h;have:=ltP_iff.mp h;omega
 to i j hi hj ne:=by
  have e:ps.getD i (0,0)≠ps.getD j (0,0):=λe=>by
   rw[qU hi,qU hj] at e;exact ne ((List.getElem_inj nd).mp e)
  generalize ps.getD i (0,0)=a at e ⊢;generalize ps.getD j (0,0)=b at e ⊢;obtain⟨a1,a2⟩:=a;obtain⟨b1,b2⟩:=b;have e:¬(a1=b1/\a2=b2):=λz=>e (by rw[z.1,z.2]);rw[ltP_iff,ltP_iff];show (a1<b1∨a1=b1/\a2<b2)∨b1<a1∨b1=a1/\b2<a2;omega
def kQ(h:Heap)(v:Value)(p:Int×Int):Prop:=∃(a:Addr) (x y:Value),v=.ref a/\IsTup h a #[x,y]/\(∃t,x=.int p.1 t)/\∃t,y=.int p.2 t
section
variable{prog:Program}{w:World}{A:Around}{E:Value->Shared->Prop}{s:Shared}
theorem Nk{v u:Value}{p q:Int×Int}{Q:Bool->Shared->Prop}(hv:kQ s.heap v p)(hu:kQ s.heap u q)(h:Q (gI p q) s):wpAny (model prog w) A (keyLt' (tuples' true) v u) Q E s:=by
 obtain⟨a,x,y,rfl,⟨o,ho,hc,n,hd⟩,⟨t1,rfl⟩,t2,rfl⟩:=hv;obtain⟨a',x',y',rfl,⟨o',ho',hc',n',hd'⟩,⟨t3,rfl⟩,t4,rfl⟩:=hu;refine kat_lt ho hd ho' hd' ?_;show KatLex prog w A true false Q [(.int p.1 t1,.int q.1 t3),(.int p.2 t2,.int q.2 t4)] 0 s;refine kat_cons (wpAny_eqBool_int ?_);refine kat_go (λe=>kat_yes ?_) (λe=>kat_no ?_)
 ·have e1:p.1=q.1:=by simpa using e
  refine kat_cons (wpAny_eqBool_int ?_);refine kat_go (λe=>kat_yes (kat_nil ?_)) (λe=>kat_no ?_)
  ·have e2:p.2=q.2:=by simpa using e
   have z:gI p q=false:=by
    rw[Bool.eq_false_iff];intro z;have:=ltP_iff.mp z;omega
   rw[z] at h;exact h
  ·have z:gI p q=decide (p.2<q.2):=by
    unfold gI;rw[d7 ⋯,dZ e1,Bool.false_or,Bool.true_and]
   rw[z] at h;exact kat_one _ _ (lt_int h)
 ·have e1:¬p.1=q.1:=by simpa using e
  have z:gI p q=decide (p.1<q.1):=by
   unfold gI;rw[d7 e1,Bool.false_and,Bool.or_false]
  rw[z] at h;exact oneLt_int h
theorem FZ{h:Heap}:∀{vs:List Value} {ps:List (Int×Int)},Paired (kQ h) vs ps->∃fs:List Value,KatTups h vs fs/\fs.length=vs.length/\∀f∈fs,∃z t,f=.int z t
 |_,_,.nil=>⟨[],KatTups.nil,rfl,λf hf=>nomatch hf⟩
 |_,_,.cons r t=>by
  obtain⟨fs,h1,h2,h3⟩:=FZ t;obtain⟨a,x,y,rfl,⟨o,ho,hc,n,hd⟩,⟨t1,rfl⟩,t2,rfl⟩:=r;exact⟨_::fs,KatTups.cons ho hc hd rfl h1,by rw[bL,bL,h2],List.forall_mem_cons.mpr ⟨⟨_,()⟩,h3⟩⟩
theorem rY{h:Heap}:∀{vs:List Value} {ps:List (Int×Int)},Paired (kQ h) vs ps->∀i,i<ps.length->kQ h (vs.getD i Value.none) (ps.getD i (0,0))
 |_,_,.cons r _,0,_=>r
 |_,_,.cons _ t,i+1,hi=>rY t i (by simpa using hi)
theorem Bg{h h':Heap}(k:∀b o,h.get? b=some o->h'.get? b=some o):∀{vs:List Value} {ps:List (Int×Int)},Paired (kQ h) vs ps->Paired (kQ h') vs ps
 |_,_,.nil=>.nil
 |_,_,.cons ⟨a,x,y,e,⟨o,ho,r⟩,z⟩ t=>.cons ⟨a,x,y,e,⟨o,k _ _ ho,r⟩,z⟩ (Bg k t)
theorem pj{α β:Type}{F:α->β->Prop}:∀{l:List α} {r:List β},Paired F l r->l.length=r.length
 |_,_,.nil=>rfl
 |_,_,.cons _ t=>by rw[bL,bL,pj t]
theorem Nh{l:Addr}{vs:List Value}{ps:List (Int×Int)}{Q:Value->Shared->Prop}(hl:s.heap.IsList l vs.toArray)(hp:Paired (kQ s.heap) vs ps)(h2:2<=ps.length)(h64:ps.length<64)(nd:ps.Nodup)
  (hQ:∀(p:List Nat) D h' c,p.Perm (List.range ps.length)->(p.map λi=>ps.getD i (0,0)).Pairwise (λa b=>gI a b=true)->(∀b o,s.heap.get? b=some o->h'.get? b=some o)->s.heap.objs.size<=D->h'.get? D=some (seqObj "list" (List.toArray (p.map λi=>vs.getD i Value.none)) c)->Q (.ref D) {s with heap:=h'}):
  wpAny (model prog w) A (call (.builtin "sorted") [.ref l]) Q E s:=by
 have len:=pj hp;refine Pl (R:=λout=>∃p:List Nat,out=(p.map λi=>vs.getD i Value.none)/\p.Perm (List.range ps.length)/\(p.map λi=>ps.getD i (0,0)).Pairwise (λa b=>gI a b=true)) hl ⋯ ⋯ (λA' h' k=>?_) λout D h' c ⟨p,e,e1,e2⟩ k lD hD=>hQ p D h' c e1 e2 k lD (by rw[e] at hD;exact hD);have hp':=Bg k hp;obtain⟨fs,t1,t2,t3⟩:=FZ hp';refine kat_kind (T:=.type "int") t1 ⋯ (λv hv=>?_) rfl ⟨rfl,?_⟩
 ·obtain⟨z,t,rfl⟩:=t3 v hv;exact Looks.of_pure rfl
 ·rw[len];refine EB (n:=ps.length) (lt:=λi j=>gI (ps.getD i (0,0)) (ps.getD j (0,0))) (Q:=λp=>Pm ps.length p/\Up _ p ps.length) (λi j C hi hj hC=>Nk (rY hp' i hi) (rY hp' j hj) hC) (λp hpu=>⟨rfl,p.toList,rfl,?_,?_⟩) (Pt (Nm nd) h2)
  ·simpa using Array.perm_iff_toList_perm.mp hpu.1
  ·rw[List.pairwise_map,dO];intro i j hi hj hij;have z:=hpu.2 i j hij (by have:=hpu.1.len;rw[←this];simpa using hj);have g:∀k (hk:k<p.toList.length),fu p k=p.toList[k]:=λk hk=>by
    unfold fu;have:k<p.size:=by simpa using hk
    simp[Array.getD,this]
   rw[g i hi,g j hj] at z;exact z
end
end L2
namespace L2
open PySem PySem.Spec PyProof.Rows PySem.W PySem.Calls
section
variable{prog:Program}{w:World}{A:Around}{E:Value->Shared->Prop}{s:Shared}
theorem Wo{a:Addr}{vs:List Value}{n:Nat}{P:PySem.Fin->Shared->Prop}(ho:s.heap.get? a=some (seqObj "list" vs.toArray n))(h2:vs.length<2)
  (hP:∀h' c,(∀b o,b≠a->s.heap.get? b=some o->h'.get? b=some o)->h'.get? a=some (seqObj "list" vs.toArray c)->P (.done (.ret .none)) {s with heap:=h'}):
  wpAny (model prog w) A (Builtin.«list.sort» ⟨[.ref a],[]⟩) P E s:=by
 obtain⟨e1,ho1⟩:∃e1,(s.heap.update a (Obj.mapSeq λ_=>(#[]:Array Value))).get? a=some (seqObj "list" #[] e1):=⟨_,get?_update_seq ho λ_=> #[]⟩;have k1:∀b o,b≠a->s.heap.get? b=some o->(((s.heap.update a (Obj.mapSeq λ_=>(#[]:Array Value))).push (seqObj "tuple" vs.toArray 0)).push (seqObj "list" #[] 0)).get? b=some o:=λb o nb e=>
  aU _ (aU _ (by rw[dD _ _ _ _ nb];exact e))
 have na:(((s.heap.update a (Obj.mapSeq λ_=>(#[]:Array Value))).push (seqObj "tuple" vs.toArray 0)).push (seqObj "list" #[] 0)).get? a=some (seqObj "list" #[] e1):=aU _ (aU _ ho1);rw[list_sort_plain];refine dR (listItems_at ho rfl ?_);refine dR (listUpdate_at ho rfl ?_ (by rw[bB,dW];omega) (bD _));refine dR (seqEpoch_at ho1 rfl ?_);refine dR (wpAny_newTuple ?_ (by show vs.length<=_;rw[dW];omega));refine dR (wpAny_newList ?_ (bD _))
 refine dX ?_;show wpAny (model prog w) A _ P E {s with heap:=((s.heap.update a (Obj.mapSeq λ_=>(#[]:Array Value))).push (seqObj "tuple" vs.toArray 0)).push (seqObj "list" #[] 0)};dsimp only;have hn2:vs.toArray.size<2:=by rw[bB];omega
 rw[if_pos hn2,if_pos hn2];generalize ((s.heap.update a (Obj.mapSeq λ_=>(#[]:Array Value))).push (seqObj "tuple" vs.toArray 0)).push (seqObj "list" #[] 0)=h3 at k1 na ⊢;refine dR (d9 ?_);rw[StateT.run_pure];refine dR (d9 ?_);dsimp only;have hout:(arrOf (SortSt.mk' general' (vs.toArray.zip vs.toArray) #[] 7 none)).map (·.2)=vs.toArray:=by
  show (vs.toArray.zip vs.toArray).map (·.2)=vs.toArray;apply Array.toList_inj.mp;simp[List.map_snd_zip]
 rw[hout];obtain⟨c2,hc2⟩:∃c2,(h3.update a (Obj.mapSeq λ_=>vs.toArray)).get? a=some (seqObj "list" vs.toArray c2):=⟨_,get?_update_seq na λ_=>vs.toArray⟩;refine dR (seqEpoch_at na rfl ?_);refine dR (listUpdate_at na rfl ?_ (bD _) (by rw[bB,dW];omega));simp only[bne_self_eq_false,Bool.false_eq_true,if_false];exact d9 (hP _ c2 (λb o nb e=>by rw[dD _ _ _ _ nb];exact k1 b o nb e) hc2)
theorem OH{l:Addr}{vs:List Value}{Q:Value->Shared->Prop}(hl:s.heap.IsList l vs.toArray)(h2:vs.length<2)
  (hQ:∀D h' c,(∀b o,s.heap.get? b=some o->h'.get? b=some o)->s.heap.objs.size<=D->h'.get? D=some (seqObj "list" vs.toArray c)->Q (.ref D) {s with heap:=h'}):
  wpAny (model prog w) A (call (.builtin "sorted") [.ref l]) Q E s:=by
 refine Calls.call_function_entry kind_sorted plain_sorted entry_sorted (args_sorted1 _) ?_;unfold Builtin.«sorted»;refine dR (m:=checkCount "sorted" 1 1 _) (d9 ?_);refine dR (collect_list hl ?_ (by rw[dW];omega));refine dR (wpAny_newList ?_ (by rw[dW];omega));have hsz:((s.heap.push (seqObj "list" #[] 0)).update s.heap.objs.size (Obj.mapSeq (·++vs.toArray))).objs.size=s.heap.objs.size+1:=by
  rw[Heap.size_update,size_push']
 have hoL:(((s.heap.push (seqObj "list" #[] 0)).update s.heap.objs.size (Obj.mapSeq (·++vs.toArray))).push (seqObj "list" vs.toArray 0)).get? (s.heap.objs.size+1)=some (seqObj "list" vs.toArray 0):=by
  rw[←hsz];exact bM _ rfl
 have keep:∀b o,s.heap.get? b=some o->(((s.heap.push (seqObj "list" #[] 0)).update s.heap.objs.size (Obj.mapSeq (·++vs.toArray))).push (seqObj "list" vs.toArray 0)).get? b=some o:=λb o q=>by
  have hlt:b<s.heap.objs.size:=aR q;rw[Heap.get?_push_ne _ _ _ (by rw[hsz];exact aW (cJ hlt)),dD _ _ _ _ (aW hlt),Heap.get?_push_ne _ _ _ (aW hlt)];exact q
 have ne:∀b o,s.heap.get? b=some o->b≠s.heap.objs.size+1:=λb o q=>aW (cJ (aR q));show wpAny _ _ _ _ _ {s with heap:=((s.heap.push (seqObj "list" #[] 0)).update s.heap.objs.size (Obj.mapSeq (·++vs.toArray))).push (seqObj "list" vs.toArray 0)};rw[hsz];refine dR (dX (wpAny_call_entry slot_list_sort ⟨_,hoL,rfl⟩ entry_list_sort ?body (args_list_sort _)))
 case body=>
  refine Wo (s:={s with heap:=((s.heap.push (seqObj "list" #[] 0)).update s.heap.objs.size (Obj.mapSeq (·++vs.toArray))).push (seqObj "list" vs.toArray 0)}) hoL h2 λh' c kp hD=>?_;exact⟨(),d9 ⟨(),hQ _ h' c (λb o e=>kp b o (ne b o e) (keep b o e)) (Nat.le_succ _) hD⟩⟩
end
def gm(H:Hp)(v:V)(p:Int×Int):Prop:=∃t,v=.ref t/\H t=some (.tup [.int p.1,.int p.2])
theorem HG{P:Program}{w:World}{H:Hp}{h:Heap}(ok:HOk P w H h):∀{us:List V} {vs:List Value} {ps:List (Int×Int)},Vals us vs->Paired (gm H) us ps->Paired (kQ h) vs ps
 |_,_,_,.nil,.nil=>.nil
 |_,_,_,.cons r rs,.cons ⟨t,e,ht⟩ ts=>by
  subst e;cases r;obtain⟨_,its,rv,it⟩:=ok t _ ht;cases rv with
  |cons r1 rv=>
   cases rv with
   |cons r2 rv=>
    cases rv;exact .cons ⟨t,_,(),it,r1,r2⟩ (HG ok rs ts)
theorem IZ{H:Hp}:∀{us:List V} {ps:List (Int×Int)},Paired (gm H) us ps->∀i,i<ps.length->gm H (us.getD i .non) (ps.getD i (0,0))
 |_,_,.cons r _,0,_=>r
 |_,_,.cons _ t,i+1,hi=>IZ t i (by simpa using hi)
theorem Bo{H:Hp}{us:List V}{ps:List (Int×Int)}(hp:Paired (gm H) us ps):∀{p:List Nat},(∀i∈p,i<ps.length)->Paired (gm H) (p.map λi=>us.getD i .non) (p.map λi=>ps.getD i (0,0))
 |[],_=>.nil
 |i::p,h=>.cons (IZ hp i (h i bF)) (Bo hp λj hj=>h j (bN _ hj))
theorem CG{us:List V}{vs:List Value}(r:Vals us vs):∀{p:List Nat},(∀i∈p,i<us.length)->Vals (p.map λi=>us.getD i .non) (p.map λi=>vs.getD i Value.none)
 |[],_=>.nil
 |i::p,h=>by
  have hi:=h i bF;obtain⟨u,hu,ru⟩:=Vals.get r (i:=i) (bH hi);refine .cons ?_ (CG r λj hj=>h j (bN _ hj));show RelV (us.getD i .non) (vs.getD i Value.none);rw[qU hi,List.getD_eq_getElem?_getD,hu];exact ru
section
variable{X:Cx}
theorem Kr:gZ X (.builtin "sorted") (λxs H Q=>∃(l:Addr) (us:List V) (ps:List (Int×Int)),xs=[.ref l]/\SqL X.K H l us/\Paired (gm H) us ps/\ps.length<64/\ps.Nodup/\∀(D:Addr) (us':List V) (ps':List (Int×Int)),H D=none->Paired (gm H) us' ps'->ps'.Perm ps->ps'.Pairwise (λa b=>gI a b=true)->Q (.ref D) (upd H D (.lst us'))):=by
 refine⟨λpins s σ H xs us Q I r h=>?_⟩;obtain⟨l,us,ps,rfl,hl,hp,h64,nd,k⟩:=h;obtain⟨u,rfl,ru⟩:=iH r;cases ru;obtain⟨its,rv,pl,hz⟩:=I.list hl;have hv:=HG I.hok rv hp;have len:=pj hp;have lv:=pj hv;by_cases h2:2<=ps.length
 ·refine Nh pl.isList hv h2 h64 nd λp D h' c hperm hpw kp lD hD=>?_;have hin:∀i∈p,i<ps.length:=λi hi=>bR.mp (hperm.mem_iff.mp hi);have vz:=CG rv (p:=p) (λi hi=>by rw[len];exact hin i hi);have J:=I.laid (a:=D) (o:=.lst (p.map λi=>us.getD i .non)) (t':=s.toks) (h':=h') kp lD ⟨by rw[aQ,hperm.length_eq,cA,dW];omega,_,c,vz,hD⟩;refine⟨.ref D,_,J,rfl,k D _ _ (I.hok.fresh lD) (Bo hp hin) ?_ hpw⟩;have e:(List.range ps.length).map (λi=>ps.getD i (0,0))=ps:=by
   apply List.ext_getElem
   ·simp
   ·intro i h1 h2;rw[List.getElem_map,List.getElem_range];exact qU h2
  have z:=hperm.map λi=>ps.getD i (0,0);rw[e] at z;exact z
 ·refine OH pl.isList ⋯ λD h' c kp lD hD=>?_;have J:=I.laid (a:=D) (o:=.lst us) (t':=s.toks) (h':=h') kp lD ⟨hz,_,c,rv,hD⟩;refine⟨.ref D,_,J,rfl,k D _ _ (I.hok.fresh lD) hp (List.Perm.refl _) ?_⟩
  match ps,h2 with
  |[],_=>exact .nil
  |[p],_=>exact List.pairwise_singleton _ _
  |_::_::_,h2=>exact absurd (by simp) h2
end
end L2
namespace L2
open PySem PySem.Spec PyProof.Rows PySem.W
section
variable{X:Cx}
theorem Xk:ny X (vd X.K):=⟨WR⟩
theorem Ay{K:FG}(hK:X.K=K:=by rfl):ny X (vd K):=hK▸Xk
theorem Mg{K:FG}(hK:X.K=K:=by rfl):gu X (binaryOp .Add) (λx y H Q=>∃(a b:Addr) (xs ys:List V),x=.ref a/\y=.ref b/\SqT K H a xs/\SqT K H b ys/\(xs≠[]/\ys≠[])/\xs.length+ys.length<=sizeLine/\∀p,H p=none->Q (.ref p) (upd H p (.tup (xs++ys)))):=by
 subst hK;refine⟨λpins s σ H x y v u Q I rx ry h=>?_⟩;obtain⟨a,b,xs,ys,rfl,rfl,ha,hb,hn,hz,q⟩:=h;cases rx;cases ry;obtain⟨i1,r1,p1,z1⟩:=I.tuple ha;obtain⟨i2,r2,p2,z2⟩:=I.tuple hb;obtain⟨⟨cls,dd,data,sl⟩,ho,hc,n,hd⟩:=id p1;obtain⟨⟨cls2,dd2,data2,sl2⟩,ho2,hc2,n2,hd2⟩:=id p2;simp only at hc hd hc2 hd2;subst hc hd hc2 hd2;have l1:=r1.length;have l2:=r2.length;have e1:¬i1.toArray.isEmpty=true:=by
  intro e;have e:i1=[]:=by simpa using e
  rw[e] at l1;exact hn.1 (c8 l1)
 have e2:¬i2.toArray.isEmpty=true:=by
  intro e;have e:i2=[]:=by simpa using e
  rw[e] at l2;exact hn.2 (c8 l2)
 refine concat_meets ⟨_,ho,rfl⟩ ⟨_,ho2,rfl⟩ noFill_tuple_add seq_tuple_add PySem.F.slot_tuple_add PySem.F.entry_tuple_add (PySem.F.args_tuple_add_2 _ _) (tuple_addW2 a b _ _ n n2 dd dd2 sl sl2 e1 e2 (by simp only[bB];omega)) ⟨ho,ho2,?_⟩;refine⟨.ref s.heap.objs.size,upd H s.heap.objs.size (.tup (xs++ys)),I.laid (t':=s.toks) (λb u e=>aU _ e) (aP _) ?_,rfl,q _ (I.hok.fresh (aP _))⟩;have z:=IsTup.new s.heap (i1.toArray++i2.toArray)
 exact⟨by rw[aS];exact hz,i1++i2,r1.append r2,by simpa using z⟩
theorem Pq{K:FG}{o e:Expr}{to te:TE}{apos cpos:Pos}(ho:E X o to)(he:E X e te)(hbase:attributeBase o "pop" X.env (eval o X.env)=eval o X.env:=by rfl)
  (hfew:((backTo cpos (starEach [e] X.env)).all (λx=> !x.1)&&(backToKw cpos (keywordEach [] X.env)).all (λx=>x.1.isSome)&&decide (([e]:List Expr).length+([]:List Keyword).length+(if ([]:List Keyword).isEmpty then 0 else 1)<30))=true:=by rfl)
  (hline:(apos.endLine==cpos.line)=true:=by rfl) (hs:starEach [e] X.env=(false,eval e X.env)::starEach [] X.env:=by rfl) (hplain:(backTo cpos (starEach [] X.env)).any (·.1)=false:=by rfl) (hK:X.K=K:=by rfl):
  E X (.Call (.Attribute o "pop" apos) [e] [] cpos) (mH K "list" IH to (iI te il)):=
 hK▸⟨nr PySem.F.plainAttrs_list PySem.F.slot_list_pop PySem.F.type_list_pop UY ho.h (jR he.h kz hs) hbase hfew hline hs hplain⟩
end
end L2
namespace L2
open PySem PySem.Spec PyProof.Rows
abbrev Dx(P:Program)(w:World)(base:Heap){K:PySem.W.Frag}{mg:Str->Option Value}{x:Str}{st:Stmt}{ps:List Str}(_:Fn K mg x st ps)(k:Nat)(sp:Sp):Prop:=Df P w K mg base x k ps sp
abbrev Dm(P:Program)(w:World)(mg:Str->Option Value)(base:Heap){K:PySem.W.Frag}{C:Addr}{m q:Str}{st:Stmt}{ps:List Str}(_:FnM K C m q st ps)(k:Nat)(sp:Sp):Prop:=ni P w K mg base C m k ps sp
end L2
namespace K84
open PySem PySem.Spec PyProof.Rows L2 KM
noncomputable def top(i:Nat):Stmt:=PySem.Challenge.pw_fivefields_k84_ring_of.main.body.getD i (.Pass ⟨0,0,0,0⟩)
abbrev aF:Addr:=399
abbrev aH:Addr:=433
abbrev aI:Addr:=466
abbrev aM:Addr:=492
abbrev aG:Addr:=525
abbrev aE:Addr:=558
abbrev aJ:Addr:=591
abbrev aO:Addr:=364
abbrev aA:Addr:=740
abbrev aD:Addr:=847
abbrev aB:Addr:=889
noncomputable abbrev gS:KM.Cs:=⟨aF,aH,aI,aM,aG,aE,aJ,aO⟩
noncomputable abbrev Ez:Stmt:=gG (top 75) 0
noncomputable abbrev Jg:Stmt:=gG (top 76) 0
noncomputable abbrev JK:Stmt:=gG (top 76) 1
noncomputable abbrev nZ:Stmt:=gG (top 77) 0
noncomputable abbrev K0:Stmt:=gG (top 77) 1
noncomputable abbrev BO:Stmt:=gG (top 78) 0
noncomputable abbrev Cb:Stmt:=gG (top 78) 1
noncomputable abbrev LF:Stmt:=gG (top 79) 0
noncomputable abbrev Dz:Stmt:=gG (top 80) 0
noncomputable abbrev KU:Stmt:=gG (top 80) 1
noncomputable abbrev JL:Stmt:=gG (top 81) 0
noncomputable abbrev GE:Stmt:=gG (top 81) 1
noncomputable abbrev IF:Stmt:=gG (top 82) 0
noncomputable abbrev AQ:Stmt:=gG (top 82) 1
noncomputable abbrev EW:Stmt:=gG (top 101) 0
noncomputable abbrev LW:Stmt:=gG (top 101) 5
noncomputable abbrev Ba:Stmt:=gG (top 101) 4
noncomputable abbrev nk:Stmt:=gG (top 116) 0
noncomputable abbrev DP:Stmt:=gG (top 116) 1
noncomputable abbrev SH:Stmt:=gG (top 116) 2
noncomputable abbrev JN:Stmt:=gG (top 116) 3
noncomputable abbrev zH:Stmt:=gG (top 117) 0
noncomputable abbrev zl:Stmt:=gG (top 117) 3
noncomputable abbrev TZ:Stmt:=gG (top 117) 1
noncomputable abbrev So:Stmt:=gG (top 117) 2
noncomputable def gD(y:Int):Bool:=decide (y%4=0)&&(!decide (y%100=0)||decide (y%400=0))
noncomputable def mb(y s:Int):Int:=(y+s-1) / s
noncomputable def db(y:Int):Int:=365*y+(mb y 4-mb y 100+mb y 400)
noncomputable def lasts:List Int:=[31,28,31,30,31,30,31,31,30,31,30,31]
noncomputable def iF(y:Int):Int:=if gD y=true then 1 else 0
noncomputable def fH(y m:Int):Int:=if m=2 then 28+iF y else lasts.getD (m-1).toNat 0
theorem qg(y:Int):gD y=true↔(y%4=0/\(y%100≠0∨y%400=0)):=by
 unfold gD;simp
theorem Jd{y:Int}(h:y%4=0/\(y%100≠0∨y%400=0)):gD y=true:=(qg y).mpr h
theorem C2{y:Int}(h:¬(y%4=0/\(y%100≠0∨y%400=0))):gD y=false:=by
 cases e:gD y
 ·rfl
 ·exact absurd ((qg y).mp e) h
theorem mX(y:Int):db y=365*y+((y+3) / 4-(y+99) / 100+(y+399) / 400):=by
 have e1:y+4-1=y+3:=⋯;have e2:y+100-1=y+99:=⋯;have e3:y+400-1=y+399:=⋯;unfold db mb;rw[e1,e2,e3]
theorem ub(y q:Int):db (y+400*q)=db y+146097*q:=by rw[mX,mX];omega
theorem Mv(y q:Int):iF (y+400*q)=iF y:=by
 have e:gD (y+400*q)=gD y:=by
  unfold gD;rw[show (y+400*q)%4=y%4 by omega,show (y+400*q)%100=y%100 by omega,show (y+400*q)%400=y%400 by omega]
 unfold iF;rw[e]
theorem wu:∀r:Nat,r<400->db ((r:Int)+1)-db (r:Int)=365+iF (r:Int):=by decide +kernel
theorem P5(y:Int):db (y+1)-db y=365+iF y:=by
 have z:=wu (y%400).toNat ⋯;obtain⟨q,e⟩:∃q,y=((y%400).toNat:Int)+400*q:=⟨y / 400,⋯⟩;generalize ((y%400).toNat:Int)=r at z e;rw[e,show r+400*q+1=r+1+400*q by omega,ub,ub,Mv];omega
theorem vp{m:Int}(h1:1<=m)(h2:m<=12):gK (lasts.map V.int) (m-1)=some (V.int (lasts.getD (m-1).toNat 0)):=by
 have hk:(m-1).toNat<12:=⋯;have e:m-1=(((m-1).toNat:Nat):Int):=⋯;rw[e];refine lV ?_;rw[bS];generalize (m-1).toNat=j at hk
 match j,hk with
 |0,_ | 1,_ | 2,_ | 3,_ | 4,_ | 5,_ | 6,_ | 7,_ | 8,_ | 9,_ | 10,_ | 11,_=>rfl
 |n+12,h=>exact absurd h ⋯
noncomputable def mn(y:Int):Nat->Int
 |0=>0
 |n+1=>mn y n+fH y ((n:Int)+1)
noncomputable def ji(y m:Int):Int:=mn y (m-1).toNat
theorem uZ{y m:Int}(h:1<=m):ji y (m+1)=ji y m+fH y m:=by
 have e:(m+1-1).toNat=(m-1).toNat+1:=⋯;have e2:(((m-1).toNat:Nat):Int)+1=m:=⋯;unfold ji;rw[e];show mn y (m-1).toNat+fH y (((m-1).toNat:Int)+1)=_;rw[e2]
theorem UZ(y:Int):ji y 13=365+iF y:=by
 show 0+fH y 1+fH y 2+fH y 3+fH y 4+fH y 5+fH y 6+fH y 7+fH y 8+fH y 9+fH y 10+fH y 11+fH y 12=_;have e2:fH y 2=28+iF y:=rfl;rw[e2];show 0+31+(28+iF y)+31+30+31+30+31+31+30+31+30+31=_;omega
noncomputable def mV(k:Int):List Int:=if k / 7=12 then [2,29,k%7] else [k / 7+1,fH 1 (k / 7+1),k%7]
noncomputable def iM(k:Int):Int:=if k / 7=12 then 2 else k / 7+1
noncomputable def gj(k:Int):Int:=if k / 7=12 then 29 else fH 1 (k / 7+1)
theorem FW(k:Int):mV k=[iM k,gj k,k%7]:=by
 unfold mV iM gj;split<;>rfl
theorem VL:∀n:Nat,n<91->(1<=iM n/\iM n<=12)/\(28<=gj n/\gj n<=31):=by decide +kernel
theorem lC{k:Int}(h0:0<=k)(h1:k<=90):(1<=iM k/\iM k<=12)/\Lf (gj k) (k%7):=by
 have z:=VL k.toNat ⋯;rw[bQ h0] at z;exact⟨z.1,z.2,⋯,⋯⟩
def DVn(c:Cs)(D:Addr)(H:Hp)(v:V)(ko:Ko):Prop:=DV c H v ko/\∀p,v=.ref p->p≠D
theorem DVn.keep{c:Cs}{D:Addr}{H H':Hp}(s:Same H H'){v:V}{ko:Ko}(h:DVn c D H v ko):DVn c D H' v ko:=⟨h.1.keep s,h.2⟩
theorem DVn.upd{c:Cs}{D:Addr}{H:Hp}{l':List V}{v:V}:∀{ko:Ko},DVn c D H v ko->(∃l,H D=some (.lst l))->DVn c D (upd H D (.lst l')) v ko
 |none,h,_=>h
 |some ks,⟨⟨p,qs,e,h1,h2,h3⟩,hn⟩,⟨l,hl⟩=>⟨⟨p,qs,e,by rw[fh (hn p e)];exact h1,h2.keepM (tq hl),h3⟩,hn⟩
def RR(c:Cs)(m0 m1 m3:Int)(kd kw:Ko)(D:Addr)(i:Nat)(l:List V)(H:Hp):Prop:=match i with
 |0=>l=[]
 |1=>l=[.int m0]
 |2=>l=[.int m0,.int m1]
 |3=>∃dv,l=[.int m0,.int m1,dv]/\DVn c D H dv kd
 |4=>∃dv,l=[.int m0,.int m1,dv,.int m3]/\DVn c D H dv kd
 |_=>∃dv wv,l=[.int m0,.int m1,dv,.int m3,wv]/\DVn c D H dv kd/\DVn c D H wv kw
theorem RR.keep{c:Cs}{m0 m1 m3:Int}{kd kw:Ko}{D:Addr}{l:List V}{H H':Hp}(s:Same H H'):∀{i:Nat},RR c m0 m1 m3 kd kw D i l H->RR c m0 m1 m3 kd kw D i l H'
 |0,h=>h
 |1,h=>h
 |2,h=>h
 |3,⟨dv,e,h⟩=>⟨dv,e,h.keep s⟩
 |4,⟨dv,e,h⟩=>⟨dv,e,h.keep s⟩
 |_+5,⟨dv,wv,e,h,h'⟩=>⟨dv,wv,e,h.keep s,h'.keep s⟩
theorem RR.upd{c:Cs}{m0 m1 m3:Int}{kd kw:Ko}{D:Addr}{l l':List V}{H:Hp}(hl:∃l,H D=some (.lst l)):∀{i:Nat},RR c m0 m1 m3 kd kw D i l H->RR c m0 m1 m3 kd kw D i l (upd H D (.lst l'))
 |0,h=>h
 |1,h=>h
 |2,h=>h
 |3,⟨dv,e,h⟩=>⟨dv,e,h.upd hl⟩
 |4,⟨dv,e,h⟩=>⟨dv,e,h.upd hl⟩
 |_+5,⟨dv,wv,e,h,h'⟩=>⟨dv,wv,e,h.upd hl,h'.upd hl⟩
theorem R9{ws:List (List Nat)}(h:∀w∈ws,w≠[]):pK (.str (Tx [])) (ws.map λq=>V.str (Tx q))=false:=by
 unfold pK;rw[List.any_map,cS];intro w hw hc;have e:Tx w=Tx []:=beq_iff_eq.mp (show (Tx w==Tx [])=true from hc);exact h w hw (by have:=congrArg (λz=>z.cps.toList) e;simpa [Tx] using this)
noncomputable def gM(m0 m1:Int)(dv:V)(m3:Int)(wv:V)(tm:Int):List (Str×V):=fj "time_mask" (.int tm) (fj "weekday_marks" wv (fj "month_mask" (.int m3) (fj "day_marks" dv (fj "hour_mask" (.int m1) (fj "minute_mask" (.int m0) [])))))
theorem Qj(m0 m1:Int)(dv:V)(m3:Int)(wv:V)(tm:Int):(gM m0 m1 dv m3 wv tm).lookup ("minute_mask":Str)=some (.int m0):=by
 unfold gM;rw[fK,if_neg (by decide +kernel),fK,if_neg (by decide +kernel),fK,if_neg (by decide +kernel),fK,if_neg (by decide +kernel),fK,if_neg (by decide +kernel),fK,if_pos rfl]
theorem VO(m0 m1:Int)(dv:V)(m3:Int)(wv:V)(tm:Int):(gM m0 m1 dv m3 wv tm).lookup ("hour_mask":Str)=some (.int m1):=by
 unfold gM;rw[fK,if_neg (by decide +kernel),fK,if_neg (by decide +kernel),fK,if_neg (by decide +kernel),fK,if_neg (by decide +kernel),fK,if_pos rfl]
theorem Vq(m0 m1:Int)(dv:V)(m3:Int)(wv:V)(tm:Int):(gM m0 m1 dv m3 wv tm).lookup ("day_marks":Str)=some (dv):=by
 unfold gM;rw[fK,if_neg (by decide +kernel),fK,if_neg (by decide +kernel),fK,if_neg (by decide +kernel),fK,if_pos rfl]
theorem WF(m0 m1:Int)(dv:V)(m3:Int)(wv:V)(tm:Int):(gM m0 m1 dv m3 wv tm).lookup ("month_mask":Str)=some (.int m3):=by
 unfold gM;rw[fK,if_neg (by decide +kernel),fK,if_neg (by decide +kernel),fK,if_pos rfl]
theorem ND(m0 m1:Int)(dv:V)(m3:Int)(wv:V)(tm:Int):(gM m0 m1 dv m3 wv tm).lookup ("weekday_marks":Str)=some (wv):=by
 unfold gM;rw[fK,if_neg (by decide +kernel),fK,if_pos rfl]
theorem Pd(m0 m1:Int)(dv:V)(m3:Int)(wv:V)(tm:Int):(gM m0 m1 dv m3 wv tm).lookup ("time_mask":Str)=some (.int tm):=by
 unfold gM;rw[fK,if_pos rfl]
theorem LN(m0 m1:Int)(dv:V)(m3:Int)(wv:V)(tm:Int):(gM m0 m1 dv m3 wv tm).lookup ("days_in":Str)=none:=by
 unfold gM;rw[fK,if_neg (by decide +kernel),fK,if_neg (by decide +kernel),fK,if_neg (by decide +kernel),fK,if_neg (by decide +kernel),fK,if_neg (by decide +kernel),fK,if_neg (by decide +kernel)];rfl
theorem H0(m0 m1:Int)(dv:V)(m3:Int)(wv:V)(tm:Int):(gM m0 m1 dv m3 wv tm).lookup ("times":Str)=none:=by
 unfold gM;rw[fK,if_neg (by decide +kernel),fK,if_neg (by decide +kernel),fK,if_neg (by decide +kernel),fK,if_neg (by decide +kernel),fK,if_neg (by decide +kernel),fK,if_neg (by decide +kernel)];rfl
def SV(b:Bool)(H:Hp)(v:V):Ko->Prop
 |none=>v=.non
 |some ks=>∃p us,v=.ref p/\H p=some (.lst (us.map V.ref))/\Ft (TpAt b H) us ks
theorem SV.keep{b:Bool}{H H':Hp}(s:Same H H'){v:V}:∀{ko:Ko},SV b H v ko->SV b H' v ko
 |none,h=>h
 |some _,⟨p,us,e,h1,h2⟩=>⟨p,us,e,s _ _ h1,h2.keepT s.keep⟩
theorem sH{b:Bool}{ko:Ko}{a l f:Int}(h:Lf l f)(o:∀ks,ko=some ks->∀k∈ks,k.ok)(ha:0<=a):0<=iK ko a l f:=by
 cases ko with
 |none=>exact ha
 |some ks=>exact lI ha (Kj h (o ks rfl))
theorem W6{a m:Int}{k:Nat}(ha:0<=a)(hk:a<2^k)(hm:0<=m):Builtin.bitOr a (m*2^k)=a+m*2^k:=by
 obtain⟨x,rfl⟩:=aZ ha;obtain⟨y,rfl⟩:=aZ hm;have e:((y:Int)*2^k)=((y*2^k:Nat):Int):=by rw[Int.natCast_mul,jj]
 have hx:x<2^k:=by have:=jj k;omega
 rw[e,qf,Nat.or_comm,←Nat.shiftLeft_eq,←Nat.shiftLeft_add_eq_or_of_lt hx,Nat.shiftLeft_eq];omega
noncomputable def hZ(h m:Int):Int:=fV ((j7 h).map λz=>m*2^(60*z).toNat)
theorem yd{h m:Int}(hm:0<=m)(hm2:m<2^60):∀n:Nat,fV ((flt (tb h) 0 n).map λz=>m*2^(60*z).toNat)=((flt (tb h) 0 n).map λz=>m*2^(60*z).toNat).sum/\0<=((flt (tb h) 0 n).map λz=>m*2^(60*z).toNat).sum/\((flt (tb h) 0 n).map λz=>m*2^(60*z).toNat).sum<2^(60*n)
 |0=>by rw[qD];exact⟨rfl,aV 0,(by decide:(0:Int)<2^0)⟩
 |n+1=>by
  obtain⟨h1,h2,h3⟩:=yd hm hm2 n;have p60:(2:Int)^(60*(n+1))=2^(60*n)*2^60:=by rw[show 60*(n+1)=60*n+60 by omega,Int.pow_add]
  have p0:=gT (60*n);cases c:tb h n
  ·rw[oQ c,p60];refine⟨h1,h2,Int.lt_of_lt_of_le h3 ?_⟩;have:(2:Int)^(60*n)*1<=2^(60*n)*2^60:=Int.mul_le_mul_of_nonneg_left (by decide) (bZ p0);omega
  ·have ez:(60*(0+(n:Int))).toNat=60*n:=⋯;have hb:(m+1)*2^(60*n)<=2^60*2^(60*n):=Int.mul_le_mul_of_nonneg_right ⋯ (bZ p0);have hn2:0<=m*2^(60*n):=Int.mul_nonneg hm (bZ p0);rw[q0 c,bE,List.map_singleton,oI,List.sum_append,h1,ez,W6 h2 h3 hm,p60];rw[Int.add_mul,Int.mul_comm (2^60)] at hb;refine⟨by simp,?_,?_⟩
   ·show 0<=_+(m*2^(60*n)+0);omega
   ·show _+(m*2^(60*n)+0)<_;omega
noncomputable def iW(y m:Int):Int:=if m=2/\gD y=true then 12 else m-1
noncomputable def kindOf(y m:Int):Int:=7*iW y m+(db y+ji y m+6)%7
theorem AD{y m:Int}(h1:1<=m)(h2:m<=12):0<=iW y m/\iW y m<=12:=by
 unfold iW;split<;>omega
theorem Cf{y m:Int}(h1:1<=m)(h2:m<=12):0<=kindOf y m/\kindOf y m<=90:=by
 have:=AD (y:=y) h1 h2;unfold kindOf;omega
theorem CN{y m:Int}(h:¬m=2):fH y m=lasts.getD (m-1).toNat 0:=by unfold fH;rw[if_neg h]
theorem PM{y m:Int}(h1:1<=m)(h2:m<=12):mV (kindOf y m)=[m,fH y m,kindOf y m%7]:=by
 have hp:=AD (y:=y) h1 h2;have e:kindOf y m / 7=iW y m:=by unfold kindOf;omega
 unfold mV;rw[e];by_cases c:m=2/\gD y=true
 ·have ep:iW y m=12:=by unfold iW;rw[if_pos c]
  have el:fH y m=29:=by unfold fH iF;rw[if_pos c.1,if_pos c.2];rfl
  rw[ep,if_pos rfl,el,c.1]
 ·have ep:iW y m=m-1:=by unfold iW;rw[if_neg c]
  rw[ep,if_neg ⋯];have e1:m-1+1=m:=⋯;rw[e1];have el:fH 1 m=fH y m:=by
   by_cases c2:m=2
   ·have hl:¬gD y=true:=λz=>c ⟨c2,z⟩;unfold fH iF;rw[if_pos c2,if_pos c2,if_neg hl];rfl
   ·rw[CN c2,CN c2]
  rw[el]
theorem rm{y m:Int}(h1:1<=m)(h2:m<=12):iM (kindOf y m)=m/\gj (kindOf y m)=fH y m:=by
 have e:=PM (y:=y) h1 h2;rw[FW] at e;injection e with e1 e;injection e with e2 e;exact⟨e1,e2⟩
theorem WH{y m:Int}(h1:1<=m)(h2:m<=12):28<=fH y m/\fH y m<=31:=by
 have e:=rm (y:=y) h1 h2;have k:=Cf (y:=y) h1 h2;rw[←e.2];exact (lC k.1 k.2).2.1
theorem B3(y r:Int):gD (y+400*r)=gD y:=by
 rw[cE,qg,qg];omega
theorem S8(y r m:Int):fH (y+400*r) m=fH y m:=by
 unfold fH iF;rw[B3]
theorem sy(y r:Int):∀n,mn (y+400*r) n=mn y n
 |0=>rfl
 |n+1=>by
  show mn (y+400*r) n+fH (y+400*r) ((n:Int)+1)=mn y n+fH y ((n:Int)+1);rw[sy y r n,S8]
theorem R8(y r:Int):db (y+400*r)=db y+146097*r:=by rw[mX,mX];omega
theorem Px{kd kw:Ko}{l f:Int}(h:Lf l f)(od:∀ks,kd=some ks->∀k∈ks,k.ok)(ow:∀ks,kw=some ks->∀k∈ks,k.ok):0<=hV kd kw l f:=by
 unfold hV;split
 ·have:=gT l.toNat;have:(2:Int)^l.toNat ≥ 1:=⋯;omega
 ·exact sH (b:=true) h ow (sH (b:=false) h od (aV 0))
noncomputable def tabA:List Nat:=[0,31,59,90,120,151,181,212,243,273,304,334]
noncomputable def mN(y:Nat):Nat:=(if (y%4==0&&(y%100 !=0||y%400==0))=true then 7 else 0)+(365*y+(y+3) / 4-(y+99) / 100+(y+399) / 400+6)%7
noncomputable def mP(c m:Nat):Nat:=7*(if (Nat.beq m 1&&Nat.ble 7 c)=true then 12 else m)+(c%7+tabA.getD m 0+(if (Nat.ble 2 m&&Nat.ble 7 c)=true then 1 else 0))%7
noncomputable def mD(k:Nat):Nat:=if Nat.ble 84 k=true then 1 else k / 7
noncomputable def jX(k:Nat):Nat:=if Nat.ble 84 k=true then 40 else 12
noncomputable def codes:List Nat:=(List.range 440).map mN
noncomputable def jM(k b:Nat):List Nat->Nat->Bool
 |[],_=>true
 |c::r,a=>if Nat.beq (mP c (mD k)) k=true then jM k b r b else (Nat.ble 2 a&&jM k b r (a-1))
theorem OW:∀k:Nat,k<91->jM k (jX k) codes (jX k)=true:=by decide +kernel
theorem Ki{k b c a:Nat}{r:List Nat}(h:jM k b (c::r) a=true):(mP c (mD k)=k/\jM k b r b=true)∨(2<=a/\jM k b r (a-1)=true):=by
 have h:(if Nat.beq (mP c (mD k)) k=true then jM k b r b else (Nat.ble 2 a&&jM k b r (a-1)))=true:=h;split at h
 ·rename_i q;exact .inl ⟨Nat.eq_of_beq_eq_true q,h⟩
 ·rw[bI] at h;exact .inr ⟨Nat.le_of_ble_eq_true h.1,h.2⟩
theorem wy(k b:Nat)(hb:1<=b):∀(n:Nat) (l:List Nat) (a:Nat),1<=a->a<=b->jM k b l a=true->∃a',1<=a'/\a'<=b/\jM k b (l.drop n) a'=true
 |0,_,a,h0,h1,h=>⟨a,h0,h1,h⟩
 |n+1,[],a,h0,h1,_=>⟨a,h0,h1,rfl⟩
 |n+1,c::r,a,h0,h1,h=>by
  show ∃a',1<=a'/\a'<=b/\jM k b (r.drop n) a'=true;rcases Ki h with h | h
  ·exact wy k b hb n r b hb (aP _) h.2
  ·exact wy k b hb n r (a-1) ⋯ ⋯ h.2
theorem L4(k b:Nat):∀(l:List Nat) (a:Nat),1<=a->a<=l.length->jM k b l a=true->∃j,j<a/\∃c,l[j]? =some c/\mP c (mD k)=k
 |[],a,h0,h1,_=>absurd h1 (by simp;omega)
 |c::r,a,h0,h1,h=>by
  rcases Ki h with h | h
  ·exact⟨0,⋯,c,rfl,h.1⟩
  ·have h1':a<=r.length+1:=h1;obtain⟨j,hj,c',e,q⟩:=L4 k b r (a-1) ⋯ ⋯ h.2;exact⟨j+1,⋯,c',e,q⟩
theorem WU{k:Nat}(hk:k<91){y:Nat}(hy:y<400):∃j,j<jX k/\mP (mN (y+j)) (mD k)=k:=by
 have hb:1<=jX k/\jX k<=40:=by unfold jX;split<;>omega
 obtain⟨a,a0,a1,h⟩:=wy k (jX k) hb.1 y codes (jX k) hb.1 (aP _) (OW k hk);have hl:codes.length=440:=by unfold codes;rw[aQ,cA]
 obtain⟨j,hj,c,e,q⟩:=L4 k (jX k) _ a a0 (by rw[cU,hl];omega) h;unfold codes at e;rw[List.getElem?_drop,bG,List.getElem?_range ⋯] at e;have e:mN (y+j)=c:=a8 e;exact⟨j,⋯,by rw[e];exact q⟩
theorem Xl:∀r:Nat,r<400->∀m:Nat,m<12->kindOf (r:Int) ((m:Int)+1)=(mP (mN r) m:Nat):=by decide +kernel
theorem P3:∀a:Nat,a<440->mN (a%400)=mN a:=by decide +kernel
theorem vH(y m q:Int):kindOf (y+400*q) m=kindOf y m:=by
 have a:ji (y+400*q) m=ji y m:=sy y q _;unfold kindOf iW;rw[B3,R8,a];generalize ji y m=A;generalize db y=B;have e:(B+146097*q+A+6)%7=(B+A+6)%7:=⋯;rw[e]
theorem tf(y:Int)(j:Nat):∃q:Int,y+j=((y%400).toNat+j:Nat)+400*q:=⟨y / 400,⋯⟩
theorem W1(y:Int){j m:Nat}(hj:j<=40)(hm:m<12):kindOf (y+j) ((m:Int)+1)=(mP (mN ((y%400).toNat+j)) m:Nat):=by
 have r0:(y%400).toNat<400:=⋯;obtain⟨q,e⟩:=tf y j;have ha:(y%400).toNat+j<440:=⋯;rw[e,vH];generalize (y%400).toNat+j=a at ha;have e2:(a:Int)=((a%400:Nat):Int)+400*((a / 400:Nat):Int):=⋯;rw[e2,vH,Xl _ (Nat.mod_lt _ (by decide)) m hm,P3 a ha]
noncomputable def kK(k:Int):Int:=if 83<k then 2 else k / 7+1
noncomputable def q9(k:Int):Int:=if 83<k then 40 else 12
theorem Ww{k:Int}(h0:0<=k)(h1:k<=90):1<=kK k/\kK k<=12:=by unfold kK;split<;>omega
theorem QT:∀k:Nat,k<91->kK (k:Int)=(mD k:Nat)+1/\mD k<12/\q9 (k:Int)=(jX k:Nat)/\jX k<=40:=by decide +kernel
theorem Oy{k:Int}(h0:0<=k)(h1:k<=90)(y:Int):∃j:Nat,(j:Int)<q9 k/\kindOf (y+j) (kK k)=k/\True:=by
 obtain⟨n,rfl⟩:∃n:Nat,k=n:=⟨k.toNat,⋯⟩;obtain⟨m1,m2,m3,m4⟩:=QT n ⋯;obtain⟨j,hj,hit⟩:=WU (k:=n) ⋯ (show (y%400).toNat<400 by omega);exact⟨j,⋯,by rw[m1,W1 y ⋯ m2,hit],trivial⟩
noncomputable def eW(M:Int):Int:=db (M / 12)+ji (M / 12) (M%12+1)
noncomputable def fX(M:Int):Int:=fH (M / 12) (M%12+1)
noncomputable def f7(M:Int):Int:=kindOf (M / 12) (M%12+1)
theorem m8(M:Int):eW (M+1)=eW M+fX M:=by
 unfold eW fX;by_cases c:M%12=11
 ·rw[show (M+1) / 12=M / 12+1 by omega,show (M+1)%12=0 by omega,c];have a1:=uZ (y:=M / 12) (m:=12) (by decide);have a2:=UZ (M / 12);have a3:=P5 (M / 12);have a4:ji (M / 12+1) (0+1)=0:=rfl;have e:(12:Int)+1=13:=rfl;have e':(11:Int)+1=12:=rfl;rw[e] at a1;rw[a4,e'];omega
 ·rw[show (M+1) / 12=M / 12 by omega,show (M+1)%12=M%12+1 by omega,uZ ⋯];omega
theorem n9{k:Int}(h0:0<=k)(h1:k<=90)(y:Int):∃N:Int,12*y<=N/\N<12*y+480/\f7 N=k:=by
 obtain⟨j,hj,hk,_⟩:=Oy h0 h1 y;have hm:=Ww h0 h1;have hb:q9 k<=40:=by unfold q9;split<;>decide
 refine⟨12*(y+j)+kK k-1,⋯,⋯,?_⟩;unfold f7;rw[show (12*(y+(j:Int))+kK k-1) / 12=y+j by omega,show (12*(y+(j:Int))+kK k-1)%12+1=kK k by omega];exact hk
def yf(t:Int):Prop:=0<=t/\t<2^1440
variable{S W:Int->Int}
theorem Qa{c d m:Int}(hc:0<=c)(hd:0<=d)(hm:0<=m)(h0:∀i,(tb c i&&tb d i)=false)(h1:∀i,(tb c i||tb d i)=tb m i):c+d=m:=by
 have ea:Builtin.bitAnd c d=0:=jy (oE hc hd) (aV 0) λi=>by rw[ly hc hd,h0,jb]
 have eo:Builtin.bitOr c d=m:=jy (lI hc hd) hm λi=>by rw[nO hc hd,h1]
 rw[←eo,bitOr_and,ea];omega
theorem QK{m:Int}(h:0<m){k:Nat}(hk:tb m k=true)(hj:∀j,j<k->tb m j=false):Builtin.bitAnd m (-m)=2^k:=by
 have hm1:0<=m-1:=⋯;have e:Builtin.bitAnd m (-m)=m-Builtin.bitAnd m (m-1):=by
  rw[bitAnd_pn ⋯ ⋯,bitAnd_pp ⋯ hm1];have:Builtin.bitNot (-m)=m-1:=by unfold Builtin.bitNot;omega
  rw[this]
 obtain⟨n,rfl⟩:=aZ (bZ h);have hkn:n.testBit k=true:=hk;have hjn:∀j,j<k->n.testBit j=false:=hj;have em:n%2^k=0:=Nat.eq_of_testBit_eq λi=>by
  rw[Nat.testBit_mod_two_pow,Nat.zero_testBit];by_cases c:i<k
  ·rw[dZ c,hjn i c];rfl
  ·rw[d7 c];rfl
 have hd:n=2^k*(n / 2^k):=by
  have:=Nat.div_add_mod n (2^k);omega
 have ho:(n / 2^k).testBit 0=true:=by rw[Nat.testBit_div_two_pow,Nat.zero_add];exact hkn
 have ho:n / 2^k%2=1:=by
  rw[Nat.testBit_zero] at ho;exact dY ho
 obtain⟨q,hq⟩:∃q,n / 2^k=2*q+1:=⟨n / 2^k / 2,⋯⟩;have hp:=Nat.two_pow_pos k;have e1:n=2^(k+1)*q+2^k:=by rw[hd,hq,Nat.mul_add,Nat.mul_one,←Nat.mul_assoc,Nat.pow_succ]
 have e2:n-1=2^(k+1)*q+(2^k-1):=⋯;have hl:2^k-1<2^(k+1):=by rw[Nat.pow_succ];omega
 have hl2:2^k<2^(k+1):=by rw[Nat.pow_succ];omega
 have tb1:∀i,tb ((n:Int)-1) i=(if i<k+1 then (2^k-1).testBit i else q.testBit (i-(k+1))):=λi=>by
  unfold tb;have:((n:Int)-1).toNat=n-1:=⋯;rw[this,e2,Nat.testBit_two_pow_mul_add _ hl]
 have tbn:∀i,tb (n:Int) i=(if i<k+1 then (2^k).testBit i else q.testBit (i-(k+1))):=λi=>by
  unfold tb;rw[bS,e1,Nat.testBit_two_pow_mul_add _ hl2]
 have hz:∀i,(tb (2^k) i&&tb (Builtin.bitAnd (n:Int) ((n:Int)-1)) i)=false:=λi=>by
  rw[kX,ly ⋯ hm1,tb1];by_cases c:k=i
  ·subst c;rw[if_pos ⋯,Nat.testBit_two_pow_sub_one];simp
  ·rw[d7 c];rfl
 have hs:=Qa (c:=2^k) (d:=Builtin.bitAnd (n:Int) ((n:Int)-1)) (m:=(n:Int)) (bZ (gT k)) (oE ⋯ hm1) ⋯ hz (λi=>by
  rw[kX,ly ⋯ hm1,tb1,tbn];by_cases c:i<k+1
  ·rw[if_pos c,if_pos c,Nat.testBit_two_pow_sub_one,Nat.testBit_two_pow];by_cases d:k=i
   ·subst d;simp
   ·rw[d7 d];simp
  ·rw[if_neg c,if_neg c,d7 ⋯];cases q.testBit (i-(k+1))<;>rfl)
 omega
theorem QW(k:Nat):Builtin.Int.intBits (2^k)=k+1:=by
 unfold Builtin.Int.intBits;have h0:((2:Int)^k==0)=false:=beq_eq_false_iff_ne.mpr (Int.ne_of_gt (gT k));rw[h0];have:((2:Int)^k).natAbs=2^k:=by rw[←jj,Int.natAbs_natCast]
 rw[this,Nat.log2_two_pow];rfl
noncomputable def gx(m3:Int)(kd kw:Ko)(k:Int):Int:=if tb m3 (iM k).toNat=true then hV kd kw (gj k) (k%7) else 0
noncomputable def tO(tm m3:Int)(kd kw:Ko)(k:Int)(j:Nat):Int:=if tb (gx m3 kd kw k) (j+1)=true then tm else 0
theorem pW{c:Cs}{H:Hp}{v:V}{ko:Ko}(h:DV c H v ko):∀ks,ko=some ks->∀k∈ks,k.ok:=λks e=>by
 subst e;obtain⟨_,_,_,_,_,z⟩:=h;exact z
theorem Rf{h m:Int}(h0:0<=h)(h1:h<2^24)(hm:0<=m){r:Nat}(a:tb h (r / 60)=true)(b:tb m (r%60)=true):tb (hZ h m) r=true:=by
 unfold hZ;rw[jC (λz hz=>by
  obtain⟨y,_,rfl⟩:=bJ.mp hz;exact Int.mul_nonneg hm (bZ (gT _))),List.any_eq_true]
 have hlt:r / 60<24:=by
  rcases bP (r / 60) 24 with c | c
  ·exact c
  ·rw[pI h1 c] at a;cases a
 refine⟨_,bJ.mpr ⟨((r / 60:Nat):Int),?_,rfl⟩,?_⟩
 ·rw[nS h0 h1,flt_mem];exact⟨r / 60,hlt,a,⋯⟩
 ·rw[show (60*((r / 60:Nat):Int)).toNat=60*(r / 60) by omega,qh hm,dZ (show 60*(r / 60)<=r by omega),show r-60*(r / 60)=r%60 by omega,b];rfl
theorem zj{h m:Int}(h0:0<=h)(h1:h<2^24)(hm:0<=m)(hm2:m<2^60):yf (hZ h m):=by
 unfold hZ;rw[nS h0 h1];obtain⟨e,a,b⟩:=yd (h:=h) hm hm2 24;rw[e];exact⟨a,b⟩
def AJ(g:Int->Nat->Int):Prop:=∀k j,yf (g k j)
theorem wj(M:Int):0<=f7 M/\f7 M<=90:=Cf ⋯ ⋯
theorem MW(M:Int):gj (f7 M)=fX M:=(rm (y:=M / 12) (m:=M%12+1) ⋯ ⋯).2
theorem Gp(M:Int):28<=fX M/\fX M<=31:=WH ⋯ ⋯
theorem TU{h m m3:Int}{kd kw:Ko}(h0:0<=h)(h1:h<2^24)(hm:0<=m)(hm2:m<2^60):AJ (tO (hZ h m) m3 kd kw):=λk j=>by
 unfold tO;split
 ·exact zj h0 h1 hm hm2
 ·exact⟨aV 0,gT _⟩
theorem ie{α β:Type}{F:α->β->Prop}:∀{l:List α} {r:List β},Paired F l r->l.length=r.length
 |_,_,.nil=>rfl
 |_,_,.cons _ t=>congrArg (·+1) (ie t)
def SameN(H H':Hp):Prop:=∀b o,(∀ps,o≠ .tbl ps)->H b=some o->H' b=some o
theorem nV{H H':Hp}(s:Same H H'):SameN H H':=λb o _ h=>s b o h
theorem SameN.trans{H H1 H2:Hp}(a:SameN H H1)(b:SameN H1 H2):SameN H H2:=λc o n h=>b c o n (a c o n h)
theorem JV{c:Cs}{H H':Hp}(s:SameN H H'){v:V}:∀{ko:Ko},DV c H v ko->DV c H' v ko
 |none,h=>h
 |some _,⟨p,qs,e,h1,h2,h3⟩=>⟨p,qs,e,s _ _ (λ_ z=>by cases z) h1,Paired.imp' (λx k z=>by cases k<;>(obtain⟨dx,z⟩:=z;exact⟨dx,s _ _ (λ_ z=>by cases z) z⟩)) h2,h3⟩
def RowR(c:Cs)(CR:Addr)(H:Hp)(p:Addr)(m0 m1 m3:Int)(kd kw:Ko):Prop:=∃(dx:Addr) (dv wv:V),H p=some (.ins CR dx (gM m0 m1 dv m3 wv (hZ m1 m0)))/\(0<=m0/\0<=m1/\0<=m3)/\(m1<2^24/\m0<2^60)/\DV c H dv kd/\DV c H wv kw
theorem RowR.keepN{c:Cs}{CR:Addr}{H H':Hp}{p:Addr}{m0 m1 m3:Int}{kd kw:Ko}(s:SameN H H')(h:RowR c CR H p m0 m1 m3 kd kw):RowR c CR H' p m0 m1 m3 kd kw:=by
 obtain⟨dx,dv,wv,hp,hn,hb,hd,hw⟩:=h;exact⟨dx,dv,wv,s _ _ (λ_ z=>by cases z) hp,hn,hb,JV s hd,JV s hw⟩
theorem RowR.ok{c:Cs}{CR:Addr}{H:Hp}{p:Addr}{m0 m1 m3:Int}{kd kw:Ko}(h:RowR c CR H p m0 m1 m3 kd kw):AJ (tO (hZ m1 m0) m3 kd kw):=by
 obtain⟨dx,dv,wv,hp,hn,hb,hd,hw⟩:=h;exact TU hn.2.1 hb.1 hn.1 hb.2
theorem kU{α β:Type}{F:α->β->Prop}:∀{l:List α} {r:List β},Paired F l r->∀{i:Nat} {a:α},l[i]? =some a->∃b,r[i]? =some b/\F a b
 |_,_,.nil,_,_,h=>nomatch h
 |_,_,.cons r _,0,_,h=>by cases h;exact⟨(),r⟩
 |_,_,.cons _ t,i+1,_,h=>kU t h
theorem QI:∀m∈oJ,∀l∈lJ,∀f∈jB,jK m l f<2^(l.toNat+1):=by decide +kernel
theorem BF:∀l∈lJ,∀f∈jB,∀d∈pY,d<=l->nw d l f<=l:=by decide +kernel
theorem pf{a n:Nat}(h:a<n):(1:Int)*2^a<2^n:=by
 have e:(2:Int)^n=2^a*2^(n-a):=by rw[←Int.pow_add,show a+(n-a)=n by omega]
 have p:=gT a;have q:(2:Int)<=2^(n-a):=by
  obtain⟨k,hk⟩:∃k,n-a=k+1:=⟨n-a-1,⋯⟩;rw[hk,Int.pow_succ];have:=gT k;omega
 rw[e,Int.one_mul];have:(2:Int)^a*1<2^a*2^(n-a):=Int.mul_lt_mul_of_pos_left ⋯ p;omega
theorem Xi{k:Mk}{l f:Int}(hk:k.ok)(h:Lf l f):k.due l f<2^(l.toNat+1):=by
 have hl:=h.1;have p:=gT (l.toNat+1);cases k with
 |num m=>
  show j8 m l<_;rw[(tG hk h.1).1];have e:=yO (n:=l.toNat+1) 0 (tG hk h.1).2.2.1 (λd hd=>by have:=(rG m l.toNat).2.2 d hd;omega) ⋯;have e1:(2:Int)^0=1:=rfl;omega
 |lst b=>
  show (if l<=b then (0:Int) else 1*2^(l-b).toNat)<_;have hb:=hk.1;split
  ·exact p
  ·exact pf ⋯
 |nea d=>
  show (if l<d then (0:Int) else 1*2^(nw d l f).toNat)<_;split
  ·exact p
  ·have:=BF l (kZ hl.1 hl.2) f (jn h.2.1 h.2.2) d (uU hk.1 hk.2) ⋯;exact pf ⋯
 |wrk=>
  have:=BF l (kZ hl.1 hl.2) f (jn h.2.1 h.2.2) l (uU ⋯ hl.2) (aV _);exact pf ⋯
 |wkd m=>exact QI m (qj hk.1 hk.2) l (kZ hl.1 hl.2) f (jn h.2.1 h.2.2)
 |nth w m=>
  show (if l<km w m f then (0:Int) else 1*2^(km w m f).toNat)<_;split
  ·exact p
  ·exact pf ⋯
 |one w=>
  have:nK w l f<=l:=by
   unfold nK;have:=cW ((f+l-1)%7-w) (show (7:Int)≠0 by decide);omega
  exact pf ⋯
 |nil=>exact p
theorem Jl{ko:Ko}{a l f:Int}(h:Lf l f)(o:∀ks,ko=some ks->∀k∈ks,k.ok)(ha:0<=a)(ha2:a<2^(l.toNat+1)):iK ko a l f<2^(l.toNat+1):=by
 cases ko with
 |none=>exact ha2
 |some ks=>exact Nx ha (Kj h (o ks rfl)) ha2 (tX λm hm=>by
   obtain⟨k,hk,rfl⟩:=bJ.mp hm;exact⟨mf (o ks rfl k hk) h,Xi (o ks rfl k hk) h⟩)
theorem KG{kd kw:Ko}{l f:Int}(h:Lf l f)(od:∀ks,kd=some ks->∀k∈ks,k.ok)(ow:∀ks,kw=some ks->∀k∈ks,k.ok):hV kd kw l f<2^(l.toNat+1):=by
 have p:=gT (l.toNat+1);unfold hV;split
 ·rw[Int.pow_succ];omega
 ·exact Jl h ow (sH (b:=false) h od (aV 0)) (Jl h od (aV 0) p)
theorem qp(a b:Int):decide (V.int a=V.int b)=decide (a=b):=decide_eq_decide.mpr int_eq
noncomputable def qQ(m3:Int)(kd kw:Ko):Bool:=((List.range 91).map λk:Nat=>decide (gx m3 kd kw (k:Int)=0)).all id
theorem oo{H:Hp}{a:Addr}{o:HO}:gr (upd H a o) a=gr H a:=funext λb=>by
 by_cases c:b=a
 ·subst c;rw[nN,nN]
 ·rw[gU c,gU c,fh c]
theorem pG{H H':Hp}{a:Addr}(s:Same H H'):Same (gr H a) (gr H' a):=λb o e=>by
 obtain⟨n,e⟩:=oX e;rw[gU n];exact s _ _ e
theorem mF{H:Hp}{a:Addr}:Same (gr H a) H:=λ_ _ e=>(oX e).2
noncomputable def jw(n:Nat):List (Int×Int):=(List.range n).map λM:Nat=>(eW (M:Int),f7 (M:Int))
theorem PZ(n:Nat):jw (n+1)=jw n++[(eW (n:Int),f7 (n:Int))]:=by
 unfold jw;rw[cY,bE];rfl
theorem qC{H:Hp}{l:Addr}{xs ys:List V}(hl:H l=some (.lst xs)):∀{us:List V} {ps:List (Int×Int)},Paired (gm H) us ps->Paired (gm (upd H l (.lst ys))) us ps
 |_,_,.nil=>.nil
 |_,_,.cons ⟨t,e,ht⟩ r=>.cons ⟨t,e,by rw[fh (λz=>by rw[z,hl] at ht;cases ht)];exact ht⟩ (qC hl r)
theorem jp{H H':Hp}(s:Same H H'):∀{us:List V} {ps:List (Int×Int)},Paired (gm H) us ps->Paired (gm H') us ps
 |_,_,.nil=>.nil
 |_,_,.cons ⟨t,e,ht⟩ r=>.cons ⟨t,e,s _ _ ht⟩ (jp s r)
theorem lO{H:Hp}{t:Addr}{p:Int×Int}(ht:H t=some (.tup [.int p.1,.int p.2])):∀{us:List V} {ps:List (Int×Int)},Paired (gm H) us ps->Paired (gm H) (us++[.ref t]) (ps++[p])
 |_,_,.nil=>.cons ⟨t,rfl,ht⟩ .nil
 |_,_,.cons x r=>.cons x (lO ht r)
theorem kr{H:Hp}{us:List V}{ps:List (Int×Int)}(hp:Paired (gm H) us ps){i:Nat}{x:V}(hx:us[i]? =some x):∃(t:Addr) (p:Int×Int),x=.ref t/\H t=some (.tup [.int p.1,.int p.2])/\ps[i]? =some p:=by
 obtain⟨p,hp',t,e,ht⟩:=kU hp hx;exact⟨t,p,e,ht,hp'⟩
theorem Lw{y m:Int}(h1:1<=m)(h2:m<=12):f7 (12*y+m-1)=7*iW y m+(eW (12*y+m-1)+6)%7/\fX (12*y+m-1)=fH y m:=by
 unfold f7 eW fX kindOf;rw[show (12*y+m-1) / 12=y by omega,show (12*y+m-1)%12+1=m by omega];exact⟨rfl,rfl⟩
theorem Nq{K:FG}{a b:Addr}{xs ys:List V}{g:TG}{tb:TS}{D:gC}{σ:L2.St}{H:Hp}(he:ys.length<=xs.length)(Pv:Nat->L2.St->Hp->Prop)(h0:Pv 0 σ H)(hl:∀i σ H,i<=ys.length->Pv i σ H->SqL K H a xs/\SqL K H b ys)
  (hs:∀i x y T σ H,xs[i]? =some x->ys[i]? =some y->Pv i σ H->H T=none->g (.ref T) σ (upd H T (.tup [x,y])) λσ2 H2=>tb {D with nx:=Pv (i+1),ct:=Pv (i+1),bk:=D.nx} σ2 H2) (hd:∀σ H,Pv ys.length σ H->D.nx σ H):
  ∃W:Nat->Nat->L2.St->Hp->Prop,(∃m,W 0 m σ H)/\∀i m σ H,W i m σ H->
   ((mZ K a b).stop i H/\D.nx σ H)∨((mZ K a b).go i H/\∃N:L2.St->Hp->Prop,(∀σ' H',N σ' H'->∃m',m'<m/\W (i+1) m' σ' H')/\∀x H',(mZ K a b).yld i H x H'->g x σ H' λσ2 H2=>tb {D with nx:=N,ct:=N,bk:=D.nx} σ2 H2):=by
 refine⟨λi m σ H=>m=ys.length-i/\i<=ys.length/\Pv i σ H,⟨ys.length,by simp,bD _,h0⟩,?_⟩;rintro i m σ H ⟨rfl,hi,p⟩;obtain⟨q1,q2⟩:=hl i σ H hi p;by_cases hlt:i<ys.length
 ·have hlt':i<xs.length:=⋯;refine .inr ⟨⟨xs,ys,xs[i],ys[i],q1,q2,by simp[hlt'],by simp[hlt]⟩,Pv (i+1),λσ' H' p'=>⟨ys.length-(i+1),⋯,rfl,hlt,p'⟩,λv H' yl=>?_⟩;obtain⟨T,rfl,hT,ev⟩:=yl;obtain⟨x,y,hx,hy,rfl⟩:=ev xs ys q1 q2;exact hs i x y T σ H hx hy p hT
 ·have e:i=ys.length:=⋯;subst e;exact .inl ⟨⟨xs,ys,q1,q2,.inr rfl⟩,hd σ H p⟩
def kg(ps:List (Int×Int)):Prop:=∀(i:Nat) (p q:Int×Int),ps[i]? =some p->ps[i+1]? =some q->4320<=q.1-p.1
theorem uu(xs:List V):g8 xs (some 1) none=xs.drop 1:=by
 unfold g8;have e:HT.sIx xs.length 0 (some 1)=min 1 xs.length:=HT.sIx_nat _ _ 1;rw[e,HT.sIx_none,dI (by rw[cU];omega)];rcases Nat.eq_zero_or_pos xs.length with c | c
 ·rw[c8 c];rfl
 ·rw[Nat.min_eq_left c]
structure gc where
 m0:Int
 m1:Int
 m3:Int
 kd:Ko
 kw:Ko
 tm:Nat
 off:Int
def PutAt(H:Hp)(v:V)(P:gc):Prop:=∃t x,v=.ref t/\H t=some (.tup [.ref x,.int P.off])/\RowR gS aA H x P.m0 P.m1 P.m3 P.kd P.kw/\0<hZ P.m1 P.m0/\tb (hZ P.m1 P.m0) P.tm=true/\∀j,j<P.tm->tb (hZ P.m1 P.m0) j=false
theorem PutAt.keep{H H':Hp}(s:Same H H'){v:V}{P:gc}(h:PutAt H v P):PutAt H' v P:=by
 obtain⟨t,x,e,ht,hR,z⟩:=h;exact⟨t,x,e,s _ _ ht,RowR.keepN (nV s) hR,z⟩
noncomputable def lW(P:gc)(k:Int):List Int:=j7 (gx P.m3 P.kd P.kw k)
noncomputable def me(P:gc)(k:Int):List (Int×Int):=(lW P k).map λd=>(1440*(d-1)+(P.tm:Int),P.off)
noncomputable def page(Ps:List gc)(k:Int):List (Int×Int):=Ps.flatMap λP=>me P k
theorem Vu(Ps:List gc)(P:gc)(k:Int):page (Ps++[P]) k=page Ps k++me P k:=by
 unfold page;rw[List.flatMap_append,List.flatMap_singleton]
theorem JS{m3 k:Int}{kd kw:Ko}(od:∀ks,kd=some ks->∀k∈ks,k.ok)(ow:∀ks,kw=some ks->∀k∈ks,k.ok)(h0:0<=k)(h1:k<=90):0<=gx m3 kd kw k/\gx m3 kd kw k<2^32:=by
 have lf:=(lC h0 h1).2;unfold gx;split
 ·refine⟨Px lf od ow,Int.lt_of_lt_of_le (KG lf od ow) ?_⟩;have l1:=lf.1.1;have l2:=lf.1.2;rcases (show gj k=28∨gj k=29∨gj k=30∨gj k=31 by omega) with e | e | e | e<;>rw[e]<;>decide
 ·exact⟨aV 0,by decide⟩
theorem MZ{Ps:List gc}{P:gc}{i:Nat}{k:Int}(h:Ps[i]? =some P):page Ps k=page (Ps.take i) k++(me P k++page (Ps.drop (i+1)) k):=by
 have hi:=(a9.mp h).1;have e:Ps=Ps.take i++P::Ps.drop (i+1):=by
  have z:=List.take_append_drop i Ps;rw[List.drop_eq_getElem_cons hi,(a9.mp h).2] at z;exact z.symm
 have z:page (Ps.take i++P::Ps.drop (i+1)) k=page (Ps.take i) k++(me P k++page (Ps.drop (i+1)) k):=by
  unfold page;rw[List.flatMap_append,List.flatMap_cons]
 rw[←e] at z;exact z
theorem mw{H H':Hp}{a:Addr}(s:Same H H')(n:H' a=none):H a=none:=by
 cases e:H a with
 |none=>rfl
 |some o=>rw[s _ _ e] at n;cases n
theorem DE:∀{a b:List (Int×Int)},a.Perm b->a.Pairwise (λx y=>gI x y=true)->b.Pairwise (λx y=>gI x y=true)->a=b
 |[],b,p,_,_=>(List.nil_perm.mp p).symm
 |x::a,[],p,_,_=>absurd p.length_eq (by simp)
 |x::a,y::b,p,ha,hb=>by
  rw[List.pairwise_cons] at ha hb;have e:x=y:=by
   rcases aT.mp (p.mem_iff.mp bF) with e | h1
   ·exact e
   ·rcases aT.mp (p.mem_iff.mpr bF) with e | h2
    ·exact e.symm
    ·have z1:=ltP_iff.mp (hb.1 x h1);have z2:=ltP_iff.mp (ha.1 y h2);omega
  subst e;rw[DE (List.Perm.cons_inv p) ha.2 hb.2]
theorem WK{a:List (Int×Int)}(h:a.Pairwise (λx y=>gI x y=true)):a.Nodup:=h.imp λ{x y} z e=>by
 have:=ltP_iff.mp z;rw[e] at this;omega
def PgA(H:Hp)(v:V)(ps:List (Int×Int)):Prop:=∃l us,v=.ref l/\H l=some (.lst us)/\Paired (gm H) us ps
theorem PgA.keep{H H':Hp}(s:Same H H'){v:V}{ps:List (Int×Int)}(h:PgA H v ps):PgA H' v ps:=by
 obtain⟨l,us,e,h1,h2⟩:=h;exact⟨l,us,e,s _ _ h1,jp s h2⟩
theorem pP{H H':Hp}(s:Same H H'):∀{us:List V} {ps:List (List (Int×Int))},Paired (PgA H) us ps->Paired (PgA H') us ps
 |_,_,.nil=>.nil
 |_,_,.cons x r=>.cons (x.keep s) (pP s r)
theorem Ld{H:Hp}{v:V}{p:List (Int×Int)}(hv:PgA H v p):∀{us:List V} {ps:List (List (Int×Int))},Paired (PgA H) us ps->Paired (PgA H) (us++[v]) (ps++[p])
 |_,_,.nil=>.cons hv .nil
 |_,_,.cons x r=>.cons x (Ld hv r)
noncomputable def gw(pg:Int->List (Int×Int))(n:Nat):List (Int×Int):=(List.range n).flatMap λM:Nat=>(pg (f7 (M:Int))).map λp=>(1440*eW (M:Int)+p.1,p.2)
theorem wl(pg:Int->List (Int×Int))(n:Nat):gw pg (n+1)=gw pg n++(pg (f7 (n:Int))).map λp=>(1440*eW (n:Int)+p.1,p.2):=by
 unfold gw;rw[cY,List.flatMap_append,List.flatMap_singleton]
def lQ(Ps:List gc)(pg:Int->List (Int×Int)):Prop:=∀k,0<=k->k<=90->(pg k).Perm (page Ps k)/\(pg k).Pairwise (λx y=>gI x y=true)/\(pg k).length<64/\kg (pg k)
theorem LU{pg:Int->List (Int×Int)}(h:∀k,0<=k->k<=90->(pg k).length<64):∀n:Nat,(gw pg n).length<=64*n
 |0=>aP 0
 |n+1=>by
  have k:=wj (n:Int);have:=h _ k.1 k.2;have:=LU h n;rw[wl,aS,aQ];omega
theorem Rj{i:Nat}{p:Int×Int}(h:(jw 4800)[i]? =some p):i<4800/\p=(eW (i:Int),f7 (i:Int)):=by
 unfold jw at h;rw[bG] at h;obtain⟨M,hM,rfl⟩:=dE.mp h;obtain⟨h1,h2⟩:=a9.mp hM;rw[List.getElem_range] at h2;rw[cA] at h1;subst h2;exact⟨h1,rfl⟩
def iu(E:Int->Int->Prop)(x t1 o0 o1:Int):Prop:=∃t0,E t1 o1/\E t0 o0/\t0<t1/\t1<=x/\∀t o,E t o->t<=x->t<t0∨(t=t0/\o=o0)∨(t=t1/\o=o1)
theorem FO{E F:Int->Int->Prop}(h:∀t o,E t o↔F t o){x a b c:Int}:iu E x a b c->iu F x a b c:=by
 rintro⟨s,e1,e0,hs,hx,al⟩;exact⟨s,(h _ _).mp e1,(h _ _).mp e0,hs,hx,λt o e l=>al t o ((h _ _).mpr e) l⟩
def m9(T:List (Int×Int))(t o:Int):Prop:=∃q:Int,(t-210379680*q,o)∈T
theorem vw{ps:List (Int×Int)}(h:kg ps):∀(d i:Nat) (p q:Int×Int),ps[i]? =some p->ps[i+d+1]? =some q->4320*((d:Int)+1)<=q.1-p.1
 |0,i,p,q,hp,hq=>by have:=h i p q hp hq;omega
 |d+1,i,p,q,hp,hq=>by
  have hi:i+d+1<ps.length:=by have:=(a9.mp hq).1;omega
  have h1:=vw h d i p ps[i+d+1] hp (bH hi);have h2:=h (i+d+1) _ q (bH hi) hq;omega
theorem mL{ps:List (Int×Int)}(h:kg ps){i j:Nat}{p q:Int×Int}(hp:ps[i]? =some p)(hq:ps[j]? =some q)(l:i<j):4320<=q.1-p.1:=by
 obtain⟨d,rfl⟩:∃d,j=i+d+1:=⟨j-i-1,⋯⟩;have:=vw h d i p q hp hq;omega
structure iN(T:List (Int×Int)):Prop where
 far:kg T
 lim:∀(i:Nat) (p:Int×Int),T[i]? =some p->0<=p.1/\p.1<210379680
 two:2<=T.length
theorem RG{T:List (Int×Int)}(h:iN T)(m:Int):∃n,n<=T.length/\(∀(i:Nat) p,T[i]? =some p->i<n->p.1<=m)/\(∀(i:Nat) p,T[i]? =some p->n<=i->m<p.1):=by
 refine⟨T.findIdx λp=>decide (m<p.1),List.findIdx_le_length,λi p hp hi=>?_,λi p hp hi=>?_⟩
 ·have hl:=(a9.mp hp);have z:=List.not_of_lt_findIdx hi;rw[hl.2] at z;have:¬m<p.1:=by simpa using z
  omega
 ·have hl:=(a9.mp hp).1;have hn:(T.findIdx λp=>decide (m<p.1))<T.length:=⋯;have z:decide (m<(T[T.findIdx λp=>decide (m<p.1)]).1)=true:=List.findIdx_getElem (w:=hn);have z:=dY z;rcases Nat.lt_or_eq_of_le hi with c | c
  ·have:=mL h.far (bH hn) hp c;omega
  ·have e:=(bH hn).symm.trans ((congrArg (T[·]?) c).trans hp);injection e with e;rw[←e];exact z
noncomputable def lA(l n:Nat):Nat:=if n=0 then l-1 else n-1
noncomputable def ky(l n:Nat):Nat:=if n=0 then l-2 else if n=1 then l-1 else n-2
theorem XG{T:List (Int×Int)}(h:iN T){x:Int}{n:Nat}(hn:n<=T.length)(h1:∀(i:Nat) p,T[i]? =some p->i<n->p.1<=x%210379680)(h2:∀(i:Nat) p,T[i]? =some p->n<=i->x%210379680<p.1){a b:Int×Int}(ha:T[lA T.length n]? =some a)(hb:T[ky T.length n]? =some b):
  iu (m9 T) x (x-x%210379680-(if (n:Int)-1<0 then 210379680 else 0)+a.1) b.2 a.2:=by
 have ht:=h.two;have la:=h.lim _ _ ha;have lb:=h.lim _ _ hb;obtain⟨g,hg⟩:∃g,g=x / 210379680:=⟨()⟩;have hx:x-x%210379680=210379680*g:=⋯;have ia:=aY ha;have ib:=aY hb;rw[hx];by_cases c0:n=0
 ·rw[if_pos ⋯];unfold lA at ha;unfold ky at hb;rw[if_pos c0] at ha hb;have f:=mL h.far hb ha ⋯;refine⟨210379680*g-210379680+b.1,⟨g-1,by rw[show 210379680*g-210379680+a.1-210379680*(g-1)=a.1 by omega];exact ia⟩,⟨g-1,by rw[show 210379680*g-210379680+b.1-210379680*(g-1)=b.1 by omega];exact ib⟩,⋯,⋯,?_⟩;rintro t o ⟨q,hq⟩ ht';obtain⟨j,hj⟩:=cM hq;have lj:=h.lim _ _ hj;have hjl:=(a9.mp hj).1;have hgt:=h2 j _ hj ⋯
  have lj1:0<=t-210379680*q:=lj.1;have lj2:t-210379680*q<210379680:=lj.2;have hgt:x%210379680<t-210379680*q:=hgt;have hqg:q<=g-1:=⋯;rcases cX j (T.length-2) with d | d | d
  ·have z:=mL h.far hj hb d;have z:4320<=b.1-(t-210379680*q):=z;exact .inl ⋯
  ·subst d;have e:=hj.symm.trans hb;injection e with e;subst e;by_cases d2:q=g-1
   ·exact .inr (.inl ⟨by show t=210379680*g-210379680+(t-210379680*q);omega,rfl⟩)
   ·exact .inl (by show t<210379680*g-210379680+(t-210379680*q);omega)
  ·obtain rfl:j=T.length-1:=⋯;have e:=hj.symm.trans ha;injection e with e;subst e;by_cases d2:q=g-1
   ·exact .inr (.inr ⟨by show t=210379680*g-210379680+(t-210379680*q);omega,rfl⟩)
   ·exact .inl ⋯
 ·rw[if_neg ⋯];unfold lA at ha;rw[if_neg c0] at ha;have upa:=h1 _ _ ha ⋯;by_cases c1:n=1
  ·unfold ky at hb;rw[if_neg c0,if_pos c1] at hb;subst c1;refine⟨210379680*g-210379680+b.1,⟨g,by rw[show 210379680*g-0+a.1-210379680*g=a.1 by omega];exact ia⟩,⟨g-1,by rw[show 210379680*g-210379680+b.1-210379680*(g-1)=b.1 by omega];exact ib⟩,⋯,⋯,?_⟩;rintro t o ⟨q,hq⟩ ht';obtain⟨j,hj⟩:=cM hq;have lj:=h.lim _ _ hj;have hjl:=(a9.mp hj).1;have lj1:0<=t-210379680*q:=lj.1;have lj2:t-210379680*q<210379680:=lj.2
   by_cases d:j=0
   ·subst d;have e:=hj.symm.trans ha;injection e with e;subst e;have f:=mL h.far ha hb ⋯;have f:4320<=b.1-(t-210379680*q):=f;have upa:t-210379680*q<=x%210379680:=upa;rcases dN q g with d2 | d2 | d2
    ·exact .inl ⋯
    ·exact .inr (.inr ⟨by show t=210379680*g-0+(t-210379680*q);omega,rfl⟩)
    ·omega
   ·have hgt:=h2 j _ hj ⋯;have hgt:x%210379680<t-210379680*q:=hgt;have hqg:q<=g-1:=⋯;rcases bP j (T.length-1) with d2 | d2
    ·have z:=mL h.far hj hb d2;have z:4320<=b.1-(t-210379680*q):=z;exact .inl ⋯
    ·obtain rfl:j=T.length-1:=⋯;have e:=hj.symm.trans hb;injection e with e;subst e;by_cases d2:q=g-1
     ·exact .inr (.inl ⟨by show t=210379680*g-210379680+(t-210379680*q);omega,rfl⟩)
     ·exact .inl (by show t<210379680*g-210379680+(t-210379680*q);omega)
  ·unfold ky at hb;rw[if_neg c0,if_neg c1] at hb;have upb:=h1 _ _ hb ⋯;have f:=mL h.far hb ha ⋯;refine⟨210379680*g+b.1,⟨g,by rw[show 210379680*g-0+a.1-210379680*g=a.1 by omega];exact ia⟩,⟨g,by rw[show 210379680*g+b.1-210379680*g=b.1 by omega];exact ib⟩,⋯,⋯,?_⟩;rintro t o ⟨q,hq⟩ ht';obtain⟨j,hj⟩:=cM hq;have lj:=h.lim _ _ hj;have hjl:=(a9.mp hj).1;have lj1:0<=t-210379680*q:=lj.1;have lj2:t-210379680*q<210379680:=lj.2
   rcases bP j n with d | d
   ·have up:=h1 j _ hj d;have up:t-210379680*q<=x%210379680:=up;rcases dN q g with d2 | d2 | d2
    ·exact .inl ⋯
    ·subst d2;rcases cX j (n-2) with d3 | d3 | d3
     ·have z:=mL h.far hj hb d3;have z:4320<=b.1-(t-210379680*q):=z;exact .inl ⋯
     ·subst d3;have e:=hj.symm.trans hb;injection e with e;subst e;exact .inr (.inl ⟨by show t=210379680*q+(t-210379680*q);omega,rfl⟩)
     ·obtain rfl:j=n-1:=⋯;have e:=hj.symm.trans ha;injection e with e;subst e;exact .inr (.inr ⟨by show t=210379680*q-0+(t-210379680*q);omega,rfl⟩)
    ·omega
   ·have hgt:=h2 j _ hj d;have hgt:x%210379680<t-210379680*q:=hgt;exact .inl ⋯
theorem T3{E:Int->Int->Prop}{x:Int}{S:List (Int×Int)}(hs:S.Pairwise λa b=>gI a b=true)(he:∀p∈S,E p.1 p.2/\p.1<=x)(dist:∀t o t' o',E t o->E t' o'->t=t'->o=o')(all:∀t o,E t o->t<=x->(t,o)∈S∨∃p q:Int×Int,p∈S/\q∈S/\p.1<q.1/\t<p.1){a b:Int×Int}(ha:S[S.length-1]? =some a)(hb:S[S.length-2]? =some b)(hl:2<=S.length):iu E x a.1 b.2 a.2:=by
 have lt:∀(i j:Nat) (p q:Int×Int),S[i]? =some p->S[j]? =some q->i<j->p.1<q.1:=λi j p q hp hq hij=>by
  obtain⟨i1,i2⟩:=a9.mp hp;obtain⟨j1,j2⟩:=a9.mp hq;have z:=(dO.mp hs) i j i1 j1 hij;rw[i2,j2] at z;rcases ltP_iff.mp z with z | ⟨z,z'⟩
  ·exact z
  ·have:=dist _ _ _ _ (he p (aY hp)).1 (he q (aY hq)).1 z;omega
 have ea:=he a (aY ha);have eb:=he b (aY hb);have hba:=lt _ _ _ _ hb ha ⋯;have top:∀p∈S,p.1<b.1∨p=b∨p=a:=λp hp=>by
  obtain⟨j,hj⟩:=cM hp;have hjl:=(a9.mp hj).1;rcases cX j (S.length-2) with d | d | d
  ·exact .inl (lt _ _ _ _ hj hb d)
  ·subst d;have e:=hj.symm.trans hb;injection e with e;exact .inr (.inl e)
  ·obtain rfl:j=S.length-1:=⋯;have e:=hj.symm.trans ha;injection e with e;exact .inr (.inr e)
 refine⟨b.1,ea.1,eb.1,hba,ea.2,λt o e hx=>?_⟩;rcases all t o e hx with m | ⟨p,q,hp,hq,hpq,htp⟩
 ·rcases top _ m with z | z | z
  ·exact .inl z
  ·rw[←z];exact .inr (.inl ⟨rfl,rfl⟩)
  ·rw[←z];exact .inr (.inr ⟨rfl,rfl⟩)
 ·have z1:=top p hp;have z2:=top q hq;refine .inl ?_;rcases z1 with z1 | rfl | rfl
  ·omega
  ·omega
  ·rcases z2 with z2 | rfl | rfl<;>omega
structure LQ where
 s:Int
 n:Int
 w:Int
 m:Int
 tm:Nat
 off:Int
noncomputable def gE(q:LQ)(l f:Int):Int:=if q.s=1 then 1+(q.w-f)%7+7*(q.n-1) else if q.s=2 then l-(f+l-1-q.w)%7 else if q.s=5 then 29 else if q.s=6 then 29+(q.w-f)%7 else q.n
def Rk(q:LQ)(k d:Int):Prop:=if q.s=3 then (k%7+d-1)%7=q.w else (q.s=4∨iM k=q.m)/\d=gE q (gj k) (k%7)
def g7(q:LQ)(t:Int):Prop:=∃M d:Int,Rk q (f7 M) d/\(1<=d/\d<=fX M)/\t=1440*(eW M+d-1)+q.tm
structure eY(q:LQ):Prop where
 s:0<=q.s/\q.s<=6
 n0:q.s=0->5<=q.n/\q.n<=24
 n1:q.s=1->2<=q.n/\q.n<=4
 n4:q.s=4->1<=q.n/\q.n<=24
 w:0<=q.w/\q.w<=6
 m:q.s≠3->q.s≠4->1<=q.m/\q.m<=12
 m5:q.s=5∨q.s=6->q.m=2
 tm:q.tm<1440
 off: -720<=q.off/\q.off<=720
def hU(qs:List LQ):Prop:=∀(i j:Nat) (p q:LQ) (t u:Int),qs[i]? =some p->qs[j]? =some q->g7 p t->g7 q u->(i=j/\t=u)∨4320<=t-u∨4320<=u-t
def EQ(qs:List LQ)(t o:Int):Prop:=∃(i:Nat) (q:LQ),qs[i]? =some q/\g7 q t/\o=q.off
theorem kM(M:Int):(iM (f7 M)=M%12+1/\gj (f7 M)=fX M)/\f7 M%7=(eW M+6)%7/\(0<=f7 M/\f7 M<=90)/\28<=fX M/\fX M<=31:=by
 have a:=rm (y:=M / 12) (m:=M%12+1) ⋯ ⋯;have b:=Lw (y:=M / 12) (m:=M%12+1) ⋯ ⋯;have c:=wj M;have d:=lC c.1 c.2;have e:12*(M / 12)+(M%12+1)-1=M:=⋯;rw[e] at b;have l:=MW M;rw[l] at d;have d2:=d.2.1;exact⟨⟨a.1,l⟩,by rw[b.1];omega,c,d2⟩
theorem L9(M:Int):∀n:Nat,eW M+fX M+28*(n:Int)<=eW (M+n+1)
 |0=>by
  have:=m8 M;rw[show M+((0:Nat):Int)+1=M+1 by omega];omega
 |n+1=>by
  have h:=L9 M n;have u:=m8 (M+n+1);have l:=(kM (M+n+1)).2.2.2;rw[show M+((n+1:Nat):Int)+1=M+n+1+1 by omega];omega
theorem ja{M N:Int}(h:M<N):eW M+fX M+28*(N-M-1)<=eW N:=by
 have:=L9 M (N-M-1).toNat;rw[bQ ⋯,show M+(N-M-1)+1=N by omega] at this;exact this
theorem vL(M q:Int):fX (M+4800*q)=fX M:=by
 unfold fX fH;rw[show (M+4800*q) / 12=M / 12+400*q by omega,show (M+4800*q)%12=M%12 by omega,Mv]
theorem NT(M q:Int):f7 (M+4800*q)=f7 M:=by
 unfold f7;rw[show (M+4800*q) / 12=M / 12+400*q by omega,show (M+4800*q)%12=M%12 by omega,vH]
theorem sV(M q:Int):eW (M+4800*q)=eW M+146097*q:=by
 unfold eW;rw[show (M+4800*q) / 12=M / 12+400*q by omega,show (M+4800*q)%12=M%12 by omega,ub];have a:ji (M / 12+400*q) (M%12+1)=ji (M / 12) (M%12+1):=sy _ q _;rw[a];omega
theorem sM{q:LQ}{t g:Int}(h:g7 q t):g7 q (t+210379680*g):=by
 obtain⟨M,d,r,l,e⟩:=h;exact⟨M+4800*g,d,by rw[NT];exact r,by rw[vL];exact l,by rw[sV];omega⟩
theorem pH{q:LQ}(ok:eY q)(h3:q.s≠3){t:Int}(h:g7 q t):∃M d:Int,(q.s=4∨M%12+1=q.m)/\d=gE q (fX M) ((eW M+6)%7)/\(1<=d/\d<=fX M)/\t=1440*(eW M+d-1)+q.tm:=by
 obtain⟨M,d,r,l,e⟩:=h;have k:=kM M;unfold Rk at r;rw[if_neg h3,k.1.1,k.1.2,k.2.1] at r;exact⟨M,d,r.1,r.2,l,e⟩
theorem LD{q:LQ}(ok:eY q)(h3:q.s≠3)(h4:q.s≠4){l f:Int}(hl:28<=l):5<=gE q l f:=by
 have:=ok.s;have n0:=ok.n0;have n1:=ok.n1;unfold gE;split
 ·omega
 split
 ·omega
 split
 ·omega
 split<;>omega
theorem JR{qs:List LQ}(ok:∀q∈qs,eY q/\q.s≠3/\q.s≠4)(ne:∀(i j:Nat) (p q:LQ),qs[i]? =some p->qs[j]? =some q->p.m=q.m->i=j):hU qs:=by
 intro i j p q t u hp hq et eu;obtain⟨op,p3,p4⟩:=ok p (aY hp);obtain⟨oq,q3,q4⟩:=ok q (aY hq);obtain⟨M,d,m1,d1,l1,rfl⟩:=pH op p3 et;obtain⟨N,c,m2,c1,l2,rfl⟩:=pH oq q3 eu;have k1:=(kM M).2.2.2;have k2:=(kM N).2.2.2;have a1:=LD op p3 p4 (f:=(eW M+6)%7) k1.1;have a2:=LD oq q3 q4 (f:=(eW N+6)%7) k2.1;have t1:=op.tm;have t2:=oq.tm;rw[←d1] at a1;rw[←c1] at a2;rcases dN M N with h | h | h
 ·have:=ja h;omega
 ·subst h;obtain rfl:=ne i j p q hp hq ⋯;obtain rfl:p=q:=by
   have:=hp.symm.trans hq;injection this
  exact .inl ⟨rfl,⋯⟩
 ·have:=ja h;omega
theorem uV{q:LQ}(h3:q.s=3){t:Int}(h:g7 q t):∃n:Int,(n+6)%7=q.w/\t=1440*n+q.tm:=by
 obtain⟨M,d,r,l,e⟩:=h;have k:=kM M;unfold Rk at r;rw[if_pos h3,k.2.1] at r;exact⟨eW M+d-1,⋯,e⟩
theorem OU{p q:LQ}(p3:p.s=3)(q3:q.s=3)(e:p.tm=q.tm)(hw:q.w=(p.w+3)%7∨q.w=(p.w+4)%7):hU [p,q]:=by
 have one:∀(x y:LQ) (t u:Int),x.s=3->y.s=3->x.tm=y.tm->g7 x t->g7 y u->(x.w=y.w/\t=u)∨(x.w=y.w/\(4320<=t-u∨4320<=u-t))∨(x.w≠y.w/\(y.w=(x.w+3)%7∨y.w=(x.w+4)%7∨x.w=(y.w+3)%7∨x.w=(y.w+4)%7->4320<=t-u∨4320<=u-t)):=by
  intro x y t u hx hy he ht hu;obtain⟨n,n1,rfl⟩:=uV hx ht;obtain⟨m,m1,rfl⟩:=uV hy hu;rw[he];by_cases c:x.w=y.w
  ·by_cases c2:n=m
   ·exact .inl ⟨c,by rw[c2]⟩
   ·exact .inr (.inl ⟨c,⋯⟩)
  ·exact .inr (.inr ⟨c,⋯⟩)
 intro i j a b t u ha hb et eu
 match i,j,ha,hb with
 |0,0,ha,hb=>
  cases ha;cases hb;have z:=one p p t u p3 p3 rfl et eu;omega
 |0,1,ha,hb=>
  cases ha;cases hb;have z:=one p q t u p3 q3 e et eu;omega
 |1,0,ha,hb=>
  cases ha;cases hb;have z:=one q p t u q3 p3 e.symm et eu;omega
 |1,1,ha,hb=>
  cases ha;cases hb;have z:=one q q t u q3 q3 rfl et eu;omega
 |0,j+2,_,hb=>cases hb
 |1,j+2,_,hb=>cases hb
 |i+2,_,ha,_=>cases ha
theorem OR{p q:LQ}(op:eY p)(oq:eY q)(p4:p.s=4)(q4:q.s=4)(h1:p.n<=12)(h2:p.n+4<=q.n):hU [p,q]:=by
 have one:∀(x y:LQ) (t u:Int),eY x->eY y->x.s=4->y.s=4->g7 x t->g7 y u->(x.n=y.n/\x.tm=y.tm->t=u∨4320<=t-u∨4320<=u-t)/\(x.n+4<=y.n∨y.n+4<=x.n->4320<=t-u∨4320<=u-t):=by
  intro x y t u ox oy hx hy ht hu;obtain⟨M,d,_,d1,l1,rfl⟩:=pH ox ⋯ ht;obtain⟨N,c,_,c1,l2,rfl⟩:=pH oy ⋯ hu;have e1:∀(q:LQ) (l f:Int),q.s=4->gE q l f=q.n:=λq l f h=>by
   unfold gE;rw[if_neg ⋯,if_neg ⋯,if_neg ⋯,if_neg ⋯]
  rw[e1 _ _ _ hx] at d1;rw[e1 _ _ _ hy] at c1;have a1:=ox.n4 hx;have a2:=oy.n4 hy;have t1:=ox.tm;have t2:=oy.tm;have k1:=(kM M).2.2.2;have k2:=(kM N).2.2.2;rcases dN M N with h | h | h
  ·have:=ja h;omega
  ·subst h;omega
  ·have:=ja h;omega
 intro i j a b t u ha hb et eu
 match i,j,ha,hb with
 |0,0,ha,hb=>
  cases ha;cases hb;have z:=(one p p t u op op p4 p4 et eu).1 ⟨rfl,rfl⟩;omega
 |0,1,ha,hb=>
  cases ha;cases hb;have z:=(one p q t u op oq p4 q4 et eu).2 (.inl h2);omega
 |1,0,ha,hb=>
  cases ha;cases hb;have z:=(one q p t u oq op q4 p4 et eu).2 (.inr h2);omega
 |1,1,ha,hb=>
  cases ha;cases hb;have z:=(one q q t u oq oq q4 q4 et eu).1 ⟨rfl,rfl⟩;omega
 |0,j+2,_,hb=>cases hb
 |1,j+2,_,hb=>cases hb
 |i+2,_,ha,_=>cases ha
theorem V9{qs:List LQ}(h:hU qs)(n:Nat):hU (qs.take n):=by
 intro i j p q t u hp hq;have f:∀{i:Nat} {p:LQ},(qs.take n)[i]? =some p->qs[i]? =some p:=λ{i p} h=>by
  rw[List.getElem?_take] at h;split at h
  ·exact h
  ·cases h
 exact h i j p q t u (f hp) (f hq)
structure PQ(P:gc)(q:LQ):Prop where
 bit:∀k d:Int,0<=k->k<=90->0<=d->(tb (gx P.m3 P.kd P.kw k) d.toNat=true↔(1<=d/\d<=gj k)/\Rk q k d)
 nn:∀k:Int,0<=k->k<=90->0<=gx P.m3 P.kd P.kw k/\gx P.m3 P.kd P.kw k<2^32
 tm:P.tm=q.tm
 off:P.off=q.off
theorem vF{P:gc}{q:LQ}(h:PQ P q){k:Int}(h0:0<=k)(h1:k<=90){d:Int}:d∈lW P k↔(1<=d/\d<=gj k)/\Rk q k d:=by
 obtain⟨a,b⟩:=h.nn k h0 h1;unfold lW;rw[nS a b,flt_mem];constructor
 ·rintro⟨i,_,hb,rfl⟩;have:=(h.bit k (0+(i:Int)) h0 h1 ⋯).mp (by rw[show (0+(i:Int)).toNat=i by omega];exact hb);exact this
 ·intro z;have hb:=(h.bit k d h0 h1 ⋯).mpr z;refine⟨d.toNat,?_,hb,⋯⟩;have:=(lC h0 h1).2.1;omega
theorem mq{Ps:List gc}{qs:List LQ}(h:Paired PQ Ps qs){k:Int}(h0:0<=k)(h1:k<=90){p:Int×Int}:p∈page Ps k↔∃(i:Nat) (q:LQ) (d:Int),qs[i]? =some q/\((1<=d/\d<=gj k)/\Rk q k d)/\p=(1440*(d-1)+(q.tm:Int),q.off):=by
 induction h with
 |nil=>exact⟨λz=>(nomatch z),λ⟨_,_,_,z,_⟩=>by cases z⟩
 |cons hd tl ih=>
  rename_i P q Ps qs;show p∈me P k++page Ps k↔_;rw[bY,ih];constructor
  ·rintro (m | ⟨i,q',d,e,z⟩)
   ·obtain⟨d,hd',rfl⟩:=bJ.mp m;exact⟨0,q,d,rfl,(vF hd h0 h1).mp hd',by rw[hd.tm,hd.off]⟩
   ·exact⟨i+1,q',d,e,z⟩
  ·rintro⟨i,q',d,e,z,rfl⟩;cases i with
   |zero=>
    cases e;exact .inl (bJ.mpr ⟨d,(vF hd h0 h1).mpr z,by rw[hd.tm,hd.off]⟩)
   |succ i=>exact .inr ⟨i,q',d,e,z,rfl⟩
theorem oO{q:LQ}{k d:Int}(h:(1<=d/\d<=gj k)/\Rk q k d){M:Int}(e:f7 M=k):g7 q (1440*(eW M+d-1)+q.tm):=by
 subst e;exact⟨M,d,h.2,by rw[←(kM M).1.2];exact h.1,rfl⟩
theorem Pc{q:LQ}{qs:List LQ}(h:hU (q::qs)):hU qs:=λi j p r t u hp hr et eu=>by
 have:=h (i+1) (j+1) p r t u hp hr et eu;omega
theorem Xq{Ps:List gc}{qs:List LQ}(h:Paired PQ Ps qs){k:Int}(h0:0<=k)(h1:k<=90):hU qs->(page Ps k).Nodup:=by
 induction h with
 |nil=>exact λ_=>.nil
 |cons hd tl ih=>
  rename_i P q Ps qs;intro hf;obtain⟨M,_,_,e⟩:=n9 h0 h1 0;show (me P k++page Ps k).Pairwise _;refine cL.mpr ⟨?_,ih (Pc hf),λx hx y hy=>?_⟩
  ·unfold me lW;obtain⟨a,b⟩:=hd.nn k h0 h1;rw[List.pairwise_map,nS a b];refine (wA _ _ _).imp λ{x y} l c=>?_;have:=congrArg Prod.fst c;have this:1440*(x-1)+(P.tm:Int)=1440*(y-1)+(P.tm:Int):=this;omega
  ·obtain⟨d,hd',rfl⟩:=bJ.mp hx;obtain⟨i,r,c,er,hc,rfl⟩:=(mq tl h0 h1).mp hy;intro z;have z:=congrArg Prod.fst z;have z:1440*(d-1)+(P.tm:Int)=1440*(c-1)+(r.tm:Int):=z;have f:=hf 0 (i+1) q r _ _ rfl er (oO ((vF hd h0 h1).mp hd') e) (oO hc e);rw[hd.tm] at z;omega
theorem Sl{Ps:List gc}{qs:List LQ}(h:Paired PQ Ps qs)(hf:hU qs){k:Int}(h0:0<=k)(h1:k<=90){p r:Int×Int}(hp:p∈page Ps k)(hr:r∈page Ps k):p=r∨4320<=p.1-r.1∨4320<=r.1-p.1:=by
 obtain⟨M,_,_,e⟩:=n9 h0 h1 0;obtain⟨i,q,d,eq,hd,rfl⟩:=(mq h h0 h1).mp hp;obtain⟨j,u,c,eu,hc,rfl⟩:=(mq h h0 h1).mp hr;have f:=hf i j q u _ _ eq eu (oO hd e) (oO hc e);rcases f with ⟨rfl,f⟩ | f | f
 ·have:q=u:=by
   have:=eq.symm.trans eu;injection this
  subst this;have:d=c:=⋯;subst this;exact .inl rfl
 ·exact .inr (.inl (by show 4320<=1440*(d-1)+(q.tm:Int)-(1440*(c-1)+(u.tm:Int));omega))
 ·exact .inr (.inr (by show 4320<=1440*(c-1)+(u.tm:Int)-(1440*(d-1)+(q.tm:Int));omega))
theorem vE{Ps:List gc}{qs:List LQ}(h:Paired PQ Ps qs)(ok:∀q∈qs,eY q){k:Int}(h0:0<=k)(h1:k<=90){p:Int×Int}(hp:p∈page Ps k):0<=p.1/\p.1<1440*gj k:=by
 obtain⟨i,q,d,eq,hd,rfl⟩:=(mq h h0 h1).mp hp;have:=(ok q (aY eq)).tm;show 0<=1440*(d-1)+(q.tm:Int)/\1440*(d-1)+(q.tm:Int)<1440*gj k;omega
theorem AS{l:List (Int×Int)}(hs:l.Pairwise λx y=>gI x y=true)(hf:∀p∈l,∀q∈l,p=q∨4320<=p.1-q.1∨4320<=q.1-p.1):kg l:=λi p q hp hq=>by
 obtain⟨i1,i2⟩:=a9.mp hp;obtain⟨j1,j2⟩:=a9.mp hq;have z:=(dO.mp hs) i (i+1) i1 j1 ⋯;rw[i2,j2] at z;have z:=ltP_iff.mp z;rcases hf p (aY hp) q (aY hq) with c | c | c
 ·rw[c] at z;omega
 ·omega
 ·omega
theorem Xh{l:List (Int×Int)}(h:kg l)(hl:∀p∈l,0<=p.1/\p.1<44640):l.length<64:=by
 rcases bP l.length 12 with c | c
 ·omega
 ·have z:=vw h 10 0 l[0] l[11] (bH ⋯) (bH ⋯);have a:=hl l[0] (List.getElem_mem _);have b:=hl l[11] (List.getElem_mem _);omega
noncomputable def mr(a b:Int×Int):Bool:=decide (a.1<b.1)||(decide (a.1=b.1)&&decide (a.2<=b.2))
theorem qG{p q:Int×Int}:mr p q=true↔p.1<q.1∨(p.1=q.1/\p.2<=q.2):=by
 unfold mr;rw[cZ,bI,d6,d6,d6]
theorem Xm{l:List (Int×Int)}(nd:l.Nodup):∃s:List (Int×Int),s.Perm l/\s.Pairwise λx y=>gI x y=true:=by
 refine⟨l.mergeSort mr,List.mergeSort_perm l mr,?_⟩;have h:=List.pairwise_mergeSort (le:=mr) (λa b c h1 h2=>by rw[qG] at h1 h2 ⊢;omega) (λa b=>by rw[cZ,qG,qG];omega) l;have n:(l.mergeSort mr).Nodup:=(List.mergeSort_perm l mr).nodup_iff.mpr nd;refine (List.pairwise_and_iff.mpr ⟨h,n⟩).imp λ{a b} ⟨x,y⟩=>?_;rw[qG] at x;rw[ltP_iff];rcases x with x | ⟨x1,x2⟩
 ·exact .inl x
 ·rcases dC x2 with z | z
  ·exact .inr ⟨x1,z⟩
  ·exact absurd (Prod.ext x1 z) y
theorem Wn{Ps:List gc}{qs:List LQ}(h:Paired PQ Ps qs)(ok:∀q∈qs,eY q)(hf:hU qs):∃pg,lQ Ps pg:=by
 have all:∀k:Int,∃s:List (Int×Int),0<=k->k<=90->s.Perm (page Ps k)/\(s.Pairwise λx y=>gI x y=true)/\s.length<64/\kg s:=λk=>by
  by_cases c:0<=k/\k<=90
  ·obtain⟨s,p,w⟩:=Xm (Xq h c.1 c.2 hf);have f:=AS w λx hx y hy=>Sl h hf c.1 c.2 (p.mem_iff.mp hx) (p.mem_iff.mp hy);refine⟨s,λ_ _=>⟨p,w,Xh f λx hx=>?_,f⟩⟩;have:=vE h ok c.1 c.2 (p.mem_iff.mp hx);have:=(lC c.1 c.2).2.1;omega
  ·exact⟨[],λa b=>absurd ⟨a,b⟩ c⟩
 exact⟨λk=>Classical.choose (all k),λk h0 h1=>Classical.choose_spec (all k) h0 h1⟩
theorem tab_mem{pg:Int->List (Int×Int)}{n:Nat}{p:Int×Int}:p∈gw pg n↔∃M:Nat,M<n/\∃x∈pg (f7 (M:Int)),p=(1440*eW (M:Int)+x.1,x.2):=by
 unfold gw;rw[List.mem_flatMap];constructor
 ·rintro⟨M,hM,hp⟩;obtain⟨x,hx,rfl⟩:=bJ.mp hp;exact⟨M,bR.mp hM,x,hx,rfl⟩
 ·rintro⟨M,hM,x,hx,rfl⟩;exact⟨M,bR.mpr hM,bJ.mpr ⟨x,hx,rfl⟩⟩
theorem NY:eW 0=0/\eW 4800=146097:=by decide +kernel
variable{Ps:List gc}{qs:List LQ}{pg:Int->List (Int×Int)}
theorem mQ(h:Paired PQ Ps qs)(ok:∀q∈qs,eY q)(hg:lQ Ps pg){t o:Int}:(t,o)∈gw pg 4800↔EQ qs t o/\0<=t/\t<210379680:=by
 obtain⟨z0,z1⟩:=NY;rw[tab_mem];constructor
 ·rintro⟨M,hM,x,hx,e⟩;have k:=kM (M:Int);have hx:=(hg _ k.2.2.1.1 k.2.2.1.2).1.mem_iff.mp hx;obtain⟨i,q,d,eq,hd,rfl⟩:=(mq h k.2.2.1.1 k.2.2.1.2).mp hx;have e1:=congrArg Prod.fst e;have e2:=congrArg Prod.snd e;have e1:t=1440*eW (M:Int)+(1440*(d-1)+(q.tm:Int)):=e1;have ev:=oO hd rfl;have ht:=(ok q (aY eq)).tm;have hd1:=hd.1;rw[k.1.2] at hd1;refine⟨⟨i,q,eq,by rw[show t=1440*(eW (M:Int)+d-1)+(q.tm:Int) by omega];exact ev,e2⟩,?_,?_⟩
  ·rcases Int.lt_or_le 0 (M:Int) with c | c
   ·have:=ja c;have:=(kM 0).2.2.2;omega
   ·rw[show (M:Int)=0 by omega] at e1;omega
  ·have:=ja (show (M:Int)<4800 by omega);omega
 ·rintro⟨⟨i,q,eq,⟨M,d,hr,hd,e⟩,rfl⟩,h0,h1⟩;have k:=kM M;have ht:=(ok q (aY eq)).tm;have hM0:0<=M:=by
   rcases Int.lt_or_le M 0 with c | c
   ·have:=ja c;omega
   ·exact c
  have hM1:M<4800:=by
   rcases dN M 4800 with c | c | c
   ·exact c
   ·rw[c] at e;omega
   ·have:=ja c;have:=(kM 4800).2.2.2;omega
  obtain⟨N,rfl⟩:=aZ hM0;refine⟨N,⋯,(1440*(d-1)+(q.tm:Int),q.off),(hg _ k.2.2.1.1 k.2.2.1.2).1.mem_iff.mpr ((mq h k.2.2.1.1 k.2.2.1.2).mpr ⟨i,q,d,eq,⟨by rw[k.1.2];exact hd,hr⟩,rfl⟩),?_⟩;rw[e];exact Prod.ext (by show 1440*(eW (N:Int)+d-1)+(q.tm:Int)=1440*eW (N:Int)+(1440*(d-1)+(q.tm:Int));omega) rfl
theorem T9(h:Paired PQ Ps qs)(ok:∀q∈qs,eY q)(hg:lQ Ps pg)(t o:Int):m9 (gw pg 4800) t o↔EQ qs t o:=by
 constructor
 ·rintro⟨g,hm⟩;obtain⟨⟨i,q,eq,ev,e⟩,_⟩:=(mQ h ok hg).mp hm;have z:=sM (g:=g) ev;rw[show t-210379680*g+210379680*g=t by omega] at z;exact⟨i,q,eq,z,e⟩
 ·rintro⟨i,q,eq,ev,e⟩;have z:=sM (g:= -(t / 210379680)) ev;refine⟨t / 210379680,(mQ h ok hg).mpr ⟨⟨i,q,eq,?_,e⟩,⋯,⋯⟩⟩;rw[show t-210379680*(t / 210379680)=t+210379680* -(t / 210379680) by omega];exact z
theorem pV(hf:hU qs){t o u r:Int}(h:EQ qs t o)(h':EQ qs u r):(t=u/\o=r)∨4320<=t-u∨4320<=u-t:=by
 obtain⟨i,p,ep,ev,e⟩:=h;obtain⟨j,q,eq,ev',e'⟩:=h';rcases hf i j p q t u ep eq ev ev' with ⟨rfl,z⟩ | z
 ·have:p=q:=by
   have:=ep.symm.trans eq;injection this
  subst this;exact .inl ⟨z,e.trans e'.symm⟩
 ·exact .inr z
theorem zP(h:Paired PQ Ps qs)(ok:∀q∈qs,eY q)(hg:lQ Ps pg):∀n:Nat,(gw pg n).Pairwise λx y=>gI x y=true
 |0=>.nil
 |n+1=>by
  have k:=kM (n:Int);have g:=hg _ k.2.2.1.1 k.2.2.1.2;rw[wl];refine cL.mpr ⟨zP h ok hg n,?_,λx hx y hy=>?_⟩
  ·rw[List.pairwise_map];refine g.2.1.imp λ{a b} z=>?_;have z:=ltP_iff.mp z;refine ltP_iff.mpr ?_;show 1440*eW (n:Int)+a.1<1440*eW (n:Int)+b.1∨(1440*eW (n:Int)+a.1=1440*eW (n:Int)+b.1/\a.2<b.2);omega
  ·obtain⟨M,hM,a,ha,rfl⟩:=tab_mem.mp hx;obtain⟨b,hb,rfl⟩:=bJ.mp hy;have k':=kM (M:Int);have g':=hg _ k'.2.2.1.1 k'.2.2.1.2;have la:=vE h ok k'.2.2.1.1 k'.2.2.1.2 (g'.1.mem_iff.mp ha);have lb:=vE h ok k.2.2.1.1 k.2.2.1.2 (g.1.mem_iff.mp hb);rw[k'.1.2] at la;have:=ja (show (M:Int)<(n:Int) by omega);refine ltP_iff.mpr (.inl ?_);show 1440*eW (M:Int)+a.1<1440*eW (n:Int)+b.1;omega
def sU(q:LQ):Prop:=∃k d:Int,(0<=k/\k<=90)/\(1<=d/\d<=gj k)/\Rk q k d
theorem V2(h:Paired PQ Ps qs)(ok:∀q∈qs,eY q)(hg:lQ Ps pg){q:LQ}(hq:q∈qs)(ex:sU q):2<=(gw pg 4800).length:=by
 obtain⟨k,d,hk,hd⟩:=ex;obtain⟨i,ei⟩:=cM hq;obtain⟨M,m1,m2,em⟩:=n9 hk.1 hk.2 0;obtain⟨N,n1,n2,en⟩:=n9 hk.1 hk.2 40;have at_:∀M:Int,0<=M->M<4800->f7 M=k->(1440*(eW M+d-1)+(q.tm:Int),q.off)∈gw pg 4800:=λM h0 h1 e=>by
  obtain⟨X,rfl⟩:=aZ h0;refine tab_mem.mpr ⟨X,⋯,(1440*(d-1)+(q.tm:Int),q.off),?_,?_⟩
  ·rw[e];exact (hg _ hk.1 hk.2).1.mem_iff.mpr ((mq h hk.1 hk.2).mpr ⟨i,q,d,ei,hd,rfl⟩)
  ·exact Prod.ext (by show 1440*(eW (X:Int)+d-1)+(q.tm:Int)=1440*eW (X:Int)+(1440*(d-1)+(q.tm:Int));omega) rfl
 have a:=at_ M ⋯ ⋯ em;have b:=at_ N ⋯ ⋯ en;have l:=ja (show M<N by omega);have lm:=(kM M).2.2.2;rcases bP (gw pg 4800).length 2 with c | c
 ·obtain⟨x,ex⟩:=cM a;obtain⟨y,ey⟩:=cM b;have:=(a9.mp ex).1;have:=(a9.mp ey).1;obtain rfl:x=y:=⋯;have e:=ex.symm.trans ey;injection e with e;have e:=congrArg Prod.fst e;have e:1440*(eW M+d-1)+(q.tm:Int)=1440*(eW N+d-1)+(q.tm:Int):=e;omega
 ·exact c
theorem P6(h:Paired PQ Ps qs)(ok:∀q∈qs,eY q)(hf:hU qs)(hg:lQ Ps pg){q:LQ}(hq:q∈qs)(ex:sU q):iN (gw pg 4800) where
 far:=AS (zP h ok hg _) λp hp r hr=>by
  rcases pV hf ((mQ h ok hg).mp hp).1 ((mQ h ok hg).mp hr).1 with ⟨a,b⟩ | z
  ·exact .inl (Prod.ext a b)
  ·exact .inr z
 lim:=λi p hp=>((mQ h ok hg).mp (aY hp)).2
 two:=V2 h ok hg hq ex
theorem WM(h:Paired PQ Ps qs)(ok:∀q∈qs,eY q)(hf:hU qs)(hg:lQ Ps pg)(ht:iN (gw pg 4800)):∃t0 tr,gw pg 4800=t0::tr/\kg (gw pg 4800++[(t0.1+210379680,t0.2)]):=by
 cases e:gw pg 4800 with
 |nil=>have:=ht.two;rw[e] at this;cases this
 |cons t0 tr=>
  refine⟨t0,tr,rfl,?_⟩;rw[←e];have h0:t0∈gw pg 4800:=by rw[e];exact bF
  have l0:=(mQ h ok hg).mp (show (t0.1,t0.2)∈gw pg 4800 from h0);intro i p q hp hq;rcases cX (i+1) (gw pg 4800).length with c | c | c
  ·rw[cH ⋯] at hp hq;exact ht.far i p q hp hq
  ·rw[cH ⋯] at hp;rw[cF ⋯,c,Nat.sub_self] at hq;injection hq with hq;subst hq;have lp:=(mQ h ok hg).mp (show (p.1,p.2)∈gw pg 4800 from aY hp);obtain⟨j,r,er,ev,eo⟩:=l0.1;have z:=pV hf lp.1 ⟨j,r,er,sM (g:=1) ev,eo⟩;show 4320<=t0.1+210379680-p.1;omega
  ·rw[cF ⋯] at hq;have:i+1-(gw pg 4800).length=i-(gw pg 4800).length+1:=⋯;rw[this] at hq;cases hq
def PutY(G H:Hp)(v:V)(P:gc):Prop:=∃t x,v=.ref t/\H t=some (.tup [.ref x,.int P.off])/\RowR gS aA G x P.m0 P.m1 P.m3 P.kd P.kw/\hZ P.m1 P.m0=2^P.tm/\qQ P.m3 P.kd P.kw=false/\ -720<=P.off/\P.off<=720
def PutX(H:Hp)(v:V)(P:gc):Prop:=PutY H H v P
theorem PutY.keep{G H H':Hp}(s:Same H H'){v:V}{P:gc}(h:PutY G H v P):PutY G H' v P:=by
 obtain⟨t,x,e,ht,z⟩:=h;exact⟨t,x,e,s _ _ ht,z⟩
theorem PutY.x{G H:Hp}(s:Same G H){v:V}{P:gc}(h:PutY G H v P):PutX H v P:=by
 obtain⟨t,x,e,ht,hR,z⟩:=h;exact⟨t,x,e,ht,RowR.keepN (nV s) hR,z⟩
theorem PutX.keep{H H':Hp}(s:Same H H'){v:V}{P:gc}(h:PutX H v P):PutX H' v P:=PutY.x s (PutY.keep s h)
theorem PutX.at_{H:Hp}{v:V}{P:gc}(h:PutX H v P):PutAt H v P:=by
 obtain⟨t,x,e,ht,hR,e2,_⟩:=h;refine⟨t,x,e,ht,hR,by rw[e2];exact gT _,by rw[e2,kX];exact dZ rfl,λj hj=>by rw[e2,kX];exact d7 ⋯⟩
theorem Na(n:Nat):Builtin.bitAnd (2^n) (2^n-1)=0:=by
 have h:=gT n;refine jy (by rw[bitAnd_pp ⋯ ⋯];omega) (aV 0) λi=>?_;rw[ly ⋯ ⋯,kX,qX,jb];by_cases c:n=i
 ·rw[d7 (show ¬i<n by omega),Bool.and_false]
 ·rw[d7 c,Bool.false_and]
theorem qY{G H H':Hp}(s:Same H H'):∀{us:List V} {Ps:List gc},Paired (PutY G H) us Ps->Paired (PutY G H') us Ps
 |_,_,.nil=>.nil
 |_,_,.cons x r=>.cons (x.keep s) (qY s r)
theorem HF{G H:Hp}(s:Same G H):∀{us:List V} {Ps:List gc},Paired (PutY G H) us Ps->Paired (PutAt H) us Ps
 |_,_,.nil=>.nil
 |_,_,.cons x r=>.cons (x.x s).at_ (HF s r)
theorem sg{G H:Hp}{v:V}{P:gc}(hv:PutY G H v P):∀{us:List V} {Ps:List gc},Paired (PutY G H) us Ps->Paired (PutY G H) (us++[v]) (Ps++[P])
 |_,_,.nil=>.cons hv .nil
 |_,_,.cons x r=>.cons x (sg hv r)
theorem Hb{G H:Hp}{p C dx:Addr}{fs gs:List (Str×V)}(hp:H p=some (.ins C dx fs)):∀{us:List V} {Ps:List gc},Paired (PutY G H) us Ps->Paired (PutY G (upd H p (.ins C dx gs))) us Ps
 |_,_,.nil=>.nil
 |_,_,.cons ⟨t,x,e,ht,z⟩ r=>.cons ⟨t,x,e,by rw[fh (λe=>by rw[e,hp] at ht;cases ht)];exact ht,z⟩ (Hb hp r)
theorem QN{H H':Hp}{p:Addr}{o:HO}(s:Same H H'):Same (gr H p) (upd H' p o):=λb o hb=>by
 have ne:b≠p:=λe=>by rw[e,nN] at hb;cases hb
 rw[fh ne];rw[gU ne] at hb;exact s b _ hb
noncomputable def ku(b:Int):List (Str×V):=fj "base" (.int b) []
noncomputable def oK(pv tv:V):List (Str×V):=fj "table" tv (fj "puts" pv [])
theorem Wv(b:Int):(ku b).lookup ("base":Str)=some (.int b):=by unfold ku;rw[fK,if_pos rfl]
theorem V8(b:Int):(ku b).lookup ("offset_at":Str)=none:=by unfold ku;rw[fK,if_neg (by decide +kernel)];rfl
theorem PK(b:Int):(ku b).lookup ("put_at":Str)=none:=by unfold ku;rw[fK,if_neg (by decide +kernel)];rfl
theorem wz(pv tv:V):(oK pv tv).lookup ("table":Str)=some tv:=by unfold oK;rw[fK,if_pos rfl]
theorem UT(pv tv:V):(oK pv tv).lookup ("put_at":Str)=none:=by unfold oK;rw[fK,if_neg (by decide +kernel),fK,if_neg (by decide +kernel)];rfl
def ClkAt(H:Hp)(x:Addr)(T:List (Int×Int)):Prop:=∃dx pv tl us,H x=some (.ins aB dx (oK pv (.ref tl)))/\H tl=some (.lst us)/\Paired (gm H) us T/\iN T
theorem ClkAt.keep{H H':Hp}(s:Same H H'){x:Addr}{T:List (Int×Int)}(h:ClkAt H x T):ClkAt H' x T:=by
 obtain⟨dx,pv,tl,us,h1,h2,h3,h4⟩:=h;exact⟨dx,pv,tl,us,s _ _ h1,s _ _ h2,jp s h3,h4⟩
theorem KC:∀n:Nat,(n<24->fE [(n:Int)]<2^24)/\(n<60->fE [(n:Int)]<2^60):=λn=>by
 have a:∀n:Nat,n<24->fE [(n:Int)]<2^24:=by decide +kernel
 have b:∀n:Nat,n<60->fE [(n:Int)]<2^60:=by decide +kernel
 exact⟨a n,b n⟩
theorem tb_one{n:Int}{i:Nat}:tb (fE [n]) i=true↔n.toNat=i:=by
 rw[ng,bT,List.any_nil,Bool.or_false,d6]
theorem Va{h m:Int}(h0:0<=h)(h1:h<2^24)(hm:0<=m)(hm2:m<2^60){r:Nat}(e:tb (hZ h m) r=true):tb h (r / 60)=true/\tb m (r%60)=true:=by
 unfold hZ at e;rw[jC (λz hz=>by
  obtain⟨y,_,rfl⟩:=bJ.mp hz;exact Int.mul_nonneg hm (bZ (gT _))),List.any_eq_true] at e
 obtain⟨_,hz,e⟩:=e;obtain⟨y,hy,rfl⟩:=bJ.mp hz;rw[nS h0 h1,flt_mem] at hy;obtain⟨i,hi,hb,rfl⟩:=hy;rw[show (60*(0+(i:Int))).toNat=60*i by omega,qh hm,bI,d6] at e;have hlt:r-60*i<60:=by
  rcases bP (r-60*i) 60 with c | c
  ·exact c
  ·rw[pI hm2 c] at e;cases e.2
 rw[show r / 60=i by omega,show r%60=r-60*i by omega];exact⟨hb,e.2⟩
theorem Pp{h m:Int}(h0:0<=h)(h1:h<24)(m0:0<=m)(m1:m<60):(fE [m]<2^60/\fE [h]<2^24)/\hZ (fE [h]) (fE [m])=2^(60*h+m).toNat:=by
 have a:=(KC h.toNat).1 ⋯;have b:=(KC m.toNat).2 ⋯;rw[bQ h0] at a;rw[bQ m0] at b;refine⟨⟨b,a⟩,jy (zj (jg _) a (jg _) b).1 (bZ (gT _)) λi=>?_⟩;rw[kX];by_cases c:tb (hZ (fE [h]) (fE [m])) i=true
 ·obtain⟨x,y⟩:=Va (jg _) a (jg _) b c;have x:=tb_one.mp x;have y:=tb_one.mp y;rw[c];exact (dZ ⋯).symm
 ·rw[eq_false_of_ne_true c];refine (d7 λe=>c (Rf (jg _) a (jg _) (tb_one.mpr ?_) (tb_one.mpr ?_))).symm<;>omega
theorem mG{lo hi a:Int}(h0:0<=lo)(h1:lo<=a)(h2:a<=hi)(h3:hi<=63):FT lo hi (num a.toNat) (fE [a]):=
 (HS (.cons (i1 h0 h1 h2 h3) .nil) (bU _ _) (by show 1<=20;decide):FT lo hi (fU 44 [num a.toNat]) (fE [[a]].flatten))
theorem L0{lo hi:Int}(h:0<=lo/\lo<=hi/\hi<=63):FT lo hi [42] (fE (gY lo hi 1)):=by
 have:=HS (ws:=[[42]]) (nss:=[gY lo hi 1]) (.cons (i0 h.1 h.2.1 h.2.2) .nil) (bU _ _) (by show 1<=20;decide);rw[show [gY lo hi 1].flatten=gY lo hi 1 from b8 _] at this;exact this
theorem Km:∀n:Nat,n<32->num n≠[42]:=by decide +kernel
theorem vG{n:Int}(h0:1<=n)(h1:n<=31):DT false (num n.toNat) (some [.num (fE [n])]):=by
 have it:=i1 (lo:=1) (hi:=31) (a:=n) (by decide) h0 h1 (by decide);have hp:=tY (ns:=[n]) (bU _ _) (λn hn=>by rw[aX.mp hn];omega);exact qe (ws:=[num n.toNat]) (ks:=[.num (fE [n])]) (.cons ⟨it.2.1,rfl,it.1,hp⟩ .nil) (bU _ _) (by show 1<=20;decide) (λw hw=>by rw[aX.mp hw];exact Km _ ⋯) (λk hk=>by rw[aX.mp hk];exact⟨rfl,rfl,bZ hp⟩)
theorem Ph{w:Int}(h0:0<=w)(h1:w<7):DT true (num w.toNat) (some [.wkd (gn (fE [w]))]):=by
 have it:=i1 (lo:=0) (hi:=7) (a:=w) (by decide) h0 ⋯ (by decide);have hp:=tY (ns:=[w]) (bU _ _) (λn hn=>by rw[aX.mp hn];omega);have le:∀n:Nat,n<7->fE [(n:Int)]<=255:=by decide +kernel
 have le:=le w.toNat ⋯;rw[bQ h0] at le;have w7:=rT hp le;exact qe (b:=true) (ws:=[num w.toNat]) (ks:=[.wkd (gn (fE [w]))]) (.cons ⟨it.2.1,rfl,fE [w],it.1,⟨hp,le⟩,rfl⟩ .nil) (bU _ _) (by show 1<=20;decide) (λw hw=>by rw[aX.mp hw];exact Km _ ⋯) (λk hk=>by rw[aX.mp hk];exact⟨rfl,rfl,w7.2.1,w7.2.2⟩)
theorem AN{w n:Int}(h0:0<=w)(h1:w<7)(n0:1<=n)(n1:n<=5):DT true (num w.toNat++[35]++num n.toNat) (some [.nth w n]):=by
 have z:=M2 w.toNat ⋯ n.toNat ⋯ ⋯;have ed:((w.toNat:Int)%7)=w:=⋯;rw[ed,bQ (show 0<=n by omega)] at z;refine qe (ws:=[num w.toNat++[35]++num n.toNat]) (.cons ⟨z.2,z.1⟩ .nil) (bU _ _) (by show 1<=20;decide) (λx hx=>?_) (λk hk=>by rw[aX.mp hk];exact⟨rfl,rfl,⟨⋯,⋯⟩,n0,n1⟩);rw[aX.mp hx];intro c;have m:35∈num w.toNat++[35]++num n.toNat:=cD _ (bO _ bF);rw[c] at m;exact absurd m (by decide)
theorem QZ{w:Int}(h0:0<=w)(h1:w<7):DT true (num w.toNat++[76]) (some [.one w]):=by
 have z:=Ox w.toNat ⋯;have ed:((w.toNat:Int)%7)=w:=⋯;rw[ed] at z;refine qe (ws:=[num w.toNat++[76]]) (.cons ⟨z.2,z.1⟩ .nil) (bU _ _) (by show 1<=20;decide) (λx hx=>?_) (λk hk=>by rw[aX.mp hk];exact⟨rfl,rfl,by show 0<=w/\w<=6;omega⟩);rw[aX.mp hx];intro c;have m:76∈num w.toNat++[76]:=bO _ bF;rw[c] at m;exact absurd m (by decide)
theorem qt{z:Int}(h:0<=z)(i:Nat):tb (Builtin.bitOr 0 (Builtin.bitOr 0 z)) i=tb z i:=by
 rw[nO (aV 0) (lI (aV 0) h),jb,Bool.false_or,nO (aV 0) h,jb,Bool.false_or]
theorem uq(k:Mk)(l f:Int):hV (some [k]) none l f=Builtin.bitOr 0 (Builtin.bitOr 0 (k.due l f)):=rfl
theorem vO(k:Mk)(l f:Int):hV none (some [k]) l f=Builtin.bitOr 0 (Builtin.bitOr 0 (k.due l f)):=rfl
theorem P2{l:Int}(hl:0<=l)(i:Nat):tb (2*2^l.toNat-2) i=true↔1<=i/\(i:Int)<=l:=by
 have hp:=gT l.toNat;rw[show (2*2^l.toNat-2:Int)=(2^l.toNat-1)*2^1 by omega,qh ⋯,qX,bI,d6,d6];omega
theorem uw{n l f d:Int}(hn:1<=n)(h:Lf l f)(hd:0<=d):tb (hV (some [.num (fE [n])]) none l f) d.toNat=true↔(1<=d/\d<=l)/\d=n:=by
 have hl:=h.1.1;have nn:(0:Int)<=2*2^l.toNat-2:=by have:=gT l.toNat;omega
 rw[uq,qt (mf (k:=.num (fE [n])) (jg _) h)];show tb (Builtin.bitAnd (fE [n]) (2*2^l.toNat-2)) d.toNat=true↔_;rw[ly (jg _) nn,bI,tb_one,P2 ⋯];omega
theorem Ht(n:Nat)(i:Nat):tb (1*2^n) i=true↔n=i:=by
 rw[show (1:Int)*2^n=2^n by omega,kX,d6]
theorem yH{w n l f d:Int}(hw:0<=w/\w<=6)(hn:1<=n/\n<=5)(h:Lf l f)(hd:0<=d):tb (hV none (some [.nth w n]) l f) d.toNat=true↔(1<=d/\d<=l)/\d=1+(w-f)%7+7*(n-1):=by
 rw[vO,qt (mf (k:=.nth w n) ⟨hw,hn⟩ h)];show tb (jW w n l f) d.toNat=true↔_;unfold jW km;split
 ·rw[jb];exact⟨(λh=>by cases h),λh=>by omega⟩
 ·rw[Ht];omega
theorem Sx{w l f d:Int}(hw:0<=w/\w<=6)(h:Lf l f)(hd:0<=d):tb (hV none (some [.one w]) l f) d.toNat=true↔(1<=d/\d<=l)/\d=l-(f+l-1-w)%7:=by
 have hl:=h.1.1;rw[vO,qt (mf (k:=.one w) hw h)];show tb (1*2^(l-((f+l-1)%7-w)%7).toNat) d.toNat=true↔_;rw[Ht];omega
theorem Sm:∀w∈jB,∀l∈lJ,∀f∈jB,∀i∈List.range 32,(tb (jK (gn (fE [w])) l f) i=true↔(1<=i/\(i:Int)<=l)/\(f+(i:Int)-1)%7=w):=by decide +kernel
theorem XS{w l f d:Int}(hw:0<=w/\w<=6)(h:Lf l f)(hd:0<=d):tb (hV none (some [.wkd (gn (fE [w]))]) l f) d.toNat=true↔(1<=d/\d<=l)/\(f+d-1)%7=w:=by
 have le:∀n:Nat,n<7->fE [(n:Int)]<=255:=by decide +kernel
 have le:=le w.toNat ⋯;rw[bQ hw.1] at le;have hp:=tY (ns:=[w]) (bU _ _) (λn hn=>by rw[aX.mp hn];omega);have w7:=rT hp le;have l31:=h.1.2;rcases Int.lt_or_le d 32 with c | c
 ·have z:=Sm w (jn hw.1 hw.2) l (kZ h.1.1 h.1.2) f (jn h.2.1 h.2.2) d.toNat (bR.mpr ⋯);rw[vO,qt (mf (k:=.wkd (gn (fE [w]))) w7.2 h)];show tb (jK (gn (fE [w])) l f) d.toNat=true↔_;rw[z];omega
 ·rw[pI (KG (kd:=none) (kw:=some [.wkd (gn (fE [w]))]) h (λ_ e=>nomatch e) (λks e k hk=>by cases e;rw[aX.mp hk];exact w7.2)) (show l.toNat+1<=d.toNat by omega)];exact⟨λz=>(by cases z),λz=>by omega⟩
def jE(q:LQ)(t:Str):Prop:=∃(w0 w1 w2 w3 w4:List Nat) (m0 m1 m3:Int) (kd kw:Ko),t=Tx (fU 32 [w0,w1,w2,w3,w4])/\FT 0 59 w0 m0/\FT 0 23 w1 m1/\FT 1 12 w3 m3/\DT false w2 kd/\DT true w4 kw/\(m0<2^60/\m1<2^24)/\hZ m1 m0=2^q.tm/\∀k d:Int,0<=k->k<=90->0<=d->(tb (gx m3 kd kw k) d.toNat=true↔(1<=d/\d<=gj k)/\Rk q k d)
theorem mE{q:LQ}{h mi:Int}(bh:0<=h/\h<24)(bm:0<=mi/\mi<60)(et:q.tm=(60*h+mi).toNat){w2 w3 w4:List Nat}{m3:Int}{kd kw:Ko}(f3:FT 1 12 w3 m3)(d2:DT false w2 kd)(d4:DT true w4 kw)(hb:∀k d:Int,0<=k->k<=90->0<=d->(tb (gx m3 kd kw k) d.toNat=true↔(1<=d/\d<=gj k)/\Rk q k d)):jE q (Tx (fU 32 [num mi.toNat,num h.toNat,w2,w3,w4])):=by
 obtain⟨b,e⟩:=Pp bh.1 bh.2 bm.1 bm.2;exact⟨_,_,_,_,_,fE [mi],fE [h],m3,kd,kw,rfl,mG (by decide) bm.1 ⋯ (by decide),mG (by decide) bh.1 ⋯ (by decide),f3,d2,d4,b,by rw[e,et],hb⟩
theorem UQ:∀i∈List.range 13,1<=i->tb (fE (gY 1 12 1)) i=true:=by decide +kernel
theorem n6{q:LQ}{kd kw:Ko}(s3:q.s≠3)(s4:q.s≠4)(hm:1<=q.m/\q.m<=12)(h:∀l f d:Int,Lf l f->0<=d->(tb (hV kd kw l f) d.toNat=true↔(1<=d/\d<=l)/\d=gE q l f))(k d:Int)(h0:0<=k)(h1:k<=90)(hd:0<=d):tb (gx (fE [q.m]) kd kw k) d.toNat=true↔(1<=d/\d<=gj k)/\Rk q k d:=by
 have lf:=lC h0 h1;unfold gx Rk;rw[if_neg s3];by_cases c:tb (fE [q.m]) (iM k).toNat=true
 ·rw[if_pos c,h _ _ _ lf.2 hd];have c:=tb_one.mp c;have:=lf.1;exact⟨λz=>⟨z.1,.inr ⋯,z.2⟩,λz=>⟨z.1,z.2.2⟩⟩
 ·rw[if_neg c,jb];refine⟨λz=>(by cases z),λz=>absurd (tb_one.mpr ?_) c⟩;rcases z.2.1 with z | z
  ·exact absurd z s4
  ·rw[z]
theorem By{q:LQ}{kd kw:Ko}(hs:q.s=3∨q.s=4)(h:∀l f d:Int,Lf l f->0<=d->(tb (hV kd kw l f) d.toNat=true↔(1<=d/\d<=l)/\if q.s=3 then (f+d-1)%7=q.w else d=gE q l f))(k d:Int)(h0:0<=k)(h1:k<=90)(hd:0<=d):tb (gx (fE (gY 1 12 1)) kd kw k) d.toNat=true↔(1<=d/\d<=gj k)/\Rk q k d:=by
 have lf:=lC h0 h1;have i12:=UQ (iM k).toNat (bR.mpr (by have:=lf.1;omega)) (by have:=lf.1;omega);unfold gx Rk;rw[if_pos i12,h _ _ _ lf.2 hd];split
 ·exact Iff.rfl
 ·rename_i c;exact⟨λz=>⟨z.1,.inl (hs.resolve_left c),z.2⟩,λz=>⟨z.1,z.2.2⟩⟩
section
variable{q:LQ}{h mi:Int}(bh:0<=h/\h<24)(bm:0<=mi/\mi<60)(ok:eY q)(et:q.tm=(60*h+mi).toNat)
include bh bm ok et
theorem QV(s:q.s=0):jE q (Tx (fU 32 [num mi.toNat,num h.toNat,num q.n.toNat,num q.m.toNat,[42]])):=by
 have m:=ok.m ⋯ ⋯;have n:=ok.n0 s;refine mE bh bm et (mG (by decide) m.1 m.2 (by decide)) (vG ⋯ ⋯) (mI true) (n6 ⋯ ⋯ m λl f d lf hd=>?_);rw[uw ⋯ lf hd];unfold gE;rw[if_neg ⋯,if_neg ⋯,if_neg ⋯,if_neg ⋯]
theorem OY(s:q.s=1):jE q (Tx (fU 32 [num mi.toNat,num h.toNat,[42],num q.m.toNat,num q.w.toNat++[35]++num q.n.toNat])):=by
 have m:=ok.m ⋯ ⋯;have n:=ok.n1 s;have w:=ok.w;refine mE bh bm et (mG (by decide) m.1 m.2 (by decide)) (mI false) (AN w.1 ⋯ ⋯ ⋯) (n6 ⋯ ⋯ m λl f d lf hd=>?_);rw[yH w ⋯ lf hd];unfold gE;rw[if_pos s]
theorem W4(s:q.s=2):jE q (Tx (fU 32 [num mi.toNat,num h.toNat,[42],num q.m.toNat,num q.w.toNat++[76]])):=by
 have m:=ok.m ⋯ ⋯;have w:=ok.w;refine mE bh bm et (mG (by decide) m.1 m.2 (by decide)) (mI false) (QZ w.1 ⋯) (n6 ⋯ ⋯ m λl f d lf hd=>?_);rw[Sx w lf hd];unfold gE;rw[if_neg ⋯,if_pos s]
theorem WC(s:q.s=3):jE q (Tx (fU 32 [num mi.toNat,num h.toNat,[42],[42],num q.w.toNat])):=by
 have w:=ok.w;refine mE bh bm et (L0 (by decide)) (mI false) (Ph w.1 ⋯) (By (.inl s) λl f d lf hd=>?_);rw[XS w lf hd,if_pos s]
theorem Nv(s:q.s=4):jE q (Tx (fU 32 [num mi.toNat,num h.toNat,num q.n.toNat,[42],[42]])):=by
 have n:=ok.n4 s;refine mE bh bm et (L0 (by decide)) (vG ⋯ ⋯) (mI true) (By (.inr s) λl f d lf hd=>?_);rw[uw ⋯ lf hd,if_neg ⋯];unfold gE;rw[if_neg ⋯,if_neg ⋯,if_neg ⋯,if_neg ⋯]
theorem N9(s:q.s=5):jE q (Tx (fU 32 [num mi.toNat,num h.toNat,[50,57],[50],[42]])):=by
 have m2:=ok.m5 (.inl s);have m:=ok.m ⋯ ⋯;have f3:=mG (lo:=1) (hi:=12) (a:=q.m) (by decide) m.1 m.2 (by decide);have e2:num q.m.toNat=[50]:=by rw[m2];decide +kernel
 have d2:=vG (n:=29) (by decide) (by decide);have e9:num (29:Int).toNat=[50,57]:=by decide +kernel
 rw[e2] at f3;rw[e9] at d2;refine mE bh bm et f3 d2 (mI true) (n6 ⋯ ⋯ m λl f d lf hd=>?_);rw[uw (by decide) lf hd];unfold gE;rw[if_neg ⋯,if_neg ⋯,if_pos s]
theorem Wu(s:q.s=6):jE q (Tx (fU 32 [num mi.toNat,num h.toNat,[42],[50],num q.w.toNat++[35,53]])):=by
 have m2:=ok.m5 (.inr s);have m:=ok.m ⋯ ⋯;have w:=ok.w;have f3:=mG (lo:=1) (hi:=12) (a:=q.m) (by decide) m.1 m.2 (by decide);have e2:num q.m.toNat=[50]:=by rw[m2];decide +kernel
 rw[e2] at f3;have d4:=AN (w:=q.w) (n:=5) w.1 ⋯ (by decide) (by decide);have e5:num q.w.toNat++[35]++num (5:Int).toNat=num q.w.toNat++[35,53]:=by rw[dF];rfl
 rw[e5] at d4;refine mE bh bm et f3 (mI false) d4 (n6 ⋯ ⋯ m λl f d lf hd=>?_);rw[yH w (by decide) lf hd];unfold gE;rw[if_neg ⋯,if_neg ⋯,if_neg ⋯,if_pos s];omega
end
theorem SG:∀w∈jB,∃k∈List.range 91,iM (k:Int)=2/\gj (k:Int)=29/\(k:Int)%7=w:=by decide +kernel
theorem u7{q:LQ}(ok:eY q):sU q:=by
 have hs:=ok.s;have w:=ok.w;by_cases s56:q.s=5∨q.s=6
 ·obtain⟨k,hk,e1,e2,e3⟩:=SG q.w (jn w.1 w.2);have hk:=bR.mp hk;refine⟨k,29,⟨⋯,⋯⟩,⟨by decide,⋯⟩,?_⟩;unfold Rk gE;rw[if_neg ⋯,e1,e2,e3];refine⟨.inr (ok.m5 s56).symm,?_⟩;rcases s56 with s | s
  ·rw[if_neg ⋯,if_neg ⋯,if_pos s]
  ·rw[if_neg ⋯,if_neg ⋯,if_neg ⋯,if_pos s];omega
 ·by_cases s3:q.s=3
  ·have k:=kM 0;refine⟨f7 0,1+(q.w-f7 0%7)%7,k.2.2.1,⟨⋯,by rw[k.1.2];omega⟩,?_⟩;unfold Rk;rw[if_pos s3];omega
  ·have k:=kM (q.m-1);have n0:=ok.n0;have n1:=ok.n1;have n4:=ok.n4;have y:1<=gE q (gj (f7 (q.m-1))) (f7 (q.m-1)%7)/\gE q (gj (f7 (q.m-1))) (f7 (q.m-1)%7)<=28∨q.s=2:=by
    unfold gE;split
    ·omega
    split
    ·omega
    split
    ·omega
    split
    ·omega
    ·omega
   refine⟨f7 (q.m-1),gE q (gj (f7 (q.m-1))) (f7 (q.m-1)%7),k.2.2.1,?_,?_⟩
   ·rw[k.1.2] at y ⊢;rcases y with y | y
    ·omega
    ·unfold gE;rw[if_neg ⋯,if_pos y];omega
   ·unfold Rk;rw[if_neg s3];refine⟨?_,rfl⟩;by_cases s4:q.s=4
    ·exact .inl s4
    ·have:=ok.m s3 s4;rw[k.1.1];exact .inr ⋯
theorem Bp:∀n:Nat,eW (-(n:Int))<=eW 0-n
 |0=>by rw[show -((0:Nat):Int)=0 from rfl];omega
 |n+1=>by
  have h:=Bp n;have u:=m8 (-((n+1:Nat):Int));have l:=(Gp (-((n+1:Nat):Int))).1;rw[show -((n+1:Nat):Int)+1= -(n:Int) by omega] at u;omega
theorem Hs(d:Int):∃M,eW M<=d/\d<eW (M+1):=by
 have key:∀(k:Nat) (N:Int),eW N<=d->d-eW N<k->∃M,eW M<=d/\d<eW (M+1):=λk=>by
  induction k with
  |zero=>intro N h1 h2;omega
  |succ k ih=>
   intro N h1 h2;by_cases c:d<eW (N+1)
   ·exact⟨N,h1,c⟩
   ·have u:=m8 N;have l:=(Gp N).1;exact ih (N+1) ⋯ ⋯
 have h:=Bp (eW 0-d).toNat;exact key ((d-eW (-((eW 0-d).toNat:Int))).toNat+1) (-((eW 0-d).toNat:Int)) ⋯ ⋯
noncomputable def iS(q:LQ)(M:Int):Int:=gE q (fX M) ((eW M+6)%7)
noncomputable def iw(q:LQ)(M:Int):Int:=1440*(eW M+iS q M-1)+q.tm
noncomputable def oN(q:LQ)(M:Int):V:=if fX M<iS q M then .non else .int (iw q M)
theorem vq{q:LQ}(ok:eY q)(h3:q.s≠3){l f:Int}(hl:28<=l):1<=gE q l f:=by
 have:=ok.s;have n0:=ok.n0;have n1:=ok.n1;have n4:=ok.n4;unfold gE;split
 ·omega
 split
 ·omega
 split
 ·omega
 split<;>omega
theorem BA{q:LQ}(ok:eY q)(h3:q.s≠3){M:Int}(hm:q.s=4∨M%12+1=q.m)(h:iS q M<=fX M):g7 q (iw q M):=by
 have k:=kM M;refine⟨M,iS q M,?_,⟨vq ok h3 k.2.2.2.1,h⟩,rfl⟩;unfold Rk;rw[if_neg h3,k.1.1,k.1.2,k.2.1];exact⟨hm,rfl⟩
theorem Rb{q:LQ}(ok:eY q)(h3:q.s≠3){t:Int}(h:g7 q t):∃M:Int,(q.s=4∨M%12+1=q.m)/\iS q M<=fX M/\t=iw q M:=by
 obtain⟨M,d,hm,rfl,l,e⟩:=pH ok h3 h;exact⟨M,hm,l.2,e⟩
theorem wN{q:LQ}(ok:eY q)(h3:q.s≠3){M N:Int}(h:M<N)(hm:iS q M<=fX M):iw q M<iw q N:=by
 have a:=ja h;have b:=vq ok h3 (l:=fX N) (f:=(eW N+6)%7) (kM N).2.2.2.1;have t:=ok.tm;have b:1<=iS q N:=b;unfold iw;omega
noncomputable def mB(q:LQ)(Y:Int)(j:Nat):Int:=if q.s=4 then 12*Y+11-j else 12*(Y-j)+q.m-1
theorem xE{q:LQ}(ok:eY q)(h3:q.s≠3)(Y:Int)(j:Nat):q.s=4∨mB q Y j%12+1=q.m:=by
 unfold mB;split
 ·exact .inl ‹_›
 ·rename_i c;have:=ok.m h3 c;exact .inr ⋯
theorem Hh{q:LQ}(ok:eY q)(h3:q.s≠3){Y M:Int}(hm:q.s=4∨M%12+1=q.m)(h:M<12*(Y+1)):∃j:Nat,mB q Y j=M/\(12*(Y-80)<=M->j<972):=by
 unfold mB;by_cases c:q.s=4
 ·exact⟨(12*Y+11-M).toNat,by rw[if_pos c];omega,λ_=>by omega⟩
 ·exact⟨(Y-M / 12).toNat,by rw[if_neg c];omega,λ_=>by omega⟩
theorem Fq{q:LQ}(Y:Int){i j:Nat}(h:i<j):mB q Y j<mB q Y i:=by
 unfold mB;split<;>omega
structure Bk(q:LQ)(x Y:Int)(b:Nat)(fs:List Int):Prop where
 a:∀t∈fs,∃j:Nat,j<b/\(iS q (mB q Y j)<=fX (mB q Y j)/\t=iw q (mB q Y j))/\t<=x
 p:fs.Pairwise λs t=>t<s
 c:∀j:Nat,j<b->iS q (mB q Y j)<=fX (mB q Y j)->iw q (mB q Y j)<=x->iw q (mB q Y j)∈fs
theorem ui(q:LQ)(x Y:Int):Bk q x Y 0 []:=⟨λ_ h=>(nomatch h),.nil,λ_ h=>absurd h (Nat.not_lt_zero _)⟩
theorem zD{q:LQ}{x Y:Int}{b:Nat}{fs:List Int}(h:Bk q x Y b fs)(n:¬(iS q (mB q Y b)<=fX (mB q Y b)/\iw q (mB q Y b)<=x)):Bk q x Y (b+1) fs where
 a:=λt ht=>by
  obtain⟨j,hj,z⟩:=h.a t ht;exact⟨j,⋯,z⟩
 p:=h.p
 c:=λj hj h1 h2=>by
  rcases bP j b with c | c
  ·exact h.c j c h1 h2
  ·obtain rfl:j=b:=⋯;exact absurd ⟨h1,h2⟩ n
theorem V0{q:LQ}(ok:eY q)(h3:q.s≠3){x Y:Int}{b:Nat}{fs:List Int}(h:Bk q x Y b fs)(n:iS q (mB q Y b)<=fX (mB q Y b))(n2:iw q (mB q Y b)<=x):Bk q x Y (b+1) (fs++[iw q (mB q Y b)]) where
 a:=λt ht=>by
  rcases bY.mp ht with m | m
  ·obtain⟨j,hj,z⟩:=h.a t m;exact⟨j,⋯,z⟩
  ·rw[aX.mp m];exact⟨b,⋯,⟨n,rfl⟩,n2⟩
 p:=by
  refine cL.mpr ⟨h.p,.cons (λ_ h=>(nomatch h)) .nil,λs hs t ht=>?_⟩;rw[aX.mp ht];obtain⟨j,hj,⟨_,rfl⟩,_⟩:=h.a s hs;exact wN ok h3 (Fq Y hj) n
 c:=λj hj h1 h2=>by
  rcases bP j b with c | c
  ·exact cD _ (h.c j c h1 h2)
  ·obtain rfl:j=b:=⋯;exact bO _ (aX.mpr rfl)
theorem Qu{q:LQ}(ok:eY q)(h3:q.s≠3){x Y:Int}(hY:db Y<=x / 1440){b:Nat}{fs:List Int}(h:Bk q x Y b fs)(hb:972<=b):2<=fs.length:=by
 obtain⟨k,d,hk,hd,r⟩:=u7 ok;have at_:∀Z:Int,Z+40<=Y->Y-80<=Z->∃M,12*Z<=M/\M<12*Z+480/\iw q M∈fs/\iS q M<=fX M:=λZ z1 z2=>by
  obtain⟨M,m1,m2,em⟩:=n9 hk.1 hk.2 Z;have kk:=kM M;have r:=r;have hd:=hd;rw[←em] at r hd;unfold Rk at r;rw[if_neg h3,kk.1.1,kk.1.2,kk.2.1] at r;rw[kk.1.2] at hd;have ed:d=iS q M:=r.2;obtain⟨j,ej,hj⟩:=Hh ok h3 (Y:=Y) r.1 ⋯;have lt:=ja (show M<12*Y by omega);have e12:eW (12*Y)=db Y:=by
   unfold eW;rw[show 12*Y / 12=Y by omega,show 12*Y%12+1=1 by omega];exact Int.add_zero _
  have tm:=ok.tm;have c:=h.c j (by have:=hj ⋯;omega);rw[ej] at c;exact⟨M,m1,m2,c ⋯ (by unfold iw;omega),⋯⟩
 obtain⟨M,m1,m2,hM,_⟩:=at_ (Y-40) ⋯ ⋯;obtain⟨N,n1,n2,hN,hn⟩:=at_ (Y-80) ⋯ ⋯;have lt:=wN ok h3 (show N<M by omega) hn
 match fs,hM,hN with
 |[],hM,_=>cases hM
 |[u],hM,hN=>
  have a:=aX.mp hM;have b:=aX.mp hN;omega
 |_::_::_,_,_=>exact Nat.le_add_left 2 _
def oY(q:LQ)(x u1 u0:Int):Prop:=(g7 q u1/\g7 q u0)/\(u0<u1/\u1<=x)/\∀t,g7 q t->t<=x->t=u1∨t<=u0
theorem R7{q:LQ}(ok:eY q)(h3:q.s≠3){x Y:Int}(hY:x / 1440<db (Y+1)){b:Nat}{u1 u0:Int}(h:Bk q x Y b [u1,u0]):oY q x u1 u0:=by
 obtain⟨j1,l1,⟨a1,e1⟩,x1⟩:=h.a u1 bF;obtain⟨j0,l0,⟨a0,e0⟩,x0⟩:=h.a u0 (bN _ bF);have lt:=(List.pairwise_cons.mp h.p).1 u0 bF;refine⟨⟨by rw[e1];exact BA ok h3 (xE ok h3 Y j1) a1,by rw[e0];exact BA ok h3 (xE ok h3 Y j0) a0⟩,⟨lt,x1⟩,λt ev tx=>?_⟩;obtain⟨M,hm,l,rfl⟩:=Rb ok h3 ev;have hM:M<12*(Y+1):=by
  rcases Int.lt_or_le M (12*(Y+1)) with c | c
  ·exact c
  ·have e12:eW (12*(Y+1))=db (Y+1):=by
    unfold eW;rw[show 12*(Y+1) / 12=Y+1 by omega,show 12*(Y+1)%12+1=1 by omega];exact Int.add_zero _
   have y1:1<=iS q M:=vq ok h3 (kM M).2.2.2.1;have g:eW (12*(Y+1))<=eW M:=by
    rcases dC c with z | z
    ·have:=ja z;have:=(kM (12*(Y+1))).2.2.2;omega
    ·rw[z];exact aV _
   unfold iw at tx;omega
 obtain⟨j,ej,_⟩:=Hh ok h3 (Y:=Y) hm hM;rcases bP j b with c | c
 ·have z:=h.c j c (by rw[ej];exact l) (by rw[ej];exact tx);rw[ej] at z;rcases aT.mp z with z | z
  ·exact .inl z
  ·exact .inr (Int.le_of_eq (aX.mp z))
 ·have:=wN ok h3 (Fq (q:=q) Y (show j0<j by omega)) (by rw[ej];exact l);rw[ej] at this;exact .inr ⋯
theorem zF{q:LQ}(h3:q.s=3){n:Int}(h:(n+6)%7=q.w):g7 q (1440*n+q.tm):=by
 obtain⟨M,h1,h2⟩:=Hs n;have u:=m8 M;have k:=kM M;refine⟨M,n-eW M+1,?_,⟨⋯,⋯⟩,⋯⟩;unfold Rk;rw[if_pos h3,k.2.1];omega
theorem u9{q:LQ}(ok:eY q)(h3:q.s=3)(x:Int):oY q x (x-(x-1440*(q.w+1)-q.tm)%10080) (x-(x-1440*(q.w+1)-q.tm)%10080-10080):=by
 obtain⟨g,hg⟩:∃g,g=(x-1440*(q.w+1)-(q.tm:Int)) / 10080:=⟨()⟩;have e:x-(x-1440*(q.w+1)-(q.tm:Int))%10080=1440*(q.w+1+7*g)+q.tm:=⋯;have w:=ok.w;rw[e];refine⟨⟨zF h3 ⋯,?_⟩,⟨⋯,⋯⟩,λt ev tx=>?_⟩
 ·rw[show 1440*(q.w+1+7*g)+(q.tm:Int)-10080=1440*(q.w+1+7*(g-1))+q.tm by omega];exact zF h3 ⋯
 ·obtain⟨n,hn,rfl⟩:=uV h3 ev;omega
structure ol(x:Int)(qs:List LQ)(S:List (Int×Int)):Prop where
 len:S.length=2*qs.length
 has:∀(i:Nat) q,qs[i]? =some q->∃u1 u0,oY q x u1 u0/\(u1,q.off)∈S/\(u0,q.off)∈S
 own:∀p∈S,∃(i:Nat) (q:LQ),qs[i]? =some q/\g7 q p.1/\p.1<=x/\p.2=q.off
 nd:S.Nodup
theorem um(x:Int):ol x [] []:=⟨rfl,λ_ _ h=>(by cases h),λ_ h=>(nomatch h),.nil⟩
theorem uz{x:Int}{qs:List LQ}{q:LQ}{S:List (Int×Int)}{u1 u0:Int}(h:ol x qs S)(l:oY q x u1 u0)(hf:hU (qs++[q])):ol x (qs++[q]) (S++[(u1,q.off),(u0,q.off)]) where
 len:=by rw[aS,aS,h.len];show _=2*(qs.length+1);simp;omega
 has:=λi r hr=>by
  rcases bP i qs.length with c | c
  ·rw[cH c] at hr;obtain⟨a,b,z,m1,m2⟩:=h.has i r hr;exact⟨a,b,z,cD _ m1,cD _ m2⟩
  ·rw[cF c] at hr;obtain rfl:q=r:=by
    cases e:i-qs.length with
    |zero=>rw[e] at hr;exact a8 hr
    |succ n=>rw[e] at hr;cases hr
   exact⟨u1,u0,l,bO _ bF,bO _ (bN _ bF)⟩
 own:=λp hp=>by
  rcases bY.mp hp with m | m
  ·obtain⟨i,r,hr,z⟩:=h.own p m;exact⟨i,r,by rw[cH (a9.mp hr).1];exact hr,z⟩
  ·refine⟨qs.length,q,by rw[cF (aP _),Nat.sub_self];rfl,?_⟩;rcases aT.mp m with e | m
   ·rw[e];exact⟨l.1.1,l.2.1.2,rfl⟩
   ·rw[aX.mp m];exact⟨l.1.2,by have:=l.2.1;show u0<=x;omega,rfl⟩
 nd:=by
  refine cL.mpr ⟨h.nd,?_,λp hp r hr e=>?_⟩
  ·refine .cons (λy hy e=>?_) (.cons (λ_ h=>(nomatch h)) .nil);rw[aX.mp hy] at e;have:=congrArg Prod.fst e;have this:u1=u0:=this;have:=l.2.1;omega
  ·obtain⟨i,w,hw,ew,_⟩:=h.own p hp;have hi:=(a9.mp hw).1;have er:g7 q r.1:=by
    rcases aT.mp hr with z | z
    ·rw[z];exact l.1.1
    ·rw[aX.mp z];exact l.1.2
   have f:=hf i qs.length w q p.1 r.1 (by rw[cH hi];exact hw) (by rw[cF (aP _),Nat.sub_self];rfl) ew er;rw[e] at f;omega
theorem M7{x:Int}{qs:List LQ}{S S':List (Int×Int)}(h:ol x qs S)(hf:hU qs)(hp:S'.Perm S)(hs:S'.Pairwise λa b=>gI a b=true){a b:Int×Int}(ha:S'[S'.length-1]? =some a)(hb:S'[S'.length-2]? =some b)(hl:2<=S'.length):iu (EQ qs) x a.1 b.2 a.2:=by
 refine T3 hs (λp hp'=>?_) (λt o t' o' e e' te=>?_) (λt o e tx=>?_) ha hb hl
 ·obtain⟨i,q,hq,ev,px,eo⟩:=h.own p (hp.mem_iff.mp hp');exact⟨⟨i,q,hq,ev,eo⟩,px⟩
 ·rcases pV hf e e' with z | z
  ·exact z.2
  ·omega
 ·obtain⟨i,q,hq,ev,rfl⟩:=e;obtain⟨u1,u0,l,m1,m0⟩:=h.has i q hq;rcases l.2.2 t ev tx with rfl | z
  ·exact .inl (hp.mem_iff.mpr m1)
  ·rcases dC z with z | rfl
   ·exact .inr ⟨(u0,q.off),(u1,q.off),hp.mem_iff.mpr m0,hp.mem_iff.mpr m1,l.2.1.1,z⟩
   ·exact .inl (hp.mem_iff.mpr m0)
theorem vW{α:Type}{xs:List α}{n:Nat}(h:2<=xs.length)(hn:n<=xs.length):gK xs ((n:Int)-1)=xs[lA xs.length n]? /\gK xs ((n:Int)-1-1)=xs[ky xs.length n]? :=by
 have e1:j4 xs.length ((n:Int)-1)=some (lA xs.length n):=by
  unfold j4 lA;by_cases c:n=0
  ·rw[if_neg ⋯,if_pos ⋯,if_pos c];exact congrArg some ⋯
  ·rw[if_pos ⋯,if_pos ⋯,if_neg c];exact congrArg some ⋯
 have e2:j4 xs.length ((n:Int)-1-1)=some (ky xs.length n):=by
  unfold j4 ky;by_cases c:n=0
  ·rw[if_neg ⋯,if_pos ⋯,if_pos c];exact congrArg some ⋯
  ·by_cases c1:n=1
   ·rw[if_neg ⋯,if_pos ⋯,if_neg c,if_pos c1];exact congrArg some ⋯
   ·rw[if_pos ⋯,if_pos ⋯,if_neg c,if_neg c1];exact congrArg some ⋯
 unfold gK;rw[e1,e2];exact⟨rfl,rfl⟩
theorem Vn{l n:Nat}(h:2<=l)(hn:n<=l):lA l n<l/\ky l n<l:=by
 unfold lA ky;constructor
 ·split<;>omega
 ·split
  ·omega
  ·split<;>omega
theorem C5(y:Int):eW (12*y)=db y:=by
 unfold eW;rw[show 12*y / 12=y by omega,show 12*y%12+1=1 by omega];exact Int.add_zero _
theorem EU{a b:Int}(h:a<=b):db a<=db b:=by
 rw[mX,mX];omega
theorem Wq(n:Int):∃y,db y<=n/\n<db (y+1):=by
 obtain⟨M,h1,h2⟩:=Hs n;refine⟨M / 12,?_,?_⟩
 ·rw[←C5];rcases dC (show 12*(M / 12)<=M by omega) with c | c
  ·have:=ja c;have:=(kM (12*(M / 12))).2.2.2;omega
  ·rw[c];exact h1
 ·rw[←C5];rcases dC (show M+1<=12*(M / 12+1) by omega) with c | c
  ·have:=ja c;have:=(kM (M+1)).2.2.2;omega
  ·rw[←c];exact h2
theorem Wf{y m:Int}(h1:1<=m)(h2:m<=12):db y+ji y m=eW (12*y+m-1)/\fH y m=fX (12*y+m-1):=by
 unfold eW fX;rw[show (12*y+m-1) / 12=y by omega,show (12*y+m-1)%12+1=m by omega];exact⟨rfl,rfl⟩
noncomputable def qu(q:LQ)(x:Str):List V:=[.str x,.int q.tm,.int q.s,.int q.n,.int q.w,.int q.m,.int q.off]
def LqA(H:Hp)(v:V)(q:LQ):Prop:=∃t x,v=.ref t/\H t=some (.tup (qu q x))/\jE q x/\eY q
theorem LqA.keep{H H':Hp}(s:Same H H'){v:V}{q:LQ}(h:LqA H v q):LqA H' v q:=by
 obtain⟨t,x,e,ht,z⟩:=h;exact⟨t,x,e,s _ _ ht,z⟩
theorem sI{H H':Hp}(s:Same H H'):∀{us:List V} {qs:List LQ},Paired (LqA H) us qs->Paired (LqA H') us qs
 |_,_,.nil=>.nil
 |_,_,.cons x r=>.cons (x.keep s) (sI s r)
theorem rM{H:Hp}{l:Addr}{xs ys:List V}(hl:H l=some (.lst xs)):∀{us:List V} {qs:List LQ},Paired (LqA H) us qs->Paired (LqA (upd H l (.lst ys))) us qs
 |_,_,.nil=>.nil
 |_,_,.cons ⟨t,x,e,ht,z⟩ r=>.cons ⟨t,x,e,by rw[fh (λz=>by rw[z,hl] at ht;cases ht)];exact ht,z⟩ (rM hl r)
theorem B1{H:Hp}{v:V}{q:LQ}(hv:LqA H v q):∀{us:List V} {qs:List LQ},Paired (LqA H) us qs->Paired (LqA H) (us++[v]) (qs++[q])
 |_,_,.nil=>.cons hv .nil
 |_,_,.cons x r=>.cons x (B1 hv r)
theorem wO{H:Hp}{us:List V}{qs:List LQ}(h:Paired (LqA H) us qs):∀q∈qs,eY q:=by
 induction h with
 |nil=>exact λ_ h=>nomatch h
 |cons x r ih=>
  intro q hq;rcases aT.mp hq with rfl | m
  ·obtain⟨_,_,_,_,_,z⟩:=x;exact z
  ·exact ih q m
def rB(q:LQ):Prop:=(0<=q.s/\q.s<=6/\q.s≠3)/\1<=q.m/\q.m<=12
noncomputable def ou(q:LQ)(f:Int):Int:=if q.s=1 then 1+(q.w-f-6)%7+7*(q.n-1) else q.n
noncomputable def pk(q:LQ)(f l:Int):Int:=if q.s=2 then l-(f+l+5-q.w)%7 else ou q f
noncomputable def pe(q:LQ)(f l:Int):Int:=if q.s=5 then 29 else pk q f l
noncomputable def ph(q:LQ)(f l:Int):Int:=if q.s=6 then 29+(q.w-f-6)%7 else pe q f l
theorem NW(q:LQ)(f l:Int):ph q f l=gE q l ((f+6)%7):=by
 unfold ph pe pk ou gE;by_cases c1:q.s=1
 ·rw[if_pos c1,if_pos c1,if_neg ⋯,if_neg ⋯,if_neg ⋯];omega
 by_cases c2:q.s=2
 ·rw[if_neg c1,if_neg c1,if_pos c2,if_pos c2,if_neg ⋯,if_neg ⋯];omega
 by_cases c5:q.s=5
 ·rw[if_neg c1,if_neg c1,if_neg c2,if_neg c2,if_pos c5,if_pos c5,if_neg ⋯]
 by_cases c6:q.s=6
 ·rw[if_neg c1,if_neg c1,if_neg c2,if_neg c2,if_neg c5,if_neg c5,if_pos c6,if_pos c6];omega
 ·rw[if_neg c1,if_neg c1,if_neg c2,if_neg c2,if_neg c5,if_neg c5,if_neg c6,if_neg c6]
def But(M:Addr)(H H':Hp):Prop:=∀b o,b≠M->H b=some o->H' b=some o
theorem But.trans{M:Addr}{H H1 H2:Hp}(a:But M H H1)(b:But M H1 H2):But M H H2:=λx o n h=>b x o n (a x o n h)
theorem But.of{M:Addr}{H H1:Hp}(s:Same H H1):But M H H1:=λx o _ h=>s x o h
theorem But.upd{M:Addr}{H:Hp}{o:HO}:But M H (upd H M o):=λx o n h=>by rw[fh n];exact h
theorem sY{M:Addr}{H H':Hp}(b:But M H H')(n:H M=none):Same H H':=λx o h=>b x o (λe=>by rw[e,n] at h;cases h) h
section
variable{js:List Nat}{σ:L2.St}{tt:TT}{te:TE}{Q:VK}{H1:Hp}
theorem VC{lo:Int}{n:Nat}{M:Addr}(R:Addr->Nat->List V->Hp->Prop)(hM:H1 M≠none)(hm:∀D i l H l0 l',H D=some (.lst l0)->H1 D=none->R D i l H->R D i l (upd H D (.lst l')))(hn:n<=sizeLine)(h0:∀D,H1 D=none->R D 0 [] (upd H1 D (.lst [])))
  (hs:∀(i:Nat) (l:List V) (D:Addr) (H2:Hp) (E:V->Hp->Prop) (F:Hp->Prop),i<n->R D i l H2->H1 D=none->But M H1 H2->H2 D=some (.lst l)->(∀y H5,But M H2 H5->R D (i+1) (l++[y]) H5->E y H5)->(∀H4,But M H2 H4->R D (i+1) l H4->F H4)->
   tt (some (.int (lo+(i:Int)))::gy js σ) H2 λb H4=>if b=true then te (some (.int (lo+(i:Int)))::gy js σ) H4 E else F H4)
  (hd:∀(D:Addr) (H2:Hp) (l:List V),R D n l H2->H1 D=none->But M H1 H2->H2 D=some (.lst l)->Q (.ref D) H2):l7 (ki lo n) js σ tt te Q H1:=by
 intro D hD;have nD:D≠M:=λe=>hM (by rw[←e];exact hD);refine⟨λi m H2=>m=n-i/\i<=n/\But M H1 H2/\∃l,H2 D=some (.lst l)/\l.length<=i/\R D i l H2,⟨n,by simp,bD _,.of (eS hD _),[],eJ,aP _,h0 D hD⟩,?_⟩;rintro i m H2 ⟨rfl,hi,s2,l,h2,hll,hR⟩;by_cases hlt:i<n
 ·refine .inr ⟨hlt,λv H3 y=>?_⟩;obtain⟨e,ev⟩:=y;subst e;subst ev;refine hs i l D _ _ _ hlt hR hD s2 h2 (λz H5 s5 r5=>?_) (λH4 s4 r4=>?_)
  ·refine⟨l,s5 _ _ nD h2,cI hll (bC hlt hn),n-(i+1),⋯,rfl,hlt,λb o nb hb=>?_,l++[z],eJ,by rw[aS,bX];omega,hm _ _ _ _ _ _ (s5 _ _ nD h2) hD r5⟩;rw[fh (gF hb hD)];exact s5 _ _ nb (s2 _ _ nb hb)
  ·exact⟨n-(i+1),⋯,rfl,hlt,s2.trans s4,l,s4 _ _ nD h2,⋯,r4⟩
 ·have e:i=n:=⋯;subst e;exact .inl ⟨aP _,hd D H2 l hR hD s2 h2⟩
end
def ze(z:List Int):Prop:=∃mi h s d w n o:Int,z=[mi,h,s,d,w,n,o]/\(0<=mi/\mi<60)/\(0<=h/\h<24)/\(0<=s/\s<3)/\(0<=d/\d<20)/\(0<=w/\w<7)/\(0<=n/\n<3)/\0<=o/\o<1441
theorem TQ{ds:List Int}(h:Digs ds [60,24,3,20,7,3,1441]):ze ds:=by
 cases h with | cons a0 h=>cases h with | cons a1 h=>cases h with | cons a2 h=>cases h with | cons a3 h=>cases h with | cons a4 h=>cases h with | cons a5 h=>cases h with | cons a6 h=>cases h with | nil=>exact⟨_,_,_,_,_,_,(),a0,a1,a2,a3,a4,a5,a6⟩
def PtA(H:Hp)(v:V)(z:List Int):Prop:=∃l,v=.ref l/\H l=some (.lst (z.map V.int))/\ze z
theorem PtA.keep{H H':Hp}(s:Same H H'){v:V}{z:List Int}(h:PtA H v z):PtA H' v z:=by
 obtain⟨l,e,hl,z⟩:=h;exact⟨l,e,s _ _ hl,z⟩
theorem Ef{mi h s d w n o m:Int}(bs:0<=s/\s<3)(bd:0<=d/\d<20)(bw:0<=w/\w<7)(bn:0<=n/\n<3)(bo:0<=o/\o<1441)(bm:1<=m/\m<=12)(bi:0<=mi/\mi<60)(bh:0<=h/\h<24):eY ⟨s,if s=0 then 5+d else if s=1 then 2+n else 0,w,m,(60*h+mi).toNat,o-720⟩ where
 s:=by show 0<=s/\s<=6;omega
 n0:=λe=>by have e:s=0:=e;show 5<=(if s=0 then 5+d else if s=1 then 2+n else 0)/\(if s=0 then 5+d else if s=1 then 2+n else 0)<=24;rw[if_pos e];omega
 n1:=λe=>by have e:s=1:=e;show 2<=(if s=0 then 5+d else if s=1 then 2+n else 0)/\(if s=0 then 5+d else if s=1 then 2+n else 0)<=4;rw[if_neg ⋯,if_pos e];omega
 n4:=λe=>by have e:s=4:=e;omega
 w:=by show 0<=w/\w<=6;omega
 m:=λ_ _=>bm
 m5:=λe=>by have e:s=5∨s=6:=e;omega
 tm:=by show (60*h+mi).toNat<1440;omega
 off:=by show -720<=o-720/\o-720<=720;omega
theorem wf{y:Int}{b:Bool}(h:gD y=b):iF y=if b then 1 else 0:=by
 unfold iF;rw[h]
def PuA(H:Hp)(l:Addr)(qs:List LQ):Prop:=∃us,H l=some (.lst us)/\Paired (LqA H) us qs/\hU qs/\1<=qs.length/\qs.length<=4
theorem PuA.keep{H H':Hp}(s:Same H H'){l:Addr}{qs:List LQ}(h:PuA H l qs):PuA H' l qs:=by
 obtain⟨us,h1,h2,h3⟩:=h;exact⟨us,s _ _ h1,sI s h2,h3⟩
def CkA(H:Hp)(p:Addr)(qs:List LQ):Prop:=∃T,ClkAt H p T/\∀t o,m9 T t o↔EQ qs t o
theorem CkA.keep{H H':Hp}(s:Same H H'){p:Addr}{qs:List LQ}(h:CkA H p qs):CkA H' p qs:=by
 obtain⟨T,h1,h2⟩:=h;exact⟨T,h1.keep s,h2⟩
def PcA(H:Hp)(v:V)(qs:List LQ):Prop:=∃t p l,v=.ref t/\H t=some (.tup [.ref p,.ref l])/\CkA H p qs/\PuA H l qs
theorem PcA.keep{H H':Hp}(s:Same H H'){v:V}{qs:List LQ}(h:PcA H v qs):PcA H' v qs:=by
 obtain⟨t,p,l,e,ht,h1,h2⟩:=h;exact⟨t,p,l,e,s _ _ ht,h1.keep s,h2.keep s⟩
theorem i5{n:Nat}(h:n<2000):n<10^500:=bC h (by decide +kernel)
theorem jf{n:Nat}(h:n<2000):(num n).length<=4:=(Xs 3 n).mpr (by show n<10000;omega)
theorem MT{s a b:Int}(bs:0<=s/\s<3):gK [V.int a,V.int b,V.int 0] s=some (.int (if s=0 then a else if s=1 then b else 0)):=by
 rcases (show s=0∨s=1∨s=2 by omega) with rfl | rfl | rfl<;>rfl
section
variable{mi h d w n m:Nat}{s o:Int}(bi:(0:Int)<=mi/\(mi:Int)<60)(bh:(0:Int)<=h/\(h:Int)<24)(bw:(0:Int)<=w/\(w:Int)<7)(bo:0<=o/\o<1441)
include bi bh bw bo
theorem Th(bs:0<=s/\s<3)(bd:(0:Int)<=d/\(d:Int)<20)(bn:(0:Int)<=n/\(n:Int)<3)(bm:(1:Int)<=m/\(m:Int)<=12):jE ⟨s,if s=0 then 5+(d:Int) else if s=1 then 2+(n:Int) else 0,w,m,(60*(h:Int)+(mi:Int)).toNat,o-720⟩ (Tx (fU 32 [num mi,num h,if s=0 then num (5+d) else [42],num m,if s=2 then num w++[76] else (if s=1 then num w++[35]++num (2+n) else [42])])):=by
 have ok:=Ef bs bd bw bn bo bm bi bh;rcases (show s=0∨s=1∨s=2 by omega) with rfl | rfl | rfl
 ·have z:=QV bh bi ok rfl rfl;exact z
 ·have z:=OY bh bi ok rfl rfl;exact z
 ·have z:=W4 bh bi ok rfl rfl;exact z
theorem Oc:eY ⟨3,0,w,0,(60*(h:Int)+(mi:Int)).toNat,o-720⟩/\jE ⟨3,0,w,0,(60*(h:Int)+(mi:Int)).toNat,o-720⟩ (Tx (fU 32 [num mi,num h,[42,32,42],num w])):=by
 have ok:eY ⟨3,0,w,0,(60*(h:Int)+(mi:Int)).toNat,o-720⟩:=⟨by show (0:Int)<=3/\(3:Int)<=6;decide,λe=>absurd e (by show ¬(3:Int)=0;decide),λe=>absurd e (by show ¬(3:Int)=1;decide),λe=>absurd e (by show ¬(3:Int)=4;decide),by show (0:Int)<=w/\(w:Int)<=6;omega,λe=>absurd rfl e,λe=>absurd e (by show ¬((3:Int)=5∨(3:Int)=6);decide),by show (60*(h:Int)+(mi:Int)).toNat<1440;omega,by show -720<=o-720/\o-720<=720;omega⟩
 exact⟨ok,WC bh bi ok rfl rfl⟩
omit bw in
theorem Of(bd:(1:Int)<=d/\(d:Int)<=24):eY ⟨4,d,0,0,(60*(h:Int)+(mi:Int)).toNat,o-720⟩/\jE ⟨4,d,0,0,(60*(h:Int)+(mi:Int)).toNat,o-720⟩ (Tx (fU 32 [num mi,num h,num d,[42,32,42]])):=by
 have ok:eY ⟨4,d,0,0,(60*(h:Int)+(mi:Int)).toNat,o-720⟩:=⟨by show (0:Int)<=4/\(4:Int)<=6;decide,λe=>absurd e (by show ¬(4:Int)=0;decide),λe=>absurd e (by show ¬(4:Int)=1;decide),λ_=>bd,by show (0:Int)<=0/\(0:Int)<=6;decide,λ_ e=>absurd rfl e,λe=>absurd e (by show ¬((4:Int)=5∨(4:Int)=6);decide),by show (60*(h:Int)+(mi:Int)).toNat<1440;omega,by show -720<=o-720/\o-720<=720;omega⟩;exact⟨ok,Nv bh bi ok rfl rfl⟩
theorem SJ(hs:s=5∨s=6):eY ⟨s,0,w,2,(60*(h:Int)+(mi:Int)).toNat,o-720⟩/\jE ⟨s,0,w,2,(60*(h:Int)+(mi:Int)).toNat,o-720⟩ (Tx (fU 32 [num mi,num h,if s=5 then [50,57,32,50,32,42] else [42,32,50,32]++num w++[35,53]])):=by
 have ok:eY ⟨s,0,w,2,(60*(h:Int)+(mi:Int)).toNat,o-720⟩:=⟨by show 0<=s/\s<=6;omega,λe=>by have e:s=0:=e;omega,λe=>by have e:s=1:=e;omega,λe=>by have e:s=4:=e;omega,by show (0:Int)<=w/\(w:Int)<=6;omega,λ_ _=>by show (1:Int)<=2/\(2:Int)<=12;decide,λ_=>rfl,by show (60*(h:Int)+(mi:Int)).toNat<1440;omega,by show -720<=o-720/\o-720<=720;omega⟩;refine⟨ok,?_⟩;rcases hs with rfl | rfl
 ·exact N9 bh bi ok rfl rfl
 ·exact Wu bh bi ok rfl rfl
end
theorem RJ{ds:List Int}(h:Digs ds [6,4,12,11,10,9]):∃d0 d1 d2 d3 d4 d5:Int,ds=[d0,d1,d2,d3,d4,d5]/\(0<=d0/\d0<6)/\(0<=d1/\d1<4)/\(0<=d2/\d2<12)/\(0<=d3/\d3<11)/\(0<=d4/\d4<10)/\0<=d5/\d5<9:=by
 cases h with | cons a0 h=>cases h with | cons a1 h=>cases h with | cons a2 h=>cases h with | cons a3 h=>cases h with | cons a4 h=>cases h with | cons a5 h=>cases h with | nil=>exact⟨_,_,_,_,_,(),a0,a1,a2,a3,a4,a5⟩
theorem Gm{H:Hp}{v:V}{z:List Int}(hv:PtA H v z):∀{us:List V} {zs:List (List Int)},Paired (PtA H) us zs->Paired (PtA H) (us++[v]) (zs++[z])
 |_,_,.nil=>.cons hv .nil
 |_,_,.cons x r=>.cons x (Gm hv r)
theorem vx{H H':Hp}(s:Same H H'):∀{us:List V} {zs:List (List Int)},Paired (PtA H) us zs->Paired (PtA H') us zs
 |_,_,.nil=>.nil
 |_,_,.cons x r=>.cons (x.keep s) (vx s r)
theorem RQ{H:Hp}{us:List V}{zs:List (List Int)}(h:Paired (PtA H) us zs)(l:zs.length=4):∃(a b c d:Addr) (x y z w:List Int),us=[.ref a,.ref b,.ref c,.ref d]/\zs=[x,y,z,w]/\PtA H (.ref a) x/\PtA H (.ref b) y/\PtA H (.ref c) z/\PtA H (.ref d) w:=by
 have r:∀{v:V} {z:List Int},PtA H v z->∃a,v=.ref a:=λ⟨a,e,_⟩=>⟨a,e⟩;cases h with
 |nil=>cases l
 |cons x0 h=>cases h with
  |nil=>cases l
  |cons x1 h=>cases h with
   |nil=>cases l
   |cons x2 h=>cases h with
    |nil=>cases l
    |cons x3 h=>cases h with
     |cons _ _=>exact absurd l (by simp)
     |nil=>
      obtain⟨a,rfl⟩:=r x0;obtain⟨b,rfl⟩:=r x1;obtain⟨c,rfl⟩:=r x2;obtain⟨d,rfl⟩:=r x3;exact⟨a,b,c,d,_,_,(()),x0,x1,x2,x3⟩
theorem PtA.at{H:Hp}{l:Addr}{z:List Int}(h:PtA H (.ref l) z):∃mi h s d w n o:Int,z=[mi,h,s,d,w,n,o]/\H l=some (.lst [.int mi,.int h,.int s,.int d,.int w,.int n,.int o])/\(0<=mi/\mi<60)/\(0<=h/\h<24)/\(0<=d/\d<20)/\(0<=w/\w<7)/\0<=o/\o<1441:=by
 obtain⟨l',e,hl,mi,h,s,d,w,n,o,rfl,bi,bh,bs,bd,bw,bn,bo⟩:=h;obtain rfl:l=l':=by injection e
 exact⟨mi,h,s,d,w,n,o,rfl,hl,bi,bh,bd,bw,bo⟩
theorem TH{p q:LQ}(op:eY p)(oq:eY q)(p3:p.s≠3/\p.s≠4)(q3:q.s≠3/\q.s≠4)(ne:p.m≠q.m):hU [p,q]:=by
 refine JR (λr hr=>?_) λi j a b ha hb e=>?_
 ·rcases aT.mp hr with rfl | hr
  ·exact⟨op,p3⟩
  ·rw[aX.mp hr];exact⟨oq,q3⟩
 ·match i,j,ha,hb with
  |0,0,ha,hb=>rfl
  |1,1,ha,hb=>rfl
  |0,1,ha,hb=>cases ha;cases hb;exact absurd e ne
  |1,0,ha,hb=>cases ha;cases hb;exact absurd e.symm ne
  |0,j+2,_,hb=>cases hb
  |1,j+2,_,hb=>cases hb
  |i+2,_,ha,_=>cases ha
theorem LqA.ok{H:Hp}{v:V}{q:LQ}(h:LqA H v q):eY q:=by
 obtain⟨_,_,_,_,_,z⟩:=h;exact z
theorem Qz{H:Hp}{us:List V}{qs:List LQ}(h:Paired (LqA H) us qs)(h3:∀q∈qs,q.s≠3/\q.s≠4)(nd:(qs.map (·.m)).Nodup):hU qs:=by
 refine JR (λq hq=>⟨wO h q hq,h3 q hq⟩) λi j p q hp hq e=>?_;have hi:(qs.map (·.m))[i]? =some p.m:=by rw[bG,hp];rfl
 have hj:(qs.map (·.m))[j]? =some p.m:=by rw[bG,hq,e];rfl
 obtain⟨i1,i2⟩:=a9.mp hi;obtain⟨j1,j2⟩:=a9.mp hj;have z:=dO.mp nd;rcases cX i j with c | c | c
 ·exact absurd (i2.trans j2.symm) (z i j i1 j1 c)
 ·exact c
 ·exact absurd (j2.trans i2.symm) (z j i j1 i1 c)
structure qk(qs:List LQ)(ns:List Int)(i:Nat):Prop where
 len:ns.length+i=12
 nd:(qs.map (·.m)++ns).Nodup
 lim:∀n∈ns,1<=n/\n<=12
 ok:∀q∈qs,q.s≠3/\q.s≠4
theorem TL:qk [] [1,2,3,4,5,6,7,8,9,10,11,12] 0:=⟨rfl,by decide +kernel,by decide +kernel,λ_ h=>nomatch h⟩
theorem S0{qs:List LQ}{ns:List Int}{i k:Nat}{q:LQ}(h:qk qs ns i)(hk:ns[k]? =some q.m)(hq:q.s≠3/\q.s≠4):qk (qs++[q]) (ns.eraseIdx k) (i+1):=by
 obtain⟨kl,ke⟩:=a9.mp hk;have pm:ns.Perm (q.m::ns.eraseIdx k):=by
  have e:ns=ns.take k++q.m::ns.drop (k+1):=by
   have z:=List.take_append_drop k ns;rw[List.drop_eq_getElem_cons kl,ke] at z;exact z.symm
  rw[List.eraseIdx_eq_take_drop_succ];have z:(ns.take k++q.m::ns.drop (k+1)).Perm (q.m::(ns.take k++ns.drop (k+1))):=List.perm_middle;rw[←e] at z;exact z
 refine⟨?_,?_,λn hn=>h.lim n (pm.mem_iff.mpr (bN _ hn)),λr hr=>?_⟩
 ·have:=h.len;rw[List.length_eraseIdx,if_pos kl];omega
 ·rw[bE,dF];exact (List.Perm.append_left (qs.map (·.m)) pm).nodup_iff.mp h.nd
 ·rcases bY.mp hr with m | m
  ·exact h.ok r m
  ·rw[aX.mp m];exact hq
theorem Vw{n:Nat}{i:Int}(h0:0<=i)(h1:i<n):seqIndex? i n=some i.toNat:=(MQ (i:=i) (n:=n) (j:=i.toNat) (by unfold j4;rw[if_pos h0,if_pos h1])).1
theorem W3{q:LQ}{w2 w4:List Nat}{m0 m1 m3:Int}{kd kw:Ko}(ok:eY q)(d2:DT false w2 kd)(d4:DT true w4 kw)(hb:∀k d:Int,0<=k->k<=90->0<=d->(tb (gx m3 kd kw k) d.toNat=true↔(1<=d/\d<=gj k)/\Rk q k d))(od:∀ks,gO false kd=some ks->∀k∈ks,k.ok)(ow:∀ks,gO true kw=some ks->∀k∈ks,k.ok):PQ ⟨m0,m1,m3,gO false kd,gO true kw,q.tm,q.off⟩ q/\qQ m3 (gO false kd) (gO true kw)=false:=by
 have e:∀k,0<=k->k<=90->gx m3 (gO false kd) (gO true kw) k=gx m3 kd kw k:=λk h0 h1=>by
  unfold gx;rw[Nf d2 d4 (lC h0 h1).2]
 refine⟨⟨λk d h0 h1 hd=>?_,λk h0 h1=>JS od ow h0 h1,rfl,rfl⟩,?_⟩
 ·show tb (gx m3 (gO false kd) (gO true kw) k) d.toNat=true↔_;rw[e k h0 h1];exact hb k d h0 h1 hd
 ·obtain⟨k,d,hk,hd,r⟩:=u7 ok;have z:=(hb k d hk.1 hk.2 ⋯).mpr ⟨hd,r⟩;rw[←e k hk.1 hk.2] at z;unfold qQ;refine eq_false_of_ne_true λc=>?_;have c:=(b6.mp c) (decide (gx m3 (gO false kd) (gO true kw) ((k.toNat:Nat):Int)=0)) (bJ.mpr ⟨k.toNat,bR.mpr ⋯,rfl⟩);have c:=dY c;rw[bQ hk.1] at c;rw[c,jb] at z;cases z
theorem Q8{H H':Hp}{A C:Addr}{xs ys:List V}(hA:H A=some (.lst xs))(hC:H C=some (.lst ys))(ne:A≠C)(s:Same (jr H A C) H'):Same H (jY H' A C xs ys):=λb o hb=>by
 by_cases c:b=C
 ·subst c;rw[hC] at hb;injection hb with hb;subst hb;exact eJ
 ·by_cases c2:b=A
  ·subst c2;rw[hA] at hb;injection hb with hb;subst hb;exact (fh c).trans eJ
  ·rw[nR c2 c];exact s b o (by rw[qa c2 c];exact hb)
theorem Oz{H:Hp}{A C:Addr}{xs ys:List V}(nA:H A=none)(nC:H C=none):Same H (jY H A C xs ys):=λb o hb=>by
 rw[nR (λe=>by rw[e,nA] at hb;cases hb) (λe=>by rw[e,nC] at hb;cases hb)];exact hb
structure jQ(E:Int->Int->Prop):Prop where
 off:∀t o,E t o-> -720<=o/\o<=720
 far:∀t o u r,E t o->E u r->(t=u/\o=r)∨4320<=t-u∨4320<=u-t
noncomputable def iO(x a b c:Int):Int:=if x-b<a then x-b else max a (x-c)
theorem my{E:Int->Int->Prop}(ok:jQ E){x a b c:Int}(h:iu E x a b c):(-720<=b/\b<=720)/\ -720<=c/\c<=720:=by
 obtain⟨s,e1,e0,_⟩:=h;exact⟨ok.off _ _ e0,ok.off _ _ e1⟩
theorem pN{E:Int->Int->Prop}(ok:jQ E){x a b c r a' b' c':Int}(h:iu E x a b c)(h':iu E r a' b' c')(hr:r<=x):(a<=r->a'=a/\b'=b/\c'=c)/\(r<a->a-4320<=r->c'=b/\a'<=a-4320):=by
 obtain⟨s,e1,e0,hs,hx,al⟩:=h;obtain⟨s',e1',e0',hs',hx',al'⟩:=h';have z1:=al _ _ e1' ⋯;have z0:=al _ _ e0' ⋯;have f:=ok.far _ _ _ _ e1 e0;constructor
 ·intro ha;have w1:=al' _ _ e1 ha;have w0:=al' _ _ e0 ⋯;omega
 ·intro ha hb;have w0:=al' _ _ e0 ⋯;omega
theorem VP{E:Int->Int->Prop}(ok:jQ E){x a b c a1 b1 c1 a2 b2 c2:Int}(h:iu E (x+720) a b c)(h1:iu E (iO x a b c) a1 b1 c1)(h2:iu E (iO x a b c-1) a2 b2 c2):x<=iO x a b c+c1/\max (iO x a b c-1+c2) (a2-1+b2)<x:=by
 have o:=my ok h;have o1:=my ok h1;have o2:=my ok h2;have ax:a<=x+720:=by obtain⟨_,_,_,_,z,_⟩:=h;exact z
 have a2x:a2<=iO x a b c-1:=by obtain⟨_,_,_,_,z,_⟩:=h2;exact z
 have hle:iO x a b c<=x+720:=by unfold iO;split<;>omega
 have t1:=pN ok h h1 hle;have t2:=pN ok h h2 ⋯;unfold iO at t1 t2 a2x ⊢;split
 ·rename_i k;rw[if_pos k] at t1 t2 a2x;have z1:=t1.2 k ⋯;have z2:=t2.2 ⋯ ⋯;omega
 ·rename_i k;rw[if_neg k] at t1 t2 a2x;have z1:=t1.1 ⋯;by_cases k2:a<=max a (x-c)-1
  ·have z2:=t2.1 k2;omega
  ·have z2:=t2.2 ⋯ ⋯;omega
theorem Rq{E:Int->Int->Prop}(ok:jQ E){x a b c a' b' c':Int}(h:iu E (x+720) a b c)(h':iu E (x+1+720) a' b' c'):iO x a b c<=iO (x+1) a' b' c':=by
 have o:=my ok h;have o':=my ok h';have t:=pN ok h' h ⋯;have ax:a<=x+720:=by obtain⟨_,_,_,_,z,_⟩:=h;exact z
 have ax':a'<=x+1+720:=by obtain⟨_,_,_,_,z,_⟩:=h';exact z
 by_cases k:a'<=x+720
 ·obtain⟨rfl,rfl,rfl⟩:=t.1 k;unfold iO;split<;>split<;>omega
 ·have z:=t.2 ⋯ ⋯;unfold iO;split<;>split<;>omega
theorem WY{qs:List LQ}(hf:hU qs)(ok:∀q∈qs,eY q):jQ (EQ qs) where
 off:=λt o ⟨i,q,hq,_,e⟩=>by rw[e];exact (ok q (aY hq)).off
 far:=λt o u r h h'=>pV hf h h'
inductive Xe (K:FG) (vs:List V) (H:Hp) (Q:VK) (E:XK):Prop
 |mk (y:Int) (_:vs=[.int y]) (_:Q (.bl (gD y)) H)
inductive Rt (K:FG) (vs:List V) (H:Hp) (Q:VK) (E:XK):Prop
 |mk (y m:Int) (_:vs=[.int y,.int m]) (_:(1<=m/\m<=12)) (_:Q (.int (fH y m)) H)
inductive Wh (K:FG) (vs:List V) (H:Hp) (Q:VK) (E:XK):Prop
 |mk (v:V) (k:Kd) (_:vs=[v]) (_:KindV K H v k) (_:Q (.bl k.wh) H)
inductive RU (K:FG) (vs:List V) (H:Hp) (Q:VK) (E:XK):Prop
 |mk (d:Int) (_:vs=[.int d]) (_:Q (.int ((d+6)%7)) H)
inductive Tc (K:FG) (vs:List V) (H:Hp) (Q:VK) (E:XK):Prop
 |mk (y m d:Int) (_:vs=[.int y,.int m,.int d]) (_:Q (.int (7*iW y m+(d+6)%7)) H)
inductive Ow (K:FG) (vs:List V) (H:Hp) (Q:VK) (E:XK):Prop
 |mk (l:List Nat) (_:vs=[.str (Tx l)]) (_:l.length<=2000) (_:∀H',Same H H'->Q (.bl (l9 l)) H')
inductive OS (K:FG) (vs:List V) (H:Hp) (Q:VK) (E:XK):Prop
 |mk (l:List Nat) (_:vs=[.str (Tx l)]) (_:l.length<=2000) (_:∀H',Same H H'->Q (.bl (iJ l)) H')
inductive UU (K:FG) (vs:List V) (H:Hp) (Q:VK) (E:XK):Prop
 |mk (m n:Int) (_:vs=[.int m,.int n]) (_:(0<=m/\0<=n)) (_:Q (.bl (tb m n.toNat)) H)
inductive XI (K:FG) (vs:List V) (H:Hp) (Q:VK) (E:XK):Prop
 |mk (a:Addr) (zs:List Int) (_:vs=[.ref a]) (_:SqL K H a (zs.map V.int)) (_:(∀z∈zs,0<=z/\z<=100000)) (_:Q (.int (fE zs)) H)
inductive VW (K:FG) (vs:List V) (H:Hp) (Q:VK) (E:XK):Prop
 |mk (m:Int) (_:vs=[.int m]) (_:(0<=m/\Builtin.Int.intBits m<=100000)) (_:∀(p:Addr) (H':Hp),Same H H'->H' p=some (.lst ((j7 m).map V.int))->Q (.ref p) H')
inductive Vc (K:FG) (vs:List V) (H:Hp) (Q:VK) (E:XK):Prop
 |mk (a b s:Int) (_:vs=[.int a,.int b,.int s]) (_:(0<=a/\a<=1000)) (_:(-1<=b/\b<=1000)) (_:(0<s/\s<=1000)) (_:∀H',Same H H'->Q (.int (jP a b s)) H')
inductive Vp (K:FG) (vs:List V) (H:Hp) (Q:VK) (E:XK):Prop
 |mk (l:List Nat) (lo hi:Int) (_:vs=[.str (Tx l),.int lo,.int hi]) (_:l.length<=600) (_:∀H',Same H H'->Q (oV (gd lo hi l)) H')
inductive Oq (K:FG) (vs:List V) (H:Hp) (Q:VK) (E:XK):Prop
 |mk (l:List Nat) (lo hi:Int) (_:vs=[.str (Tx l),.int lo,.int hi]) (_:l.length<=500) (_:∀(r:V) (H':Hp),Same H H'->wV H' r (ig lo hi l)->Q r H')
inductive VT (K:FG) (vs:List V) (H:Hp) (Q:VK) (E:XK):Prop
 |mk (r s:List Nat) (lo hi:Int) (_:vs=[.str (Tx r),.str (Tx s),.int lo,.int hi]) (_:r.length<=400) (_:s.length<=400) (_:(0<=lo/\lo<=hi/\hi<=1000)) (_:∀H',Same H H'->Q (oV (jq lo hi r s)) H')
inductive MU (K:FG) (vs:List V) (H:Hp) (Q:VK) (E:XK):Prop
 |mk (l:List Nat) (lo hi:Int) (_:vs=[.str (Tx l),.int lo,.int hi]) (_:l.length<=300) (_:(0<=lo/\lo<=hi/\hi<=1000)) (_:∀H',Same H H'->Q (oV (gf lo hi l)) H')
inductive Xa (K:FG) (vs:List V) (H:Hp) (Q:VK) (E:XK):Prop
 |mk (l:List Nat) (lo hi:Int) (_:vs=[.str (Tx l),.int lo,.int hi]) (_:l.length<=300) (_:(0<=lo/\lo<=hi/\hi<=1000)) (_:Ag lo hi l) (_:∀H',Same H H'->Q (.int (fV (kI lo hi l))) H')
inductive S9 (K:FG) (vs:List V) (H:Hp) (Q:VK) (E:XK):Prop
 |mk (d f:Int) (_:vs=[.int d,.int f]) (_:Q (.int ((f+d-1)%7)) H)
inductive Ry (K:FG) (vs:List V) (H:Hp) (Q:VK) (E:XK):Prop
 |mk (l:Int) (_:vs=[.int l]) (_:(28<=l/\l<=31)) (_:Q (.int (2*2^l.toNat-2)) H)
inductive NM (K:FG) (vs:List V) (H:Hp) (Q:VK) (E:XK):Prop
 |mk (d l f:Int) (_:vs=[.int d,.int l,.int f]) (_:Q (.int (nw d l f)) H)
inductive NJ (K:FG) (vs:List V) (H:Hp) (Q:VK) (E:XK):Prop
 |mk (w f:Int) (_:vs=[.int w,.int f]) (_:Q (.int (1+(w-f)%7)) H)
inductive WQ (K:FG) (C:Addr) (vs:List V) (H:Hp) (Q:VK) (E:XK):Prop
 |mk (p:Addr) (l f:Int) (_:vs=[.ref p,.int l,.int f]) (_:Q (.int 0) H)
inductive N4 (K:FG) (C:Addr) (vs:List V) (H:Hp) (Q:VK) (E:XK):Prop
 |mk (p dx:Addr) (m:Int) (_:vs=[.ref p,.int m]) (_:H p=some (.ins C dx [])) (_:Q .non (upd H p (.ins C dx [("mask",.int m)])))
inductive UR (K:FG) (C:Addr) (vs:List V) (H:Hp) (Q:VK) (E:XK):Prop
 |mk (p dx:Addr) (m l f:Int) (_:vs=[.ref p,.int l,.int f]) (_:H p=some (.ins C dx [("mask",.int m)])) (_:Lf l f) (_:Q (.int (j8 m l)) H)
inductive Sq (K:FG) (C:Addr) (vs:List V) (H:Hp) (Q:VK) (E:XK):Prop
 |mk (p dx:Addr) (m:Int) (_:vs=[.ref p,.int m]) (_:H p=some (.ins C dx [])) (_:Q .non (upd H p (.ins C dx [("back",.int m)])))
inductive Vi (K:FG) (C:Addr) (vs:List V) (H:Hp) (Q:VK) (E:XK):Prop
 |mk (p dx:Addr) (b l f:Int) (_:vs=[.ref p,.int l,.int f]) (_:H p=some (.ins C dx [("back",.int b)])) (_:(0<=b/\b<=30)) (_:Lf l f) (_:Q (.int (l8 b l)) H)
inductive VY (K:FG) (C:Addr) (vs:List V) (H:Hp) (Q:VK) (E:XK):Prop
 |mk (p dx:Addr) (m:Int) (_:vs=[.ref p,.int m]) (_:H p=some (.ins C dx [])) (_:Q .non (upd H p (.ins C dx [("day",.int m)])))
inductive Qf (K:FG) (C:Addr) (vs:List V) (H:Hp) (Q:VK) (E:XK):Prop
 |mk (p dx:Addr) (d l f:Int) (_:vs=[.ref p,.int l,.int f]) (_:H p=some (.ins C dx [("day",.int d)])) (_:pX d l f) (_:Q (.int (l6 d l f)) H)
inductive OT (K:FG) (C:Addr) (vs:List V) (H:Hp) (Q:VK) (E:XK):Prop
 |mk (p dx:Addr) (l f:Int) (_:vs=[.ref p,.int l,.int f]) (_:H p=some (.ins C dx [])) (_:pX l l f) (_:Q (.int (1*2^(nw l l f).toNat)) H)
inductive W9 (K:FG) (C:Addr) (vs:List V) (H:Hp) (Q:VK) (E:XK):Prop
 |mk (p dx:Addr) (m:Int) (_:vs=[.ref p,.int m]) (_:H p=some (.ins C dx [])) (_:Q .non (upd H p (.ins C dx [("mask",.int m)])))
inductive Og (K:FG) (C:Addr) (vs:List V) (H:Hp) (Q:VK) (E:XK):Prop
 |mk (p dx:Addr) (m l f:Int) (_:vs=[.ref p,.int l,.int f]) (_:H p=some (.ins C dx [("mask",.int m)])) (_:(0<=m/\m<=127)) (_:Lf l f) (_:Q (.int (jK m l f)) H)
inductive Wk (K:FG) (C:Addr) (vs:List V) (H:Hp) (Q:VK) (E:XK):Prop
 |mk (p dx:Addr) (w m:Int) (_:vs=[.ref p,.int w,.int m]) (_:H p=some (.ins C dx [])) (_:Q .non (upd (upd H p (.ins C dx (fj "weekday" (.int w) []))) p (.ins C dx (lE w m))))
inductive Sw (K:FG) (C:Addr) (vs:List V) (H:Hp) (Q:VK) (E:XK):Prop
 |mk (p dx:Addr) (w m l f:Int) (_:vs=[.ref p,.int l,.int f]) (_:H p=some (.ins C dx (lE w m))) (_:(0<=w/\w<=6)) (_:(1<=m/\m<=5)) (_:Lf l f) (_:Q (.int (jW w m l f)) H)
inductive QL (K:FG) (C:Addr) (vs:List V) (H:Hp) (Q:VK) (E:XK):Prop
 |mk (p dx:Addr) (m:Int) (_:vs=[.ref p,.int m]) (_:H p=some (.ins C dx [])) (_:Q .non (upd H p (.ins C dx [("weekday",.int m)])))
inductive WS (K:FG) (C:Addr) (vs:List V) (H:Hp) (Q:VK) (E:XK):Prop
 |mk (p dx:Addr) (w l f:Int) (_:vs=[.ref p,.int l,.int f]) (_:H p=some (.ins C dx [("weekday",.int w)])) (_:(0<=w/\w<=6)) (_:Lf l f) (_:Q (.int (CC w l f)) H)
inductive Rl (K:FG) (vs:List V) (H:Hp) (Q:VK) (E:XK):Prop
 |mk (b:Addr) (ps:List Addr) (ks:List Mk) (l f:Int) (_:vs=[.ref b,.int l,.int f]) (_:SqL K H b (ps.map V.ref)) (_:Ft (MkAt gS H) ps ks) (_:(∀k∈ks,k.ok)) (_:Lf l f) (_:Q (.int (i6 ks l f)) H)
inductive M6 (K:FG) (vs:List V) (H:Hp) (Q:VK) (E:XK):Prop
 |mk (t:List Nat) (_:vs=[.str (Tx t)]) (_:t.length<=300) (_:∀(v:V) (H':Hp),Same H H'->BV gS H' v (ju t)->Q v H')
inductive S3 (K:FG) (vs:List V) (H:Hp) (Q:VK) (E:XK):Prop
 |mk (t:List Nat) (_:vs=[.str (Tx t)]) (_:t.length<=300) (_:∀H',Same H H'->Q (oV (kc t)) H')
inductive QB (K:FG) (vs:List V) (H:Hp) (Q:VK) (E:XK):Prop
 |mk (t:List Nat) (_:vs=[.str (Tx t)]) (_:t.length<=300) (_:∀(v:V) (H':Hp),Same H H'->BV gS H' v (kF t)->Q v H')
inductive TR (K:FG) (aK aL:Addr) (vs:List V) (H:Hp) (Q:VK) (E:XK):Prop
 |mk (l:List Nat) (lo hi:Int) (wk:Bool) (_:vs=[.str (Tx l),.int lo,.int hi,.ref (if wk=true then aL else aK)]) (_:(0<=lo/\lo<=hi/\hi<=1000)) (_:gv wk lo hi l) (_:∀(p m:Addr) (qs:List Addr) (H':Hp),H m=none->Same H H'->H' p=some (.tup [.int (fV (gA lo hi (eV 44 l))),.ref m])->H' m=some (.lst (qs.map V.ref))->Ft (MkAt gS H') qs (gW wk lo hi (eV 44 l))->Q (.ref p) H')
inductive Tr (K:FG) (vs:List V) (H:Hp) (Q:VK) (E:XK):Prop
 |mk (l:List Nat) (_:vs=[.str (Tx l)]) (_:gv false 1 31 l) (_:(l=[42]->∀H',Same H H'->Q .non H')) (_:(l≠[42]->∀(m:Addr) (qs:List Addr) (H':Hp),H m=none->Same H H'->H' m=some (.lst (qs.map V.ref))->Ft (MkAt gS H') qs (mm false 1 31 l)->Q (.ref m) H'))
inductive SR (K:FG) (vs:List V) (H:Hp) (Q:VK) (E:XK):Prop
 |mk (l:List Nat) (_:vs=[.str (Tx l)]) (_:gv true 0 7 l) (_:(l=[42]->∀H',Same H H'->Q .non H')) (_:(l≠[42]->∀(m:Addr) (qs:List Addr) (H':Hp),H m=none->Same H H'->H' m=some (.lst (qs.map V.ref))->Ft (MkAt gS H') qs (mm true 0 7 l)->Q (.ref m) H'))
inductive Vd (K:FG) (vs:List V) (H:Hp) (Q:VK) (E:XK):Prop
 |mk (k:Int) (_:vs=[.int k]) (_:(0<=k/\k<=90)) (_:∀(p:Addr) (H':Hp),Same H H'->H' p=some (.tup ((mV k).map V.int))->Q (.ref p) H')
inductive RF (K:FG) (vs:List V) (H:Hp) (Q:VK) (E:XK):Prop
 |mk (h m:Int) (_:vs=[.int h,.int m]) (_:(0<=h/\h<2^24)) (_:(0<=m/\m<2^60)) (_:∀(t:Int) (H':Hp),t=hZ h m->Same H H'->Q (.int t) H')
inductive TC (K:FG) (vs:List V) (H:Hp) (Q:VK) (E:XK):Prop
 |mk (dv wv:V) (kd kw:Ko) (l f:Int) (_:vs=[dv,wv,.int l,.int f]) (_:DV gS H dv kd) (_:DV gS H wv kw) (_:Lf l f) (_:∀H',Same H H'->Q (.int (hV kd kw l f)) H')
inductive Xf (K:FG) (C:Addr) (vs:List V) (H:Hp) (Q:VK) (E:XK):Prop
 |mk (p dx fa:Addr) (m0 m1 m3:Int) (dv wv:V) (_:vs=[.ref p,.ref fa]) (_:H p=some (.ins C dx [])) (_:H fa=some (.lst [.int m0,.int m1,dv,.int m3,wv])) (_:(0<=m0/\m0<2^60)) (_:(0<=m1/\m1<2^24)) (_:∀(tm:Int) (H':Hp),tm=hZ m1 m0->H' p=some (.ins C dx (gM m0 m1 dv m3 wv tm))->(∀b o,H b=some o->b≠p->H' b=some o)->Q .non H')
inductive Pf (K:FG) (C:Addr) (vs:List V) (H:Hp) (Q:VK) (E:XK):Prop
 |mk (p dx:Addr) (m0 m1 m3 tm k:Int) (dv wv:V) (kd kw:Ko) (_:vs=[.ref p,.int k]) (_:H p=some (.ins C dx (gM m0 m1 dv m3 wv tm))) (_:(0<=k/\k<=90)) (_:0<=m3) (_:DV gS H dv kd) (_:DV gS H wv kw) (_:∀H',Same H H'->Q (.int (if tb m3 (iM k).toNat=true then hV kd kw (gj k) (k%7) else 0)) H')
inductive Su (K:FG) (vs:List V) (H:Hp) (Q:VK) (E:XK):Prop
 |mk (t:List Nat) (pl:Int) (_:vs=[.str (Tx t),.int pl]) (_:((pl=2/\∃ko,DT false t ko/\∀(v:V) (H':Hp),Same H H'->DV gS H' v (gO false ko)->(∀p,v=.ref p->H p=none)->Q v H')∨(pl=4/\∃ko,DT true t ko/\∀(v:V) (H':Hp),Same H H'->DV gS H' v (gO true ko)->(∀p,v=.ref p->H p=none)->Q v H')∨(∃lo hi m:Int,(pl=0/\lo=0/\hi=59∨pl=1/\lo=0/\hi=23∨pl=3/\lo=1/\hi=12)/\FT lo hi t m/\∀H',Same H H'->Q (.int m) H')))
inductive XX (K:FG) (vs:List V) (H:Hp) (Q:VK) (E:XK):Prop
 |mk (t:List Nat) (pl:Int) (_:vs=[.str (Tx t),.int pl]) (_:((pl=2/\∃ko,DT false t ko/\∀(v:V) (H':Hp),Same H H'->DV gS H' v (gO false ko)->(∀p,v=.ref p->H p=none)->Q v H')∨(pl=4/\∃ko,DT true t ko/\∀(v:V) (H':Hp),Same H H'->DV gS H' v (gO true ko)->(∀p,v=.ref p->H p=none)->Q v H')∨(∃lo hi m:Int,(pl=0/\lo=0/\hi=59∨pl=1/\lo=0/\hi=23∨pl=3/\lo=1/\hi=12)/\FT lo hi t m/\∀H',Same H H'->Q (.int m) H')))
inductive SZ (K:FG) (vs:List V) (H:Hp) (Q:VK) (E:XK):Prop
 |mk (w0 w1 w2 w3 w4:List Nat) (m0 m1 m3:Int) (kd kw:Ko) (_:vs=[.str (Tx (fU 32 [w0,w1,w2,w3,w4]))]) (_:FT 0 59 w0 m0) (_:FT 0 23 w1 m1) (_:FT 1 12 w3 m3) (_:DT false w2 kd) (_:DT true w4 kw) (_:(m0<2^60/\m1<2^24)) (_:∀(x dx:Addr) (dv wv:V) (tm:Int) (H':Hp),tm=hZ m1 m0->Same H H'->H' x=some (.ins aA dx (gM m0 m1 dv m3 wv tm))->DV gS H' dv (gO false kd)->DV gS H' wv (gO true kw)->Q (.ref x) H')
inductive S7 (K:FG) (C:Addr) (vs:List V) (H:Hp) (Q:VK) (E:XK):Prop
 |mk (p dx:Addr) (m0 m1 m3 tm:Int) (dv wv:V) (_:vs=[.ref p]) (_:H p=some (.ins C dx (gM m0 m1 dv m3 wv tm))) (_:Q (.int tm) H)
inductive N3 (K:FG) (vs:List V) (H:Hp) (Q:VK) (E:XK):Prop
 |mk (m:Int) (k:Nat) (_:vs=[.int m]) (_:0<m) (_:tb m k=true) (_:(∀j,j<k->tb m j=false)) (_:Q (.int k) H)
inductive Wj (K:FG) (vs:List V) (H:Hp) (Q:VK) (E:XK):Prop
 |mk (a:Addr) (k:Int) (_:vs=[.ref a,.int k]) (_:(∃ns:List Int,SqL K H a (ns.map V.int))) (_:(0<=k/\k<1000)) (_:∀c:Int,Q (.int c) H)
inductive RP (K:FG) (vs:List V) (H:Hp) (Q:VK) (E:XK):Prop
 |mk (n:Int) (_:vs=[.int n]) (_:∀r:Int,0<=r->r<2147483629->Q (.int r) H)
inductive Py (K:FG) (vs:List V) (H:Hp) (Q:VK) (E:XK):Prop
 |mk (c:Int) (a:Addr) (b:Bool) (ss:List Int) (_:vs=[.int c,.ref a,.bl b]) (_:SqL K H a (ss.map V.int)) (_:(∀z∈ss,0<z/\z<1073741824)) (_:ss.length<=63) (_:∀(ds:List Int) (p:Addr) (H':Hp),Same H H'->H' p=some (.lst (ds.map V.int))->Digs ds ss->Q (.ref p) H')
inductive XC (K:FG) (vs:List V) (H:Hp) (Q:VK) (E:XK):Prop
 |mk (i:Int) (_:vs=[.int i]) (_:Q (.bl true) H)
inductive Td (K:FG) (vs:List V) (H:Hp) (Q:VK) (E:XK):Prop
 |mk (p:Addr) (m0 m1 m3:Int) (kd kw:Ko) (_:vs=[.ref p]) (_:RowR gS aA H p m0 m1 m3 kd kw) (_:∀H',Same H H'->Q (.bl (qQ m3 kd kw)) H')
inductive OP (K:FG) (vs:List V) (H:Hp) (Q:VK) (E:XK):Prop
 |mk  (_:vs=[]) (_:∀(l:Addr) (us:List V) (H':Hp),H l=none->Same H H'->H' l=some (.lst us)->Paired (gm H') us (jw 4800)->Q (.ref l) H')
inductive TN (K:FG) (vs:List V) (H:Hp) (Q:VK) (E:XK):Prop
 |mk (l:Addr) (us:List V) (ps:List (Int×Int)) (mo:Int) (n:Nat) (_:vs=[.ref l,.int mo]) (_:SqL K H l us) (_:Paired (gm H) us ps) (_:n<=ps.length) (_:(∀(i:Nat) p,ps[i]? =some p->i<n->p.1<=mo)) (_:(∀(i:Nat) p,ps[i]? =some p->n<=i->mo<p.1)) (_:Q (.int ((n:Int)-1)) H)
inductive RW (K:FG) (vs:List V) (H:Hp) (Q:VK) (E:XK):Prop
 |mk (l:Addr) (us:List V) (ps:List (Int×Int)) (_:vs=[.ref l]) (_:H l=some (.lst us)) (_:Paired (gm H) us ps) (_:kg ps) (_:∀H',Same H H'->Q .non H')
inductive TK (K:FG) (vs:List V) (H:Hp) (Q:VK) (E:XK):Prop
 |mk (l:Addr) (us:List V) (Ps:List gc) (k:Int) (_:vs=[.ref l,.int k]) (_:H l=some (.tup us)) (_:Paired (PutAt H) us Ps) (_:(0<=k/\k<=90)) (_:(page Ps k).Nodup) (_:(page Ps k).length<64) (_:∀(l':Addr) (us':List V) (ps':List (Int×Int)) (H':Hp),H l'=none->Same H H'->H' l'=some (.lst us')->Paired (gm H') us' ps'->ps'.Perm (page Ps k)->ps'.Pairwise (λa b=>gI a b=true)->Q (.ref l') H')
inductive Ol (K:FG) (vs:List V) (H:Hp) (Q:VK) (E:XK):Prop
 |mk (l:Addr) (us:List V) (Ps:List gc) (pg:Int->List (Int×Int)) (t0:Int×Int) (tr:List (Int×Int)) (_:vs=[.ref l]) (_:H l=some (.tup us)) (_:Paired (PutAt H) us Ps) (_:lQ Ps pg) (_:gw pg 4800=t0::tr) (_:kg (gw pg 4800++[(t0.1+210379680,t0.2)])) (_:∀(l':Addr) (us':List V) (H':Hp),Same H H'->H' l'=some (.lst us')->Paired (gm H') us' (gw pg 4800)->Q (.ref l') H')
inductive OM (K:FG) (vs:List V) (H:Hp) (Q:VK) (E:XK):Prop
 |mk (i:Int) (_:vs=[.int i]) (_:(-720<=i/\i<=720)) (_:Q (.int i) H)
inductive RX (K:FG) (vs:List V) (H:Hp) (Q:VK) (E:XK):Prop
 |mk (t x:Addr) (P:gc) (_:vs=[.ref t]) (_:H t=some (.tup [.ref x,.int P.off])) (_:PutX H (.ref t) P) (_:∀(T:Addr) (H':Hp),Same H H'->H' T=some (.tup [.ref x,.int P.off])->Q (.ref T) H')
inductive XW (K:FG) (vs:List V) (H:Hp) (Q:VK) (E:XK):Prop
 |mk (l:Addr) (us:List V) (Ps:List gc) (G:Hp) (_:vs=[.ref l]) (_:H l=some (.lst us)) (_:Same G H) (_:Paired (PutY G H) us Ps) (_:(1<=Ps.length/\Ps.length<=4)) (_:∀(T:Addr) (us':List V) (H':Hp),Same H H'->H' T=some (.tup us')->Paired (PutY G H') us' Ps->Q (.ref T) H')
inductive Oe (K:FG) (C:Addr) (vs:List V) (H:Hp) (Q:VK) (E:XK):Prop
 |mk (p dx:Addr) (b:Int) (_:vs=[.ref p,.int b]) (_:H p=some (.ins aD dx [])) (_:(-720<=b/\b<=720)) (_:Q .non (upd H p (.ins aD dx (ku b))))
inductive QA (K:FG) (C:Addr) (vs:List V) (H:Hp) (Q:VK) (E:XK):Prop
 |mk (p dx:Addr) (b m:Int) (_:vs=[.ref p,.int m]) (_:H p=some (.ins aD dx (ku b))) (_:Q (.int b) H)
inductive VF (K:FG) (C:Addr) (vs:List V) (H:Hp) (Q:VK) (E:XK):Prop
 |mk (p dx:Addr) (b m:Int) (_:vs=[.ref p,.int m]) (_:H p=some (.ins aD dx (ku b))) (_:Q .non H)
inductive US (K:FG) (C:Addr) (vs:List V) (H:Hp) (Q:VK) (E:XK):Prop
 |mk (p dx l:Addr) (us:List V) (Ps:List gc) (qs:List LQ) (_:vs=[.ref p,.ref l]) (_:H p=some (.ins aB dx [])) (_:H l=some (.lst us)) (_:Paired (PutY (gr H p) H) us Ps) (_:Paired PQ Ps qs) (_:(1<=Ps.length/\Ps.length<=4)) (_:(∀q∈qs,eY q)) (_:hU qs) (_:∀(T:List (Int×Int)) (H':Hp),ClkAt H' p T->(∀t o,m9 T t o↔EQ qs t o)->(∀b o,H b=some o->b≠p->H' b=some o)->Q .non H')
inductive UX (K:FG) (C:Addr) (vs:List V) (H:Hp) (Q:VK) (E:XK):Prop
 |mk (p:Addr) (T:List (Int×Int)) (m:Int) (_:vs=[.ref p,.int m]) (_:ClkAt H p T) (_:∀(a b c:Int) (t:Addr) (H':Hp),iu (m9 T) m a b c->H t=none->Same H H'->H' t=some (.tup [.int a,.int b,.int c])->Q (.ref t) H')
inductive RM (K:FG) (vs:List V) (H:Hp) (Q:VK) (E:XK):Prop
 |mk (p:Addr) (x:Int) (_:vs=[.ref p,.int x]) (_:((∃T,ClkAt H p T/\∀(a b c:Int) (H':Hp),iu (m9 T) (x+720) a b c->Same H H'->Q (.int (iO x a b c)) H')∨(∃dx b,H p=some (.ins aD dx (ku b))/\Q (.int (x-b)) H)))
inductive OC (K:FG) (vs:List V) (H:Hp) (Q:VK) (E:XK):Prop
 |mk (y:Int) (_:vs=[.int y]) (_:Q (.int (db y)) H)
inductive Pi (K:FG) (vs:List V) (H:Hp) (Q:VK) (E:XK):Prop
 |mk (y m:Int) (_:vs=[.int y,.int m]) (_:(1<=m/\m<=12)) (_:∀H',Same H H'->Q (.int (fH y m)) H')
inductive Xo (K:FG) (vs:List V) (H:Hp) (Q:VK) (E:XK):Prop
 |mk (n:Int) (_:vs=[.int n]) (_:∀y:Int,db y<=n->n<db (y+1)->Q (.int y) H)
inductive Qm (K:FG) (vs:List V) (H:Hp) (Q:VK) (E:XK):Prop
 |mk (l:Addr) (z:List Int) (m:Int) (_:vs=[.ref l,.int m]) (_:PtA H (.ref l) z) (_:(1<=m/\m<=12)) (_:∀(v:V) (q:LQ) (H':Hp),Same H H'->LqA H' v q->(q.s≠3/\q.s≠4)->q.m=m->Q v H')
inductive Sz (K:FG) (vs:List V) (H:Hp) (Q:VK) (E:XK):Prop
 |mk (l:Addr) (mi h s d w0 n o w:Int) (_:vs=[.ref l,.int w]) (_:H l=some (.lst [.int mi,.int h,.int s,.int d,.int w0,.int n,.int o])) (_:(0<=mi/\mi<60)) (_:(0<=h/\h<24)) (_:(0<=w/\w<7)) (_:(0<=o/\o<1441)) (_:∀(v:V) (H':Hp),Same H H'->LqA H' v ⟨3,0,w,0,(60*h+mi).toNat,o-720⟩->Q v H')
inductive Sg (K:FG) (vs:List V) (H:Hp) (Q:VK) (E:XK):Prop
 |mk (l:Addr) (z:List Int) (d:Int) (_:vs=[.ref l,.int d]) (_:PtA H (.ref l) z) (_:(1<=d/\d<=24)) (_:∀(v:V) (q:LQ) (H':Hp),Same H H'->LqA H' v q->q.s=4->q.n=d->Q v H')
inductive Pg (K:FG) (vs:List V) (H:Hp) (Q:VK) (E:XK):Prop
 |mk (l:Addr) (z:List Int) (_:vs=[.ref l]) (_:PtA H (.ref l) z) (_:∀(v:V) (q:LQ) (H':Hp),Same H H'->LqA H' v q->(q.s=5∨q.s=6)->q.m=2->Q v H')
inductive Q9 (K:FG) (vs:List V) (H:Hp) (Q:VK) (E:XK):Prop
 |mk (l:Addr) (cs:List Int) (b:Bool) (_:vs=[.ref l,.bl b]) (_:H l=some (.lst (cs.map V.int))) (_:cs.length=5) (_:∀(t:Addr) (qs:List LQ) (H':Hp),Same H H'->H t=none->PuA H' t qs->Q (.ref t) H')
inductive Vb (K:FG) (vs:List V) (H:Hp) (Q:VK) (E:XK):Prop
 |mk (t:Addr) (x:Str) (q:LQ) (Y:Int) (_:vs=[.ref t,.int Y]) (_:H t=some (.tup (qu q x))) (_:rB q) (_:∀H',Same H H'->Q (oN q (12*Y+q.m-1)) H')
inductive Qk (K:FG) (vs:List V) (H:Hp) (Q:VK) (E:XK):Prop
 |mk (t:Addr) (q:LQ) (x:Int) (_:vs=[.ref t,.int x]) (_:LqA H (.ref t) q) (_:∀(l:Addr) (u1 u0:Int) (H':Hp),H l=none->Same H H'->H' l=some (.lst [.int u1,.int u0])->oY q x u1 u0->Q (.ref l) H')
inductive Sv (K:FG) (vs:List V) (H:Hp) (Q:VK) (E:XK):Prop
 |mk (l:Addr) (qs:List LQ) (x:Int) (_:vs=[.ref l,.int x]) (_:PuA H l qs) (_:∀(a b c:Int) (t:Addr) (H':Hp),H t=none->iu (EQ qs) x a b c->Same H H'->H' t=some (.tup [.int a,.int b,.int c])->Q (.ref t) H')
inductive Q4 (K:FG) (vs:List V) (H:Hp) (Q:VK) (E:XK):Prop
 |mk (c:Int) (l:Addr) (qs:List LQ) (b:Bool) (_:vs=[.int c,.ref l,.bl b]) (_:PuA H l qs) (_:∀(z:Int) (H':Hp),Same H H'->Q (.int z) H')
inductive NS (K:FG) (vs:List V) (H:Hp) (Q:VK) (E:XK):Prop
 |mk (l:Addr) (qs:List LQ) (x:Int) (_:vs=[.ref l,.int x]) (_:PuA H l qs) (_:∀(a b c:Int) (H':Hp),iu (EQ qs) x a b c->Same H H'->Q (.int (x+c)) H')
inductive Ou (K:FG) (vs:List V) (H:Hp) (Q:VK) (E:XK):Prop
 |mk (l:Addr) (qs:List LQ) (x:Int) (_:vs=[.ref l,.int x]) (_:PuA H l qs) (_:∀(a b c:Int) (H':Hp),iu (EQ qs) x a b c->Same H H'->Q (.int (max (x+c) (a-1+b))) H')
inductive Os (K:FG) (vs:List V) (H:Hp) (Q:VK) (E:XK):Prop
 |mk (l:Addr) (qs:List LQ) (_:vs=[.ref l]) (_:PuA H l qs) (_:∀(p:Addr) (H':Hp),Same H H'->CkA H' p qs->Q (.ref p) H')
inductive Q6 (K:FG) (vs:List V) (H:Hp) (Q:VK) (E:XK):Prop
 |mk (p l:Addr) (qs:List LQ) (x:Int) (_:vs=[.ref p,.ref l,.int x]) (_:CkA H p qs) (_:PuA H l qs) (_:∀H',Same H H'->Q (.bl true) H')
inductive qV (K:FG) (vs:List V) (H:Hp) (Q:VK) (E:XK):Prop
 |mk (a:Addr) (ns:List Int) (_:vs=[.ref a]) (_:SqL K H a (ns.map V.int)) (_:ns.length<=63) (_:∀H',Q (.bl true) H')
theorem md_Last___init__{K:FG}{C f T:Addr}{od an tod:Option Addr}{sl tsl:Array (Option Value)}{oc kV dc pm cd ct:Value}{tn:Nat}{t0:Tok}(a:PySem.W.findIn K (.ref C) "__init__"=some (some (.ref f)))(i:PySem.W.isFn K (.ref f)=true)(l:K.lookup f=some ⟨oc,od,.func (PySem.W.fnOf "__init__" "Last.__init__" (i9 nZ) (iD nZ) (eQ nZ) (.ref T) kV dc pm an cd ct),sl⟩)(c:PySem.W.codeIn K cd "Last.__init__"=true)(k:PySem.W.keepIn K (.ref f)=true)(lt:K.lookup T=some ⟨.type "tuple",tod,.seq #[.int 0 t0] tn,tsl⟩):FnMD K C "__init__" "Last.__init__" nZ ["self","back"] [.int 0]:=
 Do (ds:=[.int 0 t0]) a i l c k (λs us X hl=>match us,(show us.length=2 by simpa using hl) with | [_,_],_=>PySem.W.binds_K X rfl lt rfl rfl rfl) (.cons ⟨()⟩ .nil) (λs us X hl=>match us,(show us.length=1 by simpa using hl) with | [_],_=>PySem.W.binds_K X rfl lt rfl rfl rfl)
theorem md_Clock___init__{K:FG}{C f T:Addr}{od an tod:Option Addr}{sl tsl:Array (Option Value)}{oc kV dc pm cd ct:Value}{tn:Nat}{t0:Tok}(a:PySem.W.findIn K (.ref C) "__init__"=some (some (.ref f)))(i:PySem.W.isFn K (.ref f)=true)(l:K.lookup f=some ⟨oc,od,.func (PySem.W.fnOf "__init__" "Clock.__init__" (i9 nk) (iD nk) (eQ nk) (.ref T) kV dc pm an cd ct),sl⟩)(c:PySem.W.codeIn K cd "Clock.__init__"=true)(k:PySem.W.keepIn K (.ref f)=true)(lt:K.lookup T=some ⟨.type "tuple",tod,.seq #[.int 0 t0] tn,tsl⟩):FnMD K C "__init__" "Clock.__init__" nk ["self","base"] [.int 0]:=
 Do (ds:=[.int 0 t0]) a i l c k (λs us X hl=>match us,(show us.length=2 by simpa using hl) with | [_,_],_=>PySem.W.binds_K X rfl lt rfl rfl rfl) (.cons ⟨()⟩ .nil) (λs us X hl=>match us,(show us.length=1 by simpa using hl) with | [_],_=>PySem.W.binds_K X rfl lt rfl rfl rfl)
theorem q_MONTH_LASTS{K:FG}{a:Addr}{od:Option Addr}{sl:Array (Option Value)}{n:Nat}{t0 t1 t2 t3 t4 t5 t6 t7 t8 t9 t10 t11:Tok}(l:K.lookup a=some ⟨.type "tuple",od,.seq #[.int 31 t0,.int 28 t1,.int 31 t2,.int 30 t3,.int 31 t4,.int 30 t5,.int 31 t6,.int 31 t7,.int 30 t8,.int 31 t9,.int 30 t10,.int 31 t11] n,sl⟩):∀H,SqT K H a (([31,28,31,30,31,30,31,31,30,31,30,31]:List Int).map V.int):=λH=>.inr ⟨_,_,_,l,rfl,rfl,(zL 12),(.cons ⟨()⟩ (.cons ⟨()⟩ (.cons ⟨()⟩ (.cons ⟨()⟩ (.cons ⟨()⟩ (.cons ⟨()⟩ (.cons ⟨()⟩ (.cons ⟨()⟩ (.cons ⟨()⟩ (.cons ⟨()⟩ (.cons ⟨()⟩ (.cons ⟨()⟩ .nil))))))))))))⟩
theorem q_BOUNDS{K:FG}{a b0 b1 b3:Addr}{ep:Nat}{t0 t1 t3:Tok}(l:K.lookup a=some ⟨.type "dict",none,.dict #[⟨0,.int 0 t0,.ref b0⟩,⟨1,.int 1 t1,.ref b1⟩,⟨3,.int 3 t3,.ref b3⟩] ep,#[]⟩):KD K a [(0,.ref b0),(1,.ref b1),(3,.ref b3)]:=by
 refine⟨_,ep,[(.inl 0,.ref b0),(.inl 1,.ref b1),(.inl 3,.ref b3)],l,(.cons ⟨rfl,rfl⟩ (.cons ⟨rfl,rfl⟩ (.cons ⟨rfl,rfl⟩ .nil))),(show ([.inl 0,.inl 1,.inl 3]:List fO).Nodup by decide),λP w=>⟨?_,(.cons rfl rfl (.cons rfl rfl (.cons rfl rfl .nil)))⟩⟩;intro e he;simp only[Array.mem_toArray,aT,cB,or_false] at he;rcases he with rfl | rfl | rfl
 ·exact⟨.inl 0,rfl,rfl⟩
 ·exact⟨.inl 1,rfl,rfl⟩
 ·exact⟨.inl 3,rfl,rfl⟩
theorem q_BOUNDS_0{K:FG}{a:Addr}{od:Option Addr}{sl:Array (Option Value)}{n:Nat}{t0 t1:Tok}(l:K.lookup a=some ⟨.type "tuple",od,.seq #[.int 0 t0,.int 59 t1] n,sl⟩):∀H,SqT K H a (([0,59]:List Int).map V.int):=λH=>.inr ⟨_,_,_,l,rfl,rfl,(zL 2),(.cons ⟨()⟩ (.cons ⟨()⟩ .nil))⟩
theorem q_BOUNDS_1{K:FG}{a:Addr}{od:Option Addr}{sl:Array (Option Value)}{n:Nat}{t0 t1:Tok}(l:K.lookup a=some ⟨.type "tuple",od,.seq #[.int 0 t0,.int 23 t1] n,sl⟩):∀H,SqT K H a (([0,23]:List Int).map V.int):=λH=>.inr ⟨_,_,_,l,rfl,rfl,(zL 2),(.cons ⟨()⟩ (.cons ⟨()⟩ .nil))⟩
theorem q_BOUNDS_3{K:FG}{a:Addr}{od:Option Addr}{sl:Array (Option Value)}{n:Nat}{t0 t1:Tok}(l:K.lookup a=some ⟨.type "tuple",od,.seq #[.int 1 t0,.int 12 t1] n,sl⟩):∀H,SqT K H a (([1,12]:List Int).map V.int):=λH=>.inr ⟨_,_,_,l,rfl,rfl,(zL 2),(.cons ⟨()⟩ (.cons ⟨()⟩ .nil))⟩
theorem mg_tx{K:FG}{h:Heap}{mg:Str->Option Value}{x n:Str}{l:List Nat}{t:Tok}(X:K.In h)(G:h.Ns mainGlobals mg)(e:x=Tx l)(a:PySem.W.nsIn K mainGlobals n=some (some (.str x t))):mg n=some (.str (Tx l) t):=e▸PySem.W.mg_of X G a
theorem Qx:eC ["year"] ["year"] (eQ (top 13)):=eX
theorem TJ:eC ["year","month"] ["year","month"] (eQ (top 16)):=eX
theorem PJ:eC ["thing"] ["thing"] (eQ (top 8)):=eX
theorem V5:eC ["day"] ["day"] (eQ (top 21)):=eX
theorem Um:eC ["year","month","day","place"] ["year","month","day"] (eQ (top 35)):=eX
theorem Qn:eC ["text"] ["text"] (eQ (top 24)):=eX
theorem Nd:eC ["text"] ["text"] (eQ (top 25)):=eX
theorem Ru:eC ["mask","number"] ["mask","number"] (eQ (top 41)):=eX
theorem Uq:eC ["numbers","mask","number"] ["numbers"] (eQ (top 52)):=eX
theorem M8:eC ["mask"] ["mask"] (eQ (top 53)):=eX
theorem Pn:eC ["first","last","stride"] ["first","last","stride"] (eQ (top 54)):=eX
theorem UC:eC ["text","low","high","number"] ["text","low","high"] (eQ (top 55)):=eX
theorem UE:eC ["text","low","high","ends"] ["text","low","high"] (eQ (top 56)):=eX
theorem UF:eC ["run_text","stride_text","low","high","run","stride","last"] ["run_text","stride_text","low","high"] (eQ (top 57)):=eX
theorem UA:eC ["item","low","high","parts","run"] ["item","low","high"] (eQ (top 58)):=eX
theorem Uz:eC ["text","low","high","items","mask","place","item","told"] ["text","low","high"] (eQ (top 59)):=eX
theorem Qh:eC ["day","first"] ["day","first"] (eQ (top 71)):=eX
theorem Vf:eC ["last"] ["last"] (eQ (top 72)):=eX
theorem Ut:eC ["day","last","first","of_week"] ["day","last","first"] (eQ (top 73)):=eX
theorem W8:eC ["weekday","first"] ["weekday","first"] (eQ (top 74)):=eX
theorem O1:eC ["self","last","first"] ["self","last","first"] (eQ Ez):=eX
theorem WO:eC ["self","mask"] ["self","mask"] (eQ Jg):=eX
theorem Wd:eC ["self","last","first"] ["self","last","first"] (eQ JK):=eX
theorem N6:eC ["self","back"] ["self","back"] (eQ nZ):=eX
theorem Om:eC ["self","last","first"] ["self","last","first"] (eQ K0):=eX
theorem QH:eC ["self","day"] ["self","day"] (eQ BO):=eX
theorem Od:eC ["self","last","first"] ["self","last","first"] (eQ Cb):=eX
theorem RE:eC ["self","last","first"] ["self","last","first"] (eQ LF):=eX
theorem QR:eC ["self","mask"] ["self","mask"] (eQ Dz):=eX
theorem U3:eC ["self","last","first","weeks","week"] ["self","last","first"] (eQ KU):=eX
theorem Si:eC ["self","weekday","many"] ["self","weekday","many"] (eQ JL):=eX
theorem U0:eC ["self","last","first","day"] ["self","last","first"] (eQ GE):=eX
theorem Qd:eC ["self","weekday"] ["self","weekday"] (eQ IF):=eX
theorem NB:eC ["self","last","first"] ["self","last","first"] (eQ AQ):=eX
theorem Ui:eC ["marks","last","first","mask","mark"] ["marks","last","first"] (eQ (top 83)):=eX
theorem Ux:eC ["item","back","day"] ["item"] (eQ (top 84)):=eX
theorem UG:eC ["text","number"] ["text"] (eQ (top 85)):=eX
theorem UH:eC ["item","weekday","parts","many"] ["item"] (eQ (top 86)):=eX
theorem UB:eC ["text","low","high","read_mark","items","mask","marks","place","item","plain","mark"] ["text","low","high","read_mark"] (eQ (top 87)):=eX
theorem Uy:eC ["text","read"] ["text"] (eQ (top 88)):=eX
theorem UI:eC ["text","read","mask"] ["text"] (eQ (top 89)):=eX
theorem Ur:eC ["kind","place","first"] ["kind"] (eQ (top 37)):=eX
theorem UL:eC ["hours","minutes","times","hour"] ["hours","minutes"] (eQ (top 99)):=eX
theorem Ul:eC ["days","weekdays","last","first","mask","marks"] ["days","weekdays","last","first"] (eQ (top 100)):=eX
theorem Ov:eC ["self","fields"] ["self","fields"] (eQ EW):=eX
theorem U1:eC ["self","kind","month"] ["self","kind"] (eQ LW):=eX
theorem UJ:eC ["word","place","bounds"] ["word","place"] (eQ (top 102)):=eX
theorem O2:eC ["word","place"] ["word","place"] (eQ (top 103)):=eX
theorem UD:eC ["text","words"] ["text"] (eQ (top 104)):=eX
theorem Oj:eC ["self"] ["self"] (eQ Ba):=eX
theorem Sb:eC ["mask"] ["mask"] (eQ (top 42)):=eX
theorem Tu:eC ["_law_script","_law_k"] ["_law_script","_law_k"] (eQ (top 121)):=eX
theorem Ud:eC ["_law_number","_law_first","_law_second"] ["_law_number"] (eQ (top 122)):=eX
theorem U4:eC ["_law_cell","_law_sizes","_law_mixed","_law_found","_law_size"] ["_law_cell","_law_sizes","_law_mixed"] (eQ (top 123)):=eX
theorem VG:eC ["_law_found"] ["_law_found"] (eQ (top 124)):=eX
theorem NN:eC ["row"] ["row"] (eQ (top 61)):=eX
theorem Us:eC ["found","day","year","month","kind"] [] (eQ (top 38)):=eX
theorem Uu:eC ["table","moment","low","high","middle"] ["table","moment"] (eQ (top 115)):=eX
theorem Uj:eC ["table","earlier","later"] ["table"] (eQ (top 112)):=eX
theorem Uv:eC ["puts","kind","found","row","offset","time","day"] ["puts","kind"] (eQ (top 113)):=eX
theorem Uw:eC ["puts","pages","page","table","day","kind","minute","offset"] ["puts"] (eQ (top 114)):=eX
theorem V7:eC ["offset"] ["offset"] (eQ (top 109)):=eX
theorem Uk:eC ["put","times"] ["put"] (eQ (top 110)):=eX
theorem QF:eC ["puts"] ["puts"] (eQ (top 111)):=eX
theorem R3:eC ["self","base"] ["self","base"] (eQ nk):=eX
theorem RT:eC ["self","true"] ["self","true"] (eQ DP):=eX
theorem Nu:eC ["self","true"] ["self","true"] (eQ JN):=eX
theorem Qp:eC ["self","puts"] ["self","puts"] (eQ zH):=eX
theorem U2:eC ["self","true","passed","place","start","put"] ["self","true"] (eQ zl):=eX
theorem UK:eC ["clock","local","put","early"] ["clock","local"] (eQ (top 119)):=eX
theorem TY:eC ["_law_year_here"] ["_law_year_here"] (eQ (top 125)):=eX
theorem T5:eC ["_law_year_here","_law_month"] ["_law_year_here","_law_month"] (eQ (top 126)):=eX
theorem Uh:eC ["_law_number","_law_year_here"] ["_law_number"] (eQ (top 127)):=eX
theorem U8:eC ["_law_parts","_law_month","_law_minute","_law_hour","_law_sort","_law_day","_law_named","_law_number","_law_on","_law_days","_law_names","_law_text"] ["_law_parts","_law_month"] (eQ (top 128)):=eX
theorem Ug:eC ["_law_parts","_law_named","_law_text"] ["_law_parts","_law_named"] (eQ (top 129)):=eX
theorem U7:eC ["_law_parts","_law_day","_law_text"] ["_law_parts","_law_day"] (eQ (top 130)):=eX
theorem Ub:eC ["_law_parts","_law_text"] ["_law_parts"] (eQ (top 131)):=eX
theorem Ua:eC ["_law_cells","_law_mixed","_law_drawn","_law_parts","_law_named","_law_day","_law_left"] ["_law_cells","_law_mixed"] (eQ (top 132)):=eX
theorem U5:eC ["_law_put_here","_law_year_here","_law_text","_law_time","_law_sort","_law_number","_law_named","_law_month","_law_on","_law_first","_law_ends","_law_day"] ["_law_put_here","_law_year_here"] (eQ (top 133)):=eX
theorem U6:eC ["_law_put_here","_law_true_here","_law_last_here","_law_year_here","_law_found","_law_back","_law_moment"] ["_law_put_here","_law_true_here"] (eQ (top 134)):=eX
theorem U9:eC ["_law_puts_here","_law_true_here","_law_found","_law_put_here"] ["_law_puts_here","_law_true_here"] (eQ (top 135)):=eX
theorem Uf:eC ["_law_cell","_law_puts_here","_law_mixed","_law_near","_law_year_here","_law_at","_law_on","_law_moment"] ["_law_cell","_law_puts_here","_law_mixed"] (eQ (top 138)):=eX
theorem Oi:eC ["_law_puts_here","_law_true_here"] ["_law_puts_here","_law_true_here"] (eQ (top 136)):=eX
theorem Ue:eC ["_law_puts_here","_law_true_here","_law_moment","_law_ahead","_law_behind"] ["_law_puts_here","_law_true_here"] (eQ (top 137)):=eX
theorem Ra:eC ["_law_puts_here"] ["_law_puts_here"] (eQ (top 139)):=eX
theorem Uc:eC ["_law_clock_here","_law_puts_here","_law_local_here","_law_found"] ["_law_clock_here","_law_puts_here","_law_local_here"] (eQ (top 140)):=eX
theorem Uo:eC ["_law_script","_law_mixed","_law_puts_here","_law_clock_here","_law_base","_law_k","_law_true_here","_law_put_here","_law_local_here"] ["_law_script"] (eQ (top 141)):=eX
structure Fs(K:FG)(mg:Str->Option Value)(aL aK a_MONTH_LASTS a_BOUNDS a_BOUNDS_0 a_BOUNDS_1 a_BOUNDS_3:Addr)(t_ROUND_DAYS t_ROUND_YEARS t_LONG_PLACE t_DAY_MINUTES t_HOUR_MINUTES t_FIGURES t_MOST_STRIDE t_MOST_SIGNS t_MOST_ITEMS t_SATURDAY t_SUNDAY t_MOST_BACK t_MOST_DAY t_SUNDAY_TOO t_MOST_NTH t_MOST_MARKS t_ALL_WEEKDAYS t_LONG_LAST t_SHORT_YEAR t_MINUTE t_HOUR t_DAY t_MONTH t_WEEKDAY t_MOST_ROW_SIGNS t_NO_PLACE t_KINDS t_LEAST_BETWEEN t_ROUND t_MOST_OFFSET t_MOST_PUTS:Tok):Prop where
 ev:Cd K mg "Mark" aO
 e3:PySem.W.findIn K (.ref aO) "__init__"=some (some (.builtin "object.__init__"))
 an:Cd K mg "Numbers" aF
 a5:PySem.W.findIn K (.ref aF) "mask"=some none
 ao:Cd K mg "Last" aH
 au:PySem.W.findIn K (.ref aH) "back"=some none
 ax:Cd K mg "Near" aI
 ay:PySem.W.findIn K (.ref aI) "day"=some none
 bf:Cd K mg "LastWork" aM
 dz:PySem.W.findIn K (.ref aM) "__init__"=some (some (.builtin "object.__init__"))
 ak:Cd K mg "Weekdays" aG
 az:PySem.W.findIn K (.ref aG) "mask"=some none
 a0:Cd K mg "Nth" aE
 a7:PySem.W.findIn K (.ref aE) "weekday"=some none
 bg:PySem.W.findIn K (.ref aE) "many"=some none
 ap:Cd K mg "LastOne" aJ
 ar:PySem.W.findIn K (.ref aJ) "weekday"=some none
 ab:Cd K mg "Row" aA
 as:PySem.W.findIn K (.ref aA) "minute_mask"=some none
 a1:PySem.W.findIn K (.ref aA) "hour_mask"=some none
 a2:PySem.W.findIn K (.ref aA) "day_marks"=some none
 aw:PySem.W.findIn K (.ref aA) "month_mask"=some none
 al:PySem.W.findIn K (.ref aA) "weekday_marks"=some none
 a3:PySem.W.findIn K (.ref aA) "time_mask"=some none
 aq:Cd K mg "Clock" aD
 ba:PySem.W.findIn K (.ref aD) "base"=some none
 af:Cd K mg "Shifted" aB
 a6:PySem.W.findIn K (.ref aB) "puts"=some none
 ag:PySem.W.findIn K (.ref aB) "table"=some none
 am:mg "read_weekday_mark"=some (.ref aL)
 a4:mg "read_day_mark"=some (.ref aK)
 ew:IsC K aA
 ex:PySem.W.kitOne K (.ref aA) (.ref aA)=some true
 cs:mg "MONTH_LASTS"=some (.ref a_MONTH_LASTS)
 a8:∀H,SqT K H a_MONTH_LASTS (([31,28,31,30,31,30,31,31,30,31,30,31]:List Int).map V.int)
 e4:mg "ROUND_DAYS"=some (.int 146097 t_ROUND_DAYS)
 ct:mg "ROUND_YEARS"=some (.int 400 t_ROUND_YEARS)
 bb:mg "LONG_PLACE"=some (.int 12 t_LONG_PLACE)
 a9:mg "DAY_MINUTES"=some (.int 1440 t_DAY_MINUTES)
 cb:mg "HOUR_MINUTES"=some (.int 60 t_HOUR_MINUTES)
 eh:mg "FIGURES"=some (.str (Tx [48,49,50,51,52,53,54,55,56,57]) t_FIGURES)
 cu:mg "MOST_STRIDE"=some (.int 99 t_MOST_STRIDE)
 bc:mg "MOST_SIGNS"=some (.int 300 t_MOST_SIGNS)
 ai:mg "MOST_ITEMS"=some (.int 40 t_MOST_ITEMS)
 d0:mg "SATURDAY"=some (.int 6 t_SATURDAY)
 bv:mg "SUNDAY"=some (.int 0 t_SUNDAY)
 dg:mg "MOST_BACK"=some (.int 30 t_MOST_BACK)
 bh:mg "MOST_DAY"=some (.int 31 t_MOST_DAY)
 aj:mg "SUNDAY_TOO"=some (.int 7 t_SUNDAY_TOO)
 d1:mg "MOST_NTH"=some (.int 5 t_MOST_NTH)
 c3:mg "MOST_MARKS"=some (.int 20 t_MOST_MARKS)
 cc:mg "ALL_WEEKDAYS"=some (.int 127 t_ALL_WEEKDAYS)
 dh:mg "LONG_LAST"=some (.int 29 t_LONG_LAST)
 c4:mg "SHORT_YEAR"=some (.int 1 t_SHORT_YEAR)
 eq:mg "MINUTE"=some (.int 0 t_MINUTE)
 ey:mg "HOUR"=some (.int 1 t_HOUR)
 d2:mg "DAY"=some (.int 2 t_DAY)
 et:mg "MONTH"=some (.int 3 t_MONTH)
 bo:mg "WEEKDAY"=some (.int 4 t_WEEKDAY)
 er:mg "BOUNDS"=some (.ref a_BOUNDS)
 bd:KD K a_BOUNDS [(0,.ref a_BOUNDS_0),(1,.ref a_BOUNDS_1),(3,.ref a_BOUNDS_3)]
 bi:∀H,SqT K H a_BOUNDS_0 (([0,59]:List Int).map V.int)
 bj:∀H,SqT K H a_BOUNDS_1 (([0,23]:List Int).map V.int)
 bk:∀H,SqT K H a_BOUNDS_3 (([1,12]:List Int).map V.int)
 bw:mg "MOST_ROW_SIGNS"=some (.int 1600 t_MOST_ROW_SIGNS)
 d3:mg "NO_PLACE"=some (.int 5 t_NO_PLACE)
 cd:mg "KINDS"=some (.int 91 t_KINDS)
 b2:mg "LEAST_BETWEEN"=some (.int 4320 t_LEAST_BETWEEN)
 be:mg "ROUND"=some (.int 210379680 t_ROUND)
 ah:mg "MOST_OFFSET"=some (.int 720 t_MOST_OFFSET)
 di:mg "MOST_PUTS"=some (.int 4 t_MOST_PUTS)
 bl:mg "int"=none
 aa:mg "isinstance"=none
 c5:mg "bool"=none
 ad:mg "range"=none
 ez:mg "sum"=none
 d4:mg "all"=none
 bp:mg "list"=none
 ae:mg "len"=none
 ac:mg "str"=none
 av:mg "enumerate"=none
 e0:mg "abs"=none
 e1:mg "zip"=none
 bx:mg "sorted"=none
 ce:mg "tuple"=none
 d5:mg "max"=none
 ei:Fn K mg "is_long" (top 13) ["year"]
 e5:Fn K mg "multiples_before" (top 14) ["year","step"]
 e6:Fn K mg "days_before" (top 15) ["year"]
 ej:Fn K mg "last_of" (top 16) ["year","month"]
 d6:Fn K mg "is_whole" (top 8) ["thing"]
 e7:Fn K mg "is_date" (top 17) ["year","month","day"]
 e8:Fn K mg "day_of" (top 18) ["year","month","day"]
 e9:Fn K mg "year_of" (top 19) ["day"]
 fa:Fn K mg "date_of" (top 20) ["day"]
 ek:Fn K mg "weekday" (top 21) ["day"]
 dj:Fn K mg "kind_from" (top 35) ["year","month","day"]
 fb:Fn K mg "kind_of" (top 36) ["year","month"]
 fc:Fn K mg "parted" (top 29) ["moment"]
 cv:Fn K mg "all_figures" (top 24) ["text"]
 c6:Fn K mg "is_written" (top 25) ["text"]
 e2:Fn K mg "has" (top 41) ["mask","number"]
 el:Fn K mg "mask_of" (top 52) ["numbers"]
 c7:Fn K mg "numbers_in" (top 53) ["mask"]
 d7:Fn K mg "run_mask" (top 54) ["first","last","stride"]
 cw:Fn K mg "read_number" (top 55) ["text","low","high"]
 d8:Fn K mg "read_run" (top 56) ["text","low","high"]
 cf:Fn K mg "read_strided" (top 57) ["run_text","stride_text","low","high"]
 dk:Fn K mg "read_item" (top 58) ["item","low","high"]
 c8:Fn K mg "read_field" (top 59) ["text","low","high"]
 c9:Fn K mg "weekday_at" (top 71) ["day","first"]
 d9:Fn K mg "all_days" (top 72) ["last"]
 cg:Fn K mg "nearest_work" (top 73) ["day","last","first"]
 dl:Fn K mg "first_one" (top 74) ["weekday","first"]
 dm:FnM K aO "days" "Mark.days" Ez ["self","last","first"]
 bq:FnM K aF "__init__" "Numbers.__init__" Jg ["self","mask"]
 ch:FnM K aF "days" "Numbers.days" JK ["self","last","first"]
 b3:FnMD K aH "__init__" "Last.__init__" nZ ["self","back"] [.int 0]
 dn:FnM K aH "days" "Last.days" K0 ["self","last","first"]
 b4:FnM K aI "__init__" "Near.__init__" BO ["self","day"]
 dp:FnM K aI "days" "Near.days" Cb ["self","last","first"]
 b5:FnM K aM "days" "LastWork.days" LF ["self","last","first"]
 bm:FnM K aG "__init__" "Weekdays.__init__" Dz ["self","mask"]
 b6:FnM K aG "days" "Weekdays.days" KU ["self","last","first"]
 ci:FnM K aE "__init__" "Nth.__init__" JL ["self","weekday","many"]
 ea:FnM K aE "days" "Nth.days" GE ["self","last","first"]
 br:FnM K aJ "__init__" "LastOne.__init__" IF ["self","weekday"]
 cj:FnM K aJ "days" "LastOne.days" AQ ["self","last","first"]
 eb:Fn K mg "any_days" (top 83) ["marks","last","first"]
 b7:Fn K mg "read_day_mark" (top 84) ["item"]
 ck:Fn K mg "read_weekday" (top 85) ["text"]
 bn:Fn K mg "read_weekday_mark" (top 86) ["item"]
 da:Fn K mg "read_items" (top 87) ["text","low","high","read_mark"]
 dq:Fn K mg "read_days" (top 88) ["text"]
 b8:Fn K mg "read_weekdays" (top 89) ["text"]
 ec:Fn K mg "month_at" (top 37) ["kind"]
 ed:Fn K mg "times_of" (top 99) ["hours","minutes"]
 em:Fn K mg "days_by" (top 100) ["days","weekdays","last","first"]
 cl:FnM K aA "__init__" "Row.__init__" EW ["self","fields"]
 cx:FnM K aA "days_in" "Row.days_in" LW ["self","kind"]
 dr:Fn K mg "read_word" (top 102) ["word","place"]
 en:Fn K mg "read_at" (top 103) ["word","place"]
 ee:Fn K mg "read_row" (top 104) ["text"]
 ds:FnM K aA "times" "Row.times" Ba ["self"]
 es:Fn K mg "lowest" (top 42) ["mask"]
 cm:Fn K mg "_law_cell_at" (top 121) ["_law_script","_law_k"]
 dt:Fn K mg "_law_stir" (top 122) ["_law_number"]
 cy:Fn K mg "_law_digits" (top 123) ["_law_cell","_law_sizes","_law_mixed"]
 db:Fn K mg "_law_whole" (top 124) ["_law_found"]
 eu:Fn K mg "never" (top 61) ["row"]
 bt:Fn K mg "months_of_round" (top 38) []
 cz:Fn K mg "place_up_to" (top 115) ["table","moment"]
 b9:Fn K mg "check_between" (top 112) ["table"]
 eo:Fn K mg "puts_in" (top 113) ["puts","kind"]
 ca:Fn K mg "puts_of_round" (top 114) ["puts"]
 bz:Fn K mg "checked_offset" (top 109) ["offset"]
 c0:Fn K mg "checked_put" (top 110) ["put"]
 cn:Fn K mg "checked_puts" (top 111) ["puts"]
 b0:FnMD K aD "__init__" "Clock.__init__" nk ["self","base"] [.int 0]
 bu:FnM K aD "offset_at" "Clock.offset_at" DP ["self","true"]
 fd:FnM K aD "local" "Clock.local" SH ["self","true"]
 co:FnM K aD "put_at" "Clock.put_at" JN ["self","true"]
 bs:FnM K aB "__init__" "Shifted.__init__" zH ["self","puts"]
 b1:FnM K aB "put_at" "Shifted.put_at" zl ["self","true"]
 fe:FnM K aB "offset_at" "Shifted.offset_at" TZ ["self","true"]
 ff:FnM K aB "local" "Shifted.local" So ["self","true"]
 ep:Fn K mg "ring_of" (top 119) ["clock","local"]
 dc:Fn K mg "_law_start" (top 125) ["_law_year_here"]
 du:Fn K mg "_law_last" (top 126) ["_law_year_here","_law_month"]
 dv:Fn K mg "_law_year" (top 127) ["_law_number"]
 ef:Fn K mg "_law_put" (top 128) ["_law_parts","_law_month"]
 c1:Fn K mg "_law_weekly" (top 129) ["_law_parts","_law_named"]
 cp:Fn K mg "_law_monthly" (top 130) ["_law_parts","_law_day"]
 dw:Fn K mg "_law_rare" (top 131) ["_law_parts"]
 dx:Fn K mg "_law_puts" (top 132) ["_law_cells","_law_mixed"]
 cq:Fn K mg "_law_in_year" (top 133) ["_law_put_here","_law_year_here"]
 cr:Fn K mg "_law_moments" (top 134) ["_law_put_here","_law_true_here"]
 c2:Fn K mg "_law_put_at" (top 135) ["_law_puts_here","_law_true_here"]
 dy:Fn K mg "_law_true" (top 138) ["_law_cell","_law_puts_here","_law_mixed"]
 dd:Fn K mg "_law_local" (top 136) ["_law_puts_here","_law_true_here"]
 eg:Fn K mg "_law_top" (top 137) ["_law_puts_here","_law_true_here"]
 de:Fn K mg "_law_clock" (top 139) ["_law_puts_here"]
 df:Fn K mg "_law_right" (top 140) ["_law_clock_here","_law_puts_here","_law_local_here"]
section
set_option maxHeartbeats 4000000
variable{P:Program}{w:World}{K:FG}{mg:Str->Option Value}{base:Heap}{aL aK a_MONTH_LASTS a_BOUNDS a_BOUNDS_0 a_BOUNDS_1 a_BOUNDS_3:Addr}{t_ROUND_DAYS t_ROUND_YEARS t_LONG_PLACE t_DAY_MINUTES t_HOUR_MINUTES t_FIGURES t_MOST_STRIDE t_MOST_SIGNS t_MOST_ITEMS t_SATURDAY t_SUNDAY t_MOST_BACK t_MOST_DAY t_SUNDAY_TOO t_MOST_NTH t_MOST_MARKS t_ALL_WEEKDAYS t_LONG_LAST t_SHORT_YEAR t_MINUTE t_HOUR t_DAY t_MONTH t_WEEKDAY t_MOST_ROW_SIGNS t_NO_PLACE t_KINDS t_LEAST_BETWEEN t_ROUND t_MOST_OFFSET t_MOST_PUTS:Tok}(ZZ:Fs K mg aL aK a_MONTH_LASTS a_BOUNDS a_BOUNDS_0 a_BOUNDS_1 a_BOUNDS_3 t_ROUND_DAYS t_ROUND_YEARS t_LONG_PLACE t_DAY_MINUTES t_HOUR_MINUTES t_FIGURES t_MOST_STRIDE t_MOST_SIGNS t_MOST_ITEMS t_SATURDAY t_SUNDAY t_MOST_BACK t_MOST_DAY t_SUNDAY_TOO t_MOST_NTH t_MOST_MARKS t_ALL_WEEKDAYS t_LONG_LAST t_SHORT_YEAR t_MINUTE t_HOUR t_DAY t_MONTH t_WEEKDAY t_MOST_ROW_SIGNS t_NO_PLACE t_KINDS t_LEAST_BETWEEN t_ROUND t_MOST_OFFSET t_MOST_PUTS)
include ZZ
theorem x8:Dx P w base ZZ.ei 1 (Xe K):=by
 refine ZZ.ei.dfs Qx (by trivial) ?_;rintro _ _ _ _ s H _ Q E hr⟨y,rfl,q⟩;refine⟨_,(eG (eP (mS (iU fZ (eE fW Y0 eI) eI) (ka (qH (iU lr (eE fW Y0 eI) eI) (ka (iU fZ (eE fW Y0 eI) eI))))))),?_⟩;refine⟨(),(()),(by show (0:Int)<4;decide),rfl,(),?_⟩;refine f6 (λc1=>?_) (λc1=>?_)
 ·refine⟨(),(()),(by show (0:Int)<100;decide),rfl,(),?_⟩;refine qJ (λc2=>?_) (λc2=>?_)
  ·rw[Jd ⟨c1,.inl c2⟩] at q;exact q
  ·refine⟨(),(()),(by show (0:Int)<400;decide),rfl,?_⟩;by_cases c3:y%400=0
   ·rw[Jd ⟨c1,.inr c3⟩] at q;show Q (.bl (decide (V.int (y%400)=V.int 0))) H;rw[dZ (int_eq.mpr c3)];exact q
   ·rw[C2 ⋯] at q;show Q (.bl (decide (V.int (y%400)=V.int 0))) H;rw[d7 λe=>c3 (int_eq.mp e)];exact q
 ·rw[C2 ⋯] at q;exact q
theorem Gc:Dx P w base ZZ.ej 2 (Rt K):=by
 refine ZZ.ej.dfs TJ (by trivial) ?_;rintro _ _ _ _ s H _ Q E hr⟨y,m,rfl,⟨h1,h2⟩,q⟩;refine⟨_,(eH (fo (tW (rf (eZ fZ Y1 eI) (qm (g9 (eD (x8 ZZ) hr (A1 Y0)))))) (eG (eP eI)) ft) (eG (eP (eK (fJ (K:=K)) (fF (v:=.ref a_MONTH_LASTS) ZZ.cs rfl) (eE fG Y1 eI))))),?_⟩;extract_lets;refine⟨(),rfl,(),?_⟩;refine f6 (λc1=>?_) (λc1=>?_)
 ·refine⟨(),(),(),?_⟩;by_cases c2:gD y=true
  ·have e:fH y m=29:=by unfold fH iF;rw[if_pos c1,if_pos c2];rfl
   rw[e] at q;show if gD y=true then _ else _
   rw[if_pos c2];exact q
  ·have e:fH y m=lasts.getD (m-1).toNat 0:=by unfold fH iF;rw[if_pos c1,if_neg c2,c1];rfl
   rw[e] at q;show if gD y=true then _ else _
   rw[if_neg c2];refine⟨(),(()),a_MONTH_LASTS,_,(()),ZZ.a8 H,vp h1 h2,?_⟩;exact q
 ·have e:fH y m=lasts.getD (m-1).toNat 0:=by unfold fH;rw[if_neg c1]
  rw[e] at q;refine fN ?_;refine⟨(),(()),a_MONTH_LASTS,_,(()),ZZ.a8 H,vp h1 h2,?_⟩;exact q
theorem QS:Dx P w base ZZ.d6 1 (Wh K):=by
 refine ZZ.d6.dfs PJ (by trivial) ?_;rintro _ _ _ _ s H _ Q E hr⟨v,k,rfl,hk,q⟩;refine⟨_,(eG (eP (mS (gh mJ ZZ.aa PyProof.Rows.boot_isinstance (A2 Y0 (k9 ZZ.bl PyProof.Rows.boot_int))) (ka (Jt (gh mJ ZZ.aa PyProof.Rows.boot_isinstance (A2 Y0 (k9 ZZ.c5 PyProof.Rows.boot_bool)))))))),?_⟩;refine⟨(),v,.int,k,rfl,(by decide),hk,(),?_⟩;cases k with
 |int=>exact gH ⟨(),v,.bool,.int,rfl,(by decide),hk,(),q⟩
 |bool=>exact gH ⟨(),v,.bool,.bool,rfl,(by decide),hk,(),q⟩
 |str=>exact fN q
 |non=>exact fN q
 |list=>exact fN q
 |tuple=>exact fN q
 |dict=>exact fN q
theorem PR:Dx P w base ZZ.ek 1 (RU K):=by
 refine ZZ.ek.dfs V5 (by trivial) ?_;rintro _ _ _ _ s H _ Q E hr⟨d,rfl,q⟩;refine⟨_,(eG (eP (eE fW (eE fq Y0 eI) eI))),?_⟩;exact⟨(),(()),(()),(by show (0:Int)<7;decide),q⟩
theorem OK:Dx P w base ZZ.dj 2 (Tc K):=by
 refine ZZ.dj.dfs Um (by trivial) ?_;rintro _ _ _ _ s H _ Q E hr⟨y,m,d,rfl,q⟩;refine⟨_,(eH (eU 3 (lc (tW (rf (eZ fZ Y1 eI) (qm (g9 (eD (x8 ZZ) hr (A1 Y0)))))) (fF (v:=.int 12) ZZ.bb ⟨()⟩) (eE fG Y1 eI)) Um.nd) (eG (eP (eE fq (eE g6 eI Y3) (eD (PR ZZ) hr (A1 Y2)))))),?_⟩;extract_lets;have q':∀pl:Int,iW y m=pl->Q (.int (7*pl+(d+6)%7)) H:=λpl e=>by
  rw[←e];exact q
 refine⟨(),rfl,(),?_⟩;refine f6 (λc1=>⟨(),(),(),?_⟩) (λc1=>fN ?_)
 ·by_cases c2:gD y=true
  ·show if gD y=true then _ else _
   rw[if_pos c2];exact⟨(),(()),.inl ⟨by decide,by decide⟩,(),(),(()),q' _ (by unfold iW;rw[if_pos ⟨c1,c2⟩])⟩
  ·show if gD y=true then _ else _
   rw[if_neg c2];exact⟨(),(()),(),(()),.inl ⟨by decide,by decide⟩,(),(),(()),q' _ (by unfold iW;rw[if_neg λz=>c2 z.2])⟩
 ·exact⟨(),(()),(),(()),.inl ⟨by decide,by decide⟩,(),(),(()),q' _ (by unfold iW;rw[if_neg λz=>c1 z.1])⟩
theorem Xx:Dx P w base ZZ.cv 1 (Ow K):=by
 refine ZZ.cv.dfs Qn (by trivial) ?_;rintro _ _ _ _ s H _ Q E hr⟨l,rfl,hl,q⟩;refine⟨_,(eG (eP (mS (iU lr Y0 (gp [])) (ka (gh Ed ZZ.d4 boot_all (A1 (kn [] [] (iX Y0) (λ_ _ _ _ _ _=>jN) (λ_ _ _ _ _ _=>(iU rJ Y0 (fF (v:=.str (Tx [48,49,50,51,52,53,54,55,56,57])) ZZ.eh ⟨()⟩)))))))))),?_⟩;refine⟨(),rfl,(),?_⟩;rw[oZ l []];by_cases c:l=[]
 ·rw[dZ c];have e:l9 l=false:=by unfold l9;rw[dZ c];rfl
  rw[e] at q;exact fN (q H (Same.refl H))
 ·rw[d7 c];have e:l9 l=l.all kh:=by unfold l9;rw[d7 c];rfl
  rw[e] at q;refine gH ⟨(),Tx l,rfl,UP (xs:=l) (λi z=>z=((l.take i).map kh).map V.bl) (by rw[dW];omega) rfl ?_ ?_⟩
  ·intro i ch z D H2 E' F' hv hR hD s2 hz hE hF;subst hR;refine⟨(),ch,qZ,rfl,rfl,?_⟩;rw[XA];exact hE _ _ (Same.refl _) (by rw[b7,hv,bE,bE];rfl)
  ·intro D H2 z hR hD s2 hz;subst hR;rw[bW] at hz;refine⟨D,l.map kh,rfl,SqL.of hz,?_⟩;rw[List.all_map];exact q H2 s2
theorem zt:Dx P w base ZZ.c6 2 (OS K):=by
 refine ZZ.c6.dfs Nd (by trivial) ?_;rintro _ _ _ _ s H _ Q E hr⟨l,rfl,hl,q⟩;refine⟨_,(eG (eP (mS (eD (Xx ZZ) hr (A1 Y0)) (ka (qH (iU fZ Y0 (gp [48])) (ka (iU lr (eK xX Y0 eI) (gp [48])))))))),?_⟩;refine⟨(),l,rfl,hl,λH1 s1=>⟨(),?_⟩⟩;refine Eh (λc=>?_) (λc=>?_)
 ·have hne:l≠[]:=λe=>by
   unfold l9 at c;rw[dZ e] at c;exact absurd (show false=true from c) bA
  refine⟨(),rfl,(),?_⟩;rw[oZ l [48]];by_cases c2:l=[48]
  ·rw[dZ c2];have e:iJ l=true:=by unfold iJ;rw[c,dZ c2];rfl
   rw[e] at q;exact gH (q H1 s1)
  ·rw[d7 c2];obtain⟨x,r,rfl⟩:∃x r,l=x::r:=by
    cases l with
    |nil=>exact absurd rfl hne
    |cons x r=>exact⟨x,r,rfl⟩
   refine fN ⟨(),x::r,0,x,rfl,rfl,(by rw[dW];omega),(show gK (x::r) ((0:Nat):Int)=some x from lV rfl),rfl,?_⟩;rw[oZ [x] [48]];have e:iJ (x::r)= !decide ([x]=[48]):=by
    unfold iJ;rw[c,d7 c2];show (!decide (x=48))=_;rw[decide_eq_decide.mpr (show x=48↔[x]=[48] by simp)]
   rw[e] at q;exact q H1 s1
 ·have e:iJ l=false:=by unfold iJ;rw[c];rfl
  rw[e] at q;exact q H1 s1
theorem Gk:Dx P w base ZZ.e2 1 (UU K):=by
 refine ZZ.e2.dfs Ru (by trivial) ?_;rintro _ _ _ _ s H _ Q E hr⟨m,n,rfl,h0,q⟩;refine⟨_,(eG (eP (iU fZ (eE m6 (eE uv Y0 Y1) eI) eI))),?_⟩;refine⟨(),(),(()),h0.2,(()),rfl,?_⟩;have e:decide (V.int (Builtin.bitAnd (m / 2^n.toNat) 1)=V.int 1)=tb m n.toNat:=by
  rw[←P4 h0.1];exact decide_eq_decide.mpr int_eq
 show Q (.bl (decide (V.int (Builtin.bitAnd (m / 2^n.toNat) 1)=V.int 1))) H;rw[e];exact q
theorem Vv:Dx P w base ZZ.el 1 (XI K):=by
 refine ZZ.el.dfs Uq (by trivial) ?_;rintro _ _ _ _ s H _ Q E hr⟨a,zs,rfl,hS,hz,q⟩;refine⟨_,(eH (eU 1 eI Uq.nd) (eH (io (i8 (K:=K) Y0) (gN 2 Uq.nd) (eG (eU 1 (eE lK Y1 (eE kD eI Y2)) Uq.nd)) PassesOwn.never) (eG (eP Y1)))),?_⟩;extract_lets;refine⟨(),a,rfl,⟨_,hS⟩,kE (K:=K) (a:=a) (xs:=zs.map V.int) (λi σ H2=>H2=H/\∃u:Option V,σ=[some (.ref a),some (.int (fE (zs.take i))),u]) ⟨rfl,()⟩ (λi σ H2 _ hP=>by rw[hP.1];exact hS) ?_ ?_⟩
 ·rintro i x σ H2 hx ⟨rfl,u,rfl⟩;rw[bG] at hx;cases ez:zs[i]? with
  |none=>rw[ez] at hx;cases hx
  |some z=>
   rw[ez] at hx;obtain rfl:V.int z=x:=a8 hx;have h:=hz z (aY ez);have et:fE (zs.take (i+1))=Builtin.bitOr (fE (zs.take i)) (1*2^z.toNat):=by
    rw[b7,ez,←Dk];rfl
   exact⟨(),(),(()),⟨h.1,⋯,by decide⟩,(()),rfl,_,by rw[et];rfl⟩
 ·rintro σ H2 ⟨rfl,u,rfl⟩;rw[aQ,bW];exact⟨(),q⟩
theorem D1:Dx P w base ZZ.c7 2 (VW K):=by
 refine ZZ.c7.dfs M8 (by trivial) ?_;rintro _ _ _ _ s H _ Q E hr⟨m,rfl,hm,q⟩;refine⟨_,(eG (eP (kn ["mask"] [0] (lZ ZZ.ad (A1 (Dt Y0))) (λ_ _ _ _ _ _=>(Pz (g9 (eD (Gk ZZ) hr (A2 Y1 Y0))))) (λ_ _ _ _ _ _=>Y0)))),?_⟩;refine⟨(),rfl,(),rfl,(),⋯,⋯,pQ (λi z=>z=(flt (tb m) 0 i).map V.int) (by rw[dW,bS];omega) Sa ?_ ?_⟩
 ·intro i z D H2 E' F' hi hR hD s2 hz hE hF;subst hR;refine⟨(),(),_,(),⟨hm.1,⋯⟩,(),?_⟩;have e0:(0+(i:Int)).toNat=i:=⋯;show if tb m (0+(i:Int)).toNat=true then _ else _
  rw[e0];by_cases c:tb m i=true
  ·rw[if_pos c];exact⟨(),hE _ _ (Same.refl _) (by rw[q0 c,bE];rfl)⟩
  ·rw[if_neg c];exact hF _ (Same.refl _) (by rw[oQ (by simpa using c)])
 ·intro D H2 z hR hD s2 hz;subst hR;rw[bS] at hz;exact q D H2 s2 hz
theorem xN:Dx P w base ZZ.d7 2 (Vc K):=by
 refine ZZ.d7.dfs Pn (by trivial) ?_;rintro _ _ _ _ s H _ Q E hr⟨a,b,st,rfl,ha,hb,hs,q⟩;refine⟨_,(eG (eP (eD (Vv ZZ) hr (A1 (gQ CU ZZ.bp PyProof.Rows.boot_list (A1 (gQ uY ZZ.ad boot_range (A3 Y0 (eE fq Y1 eI) Y2)))))))),?_⟩;obtain⟨n1,n2⟩:=Hg ha.1 hb.2 hs.1;have bd:∀z∈gY a b st,0<=z/\z<=100000:=λz hz=>by
  have:=(ud hs.1).mp hz;omega
 refine⟨(),(),(()),(),_,_,(),⟨hs.1,⋯⟩,λp hp=>⟨p,a,b+1,st,(Builtin.Range.rangeSize a (b+1) st).toNat,rfl,eJ,Te ha.1 ha.2 hb.1 hb.2 hs.1 hs.2,n2,⋯,λl hl=>⟨l,gY a b st,rfl,SqL.of (by rw[qr,List.map_map];exact eJ),bd,?_⟩⟩⟩;exact q _ ((eS hp _).trans (eS hl _))
theorem nj:Dx P w base ZZ.cw 3 (Vp K):=by
 refine ZZ.cw.dfs UC (by trivial) ?_;rintro _ _ _ _ s H _ Q E hr⟨l,lo,hi,rfl,hl,q⟩;refine⟨_,(eH (fo (jt (g9 (eD (zt ZZ) hr (A1 Y0)))) (eG (eP eN)) ft) (eH (eU 3 (gQ O7 ZZ.bl PyProof.Rows.boot_int (A1 Y0)) UC.nd) (eH (fo (rO kG kG Y1 Y3 Y2) (eG (eP Y3)) ft) (eG (eP eN))))),?_⟩;extract_lets;refine⟨(),l,rfl,⋯,λH1 s1=>⟨(),?_⟩⟩;by_cases c:iJ l=true
 ·rw[c];obtain⟨d1,d2⟩:=XO c;refine fN ⟨(),l,rfl,d1,d2,⋯,?_⟩;refine⟨(),(),(()),(),?_⟩;show if decide (lo<=dv l)=true then _ else _
  refine gz (λc1=>⟨(),(()),(),?_⟩) (λc1=>⟨(),?_⟩)
  ·show if decide (dv l<=hi)=true then _ else _
   refine gz (λc2=>?_) (λc2=>?_)
   ·have e:gd lo hi l=some (dv l):=by unfold gd;rw[if_pos c,if_pos ⟨c1,c2⟩]
    rw[e] at q;exact⟨(),q H1 s1⟩
   ·have e:gd lo hi l=none:=by unfold gd;rw[if_pos c,if_neg λz=>c2 z.2]
    rw[e] at q;exact q H1 s1
  ·have e:gd lo hi l=none:=by unfold gd;rw[if_pos c,if_neg λz=>c1 z.1]
   rw[e] at q;exact fN (q H1 s1)
 ·have c':iJ l=false:=by simpa using c
  rw[c'];have e:gd lo hi l=none:=by unfold gd;rw[if_neg c]
  rw[e] at q;exact gH (q H1 s1)
theorem Ku:Dx P w base ZZ.d8 4 (Oq K):=by
 refine ZZ.d8.dfs UE (by trivial) ?_;rintro _ _ _ _ s H _ Q E hr⟨l,lo,hi,rfl,hl,q⟩;refine⟨_,(eH (fo (eZ fZ Y0 (gp [42])) (eG (eP (ic (A2 Y1 Y2)))) ft) (eH (Ei 3 ["low","high"] [1,2] (i8 (K:=K) (nh Y0 (gp [45]))) (λ_ _ _ _ _ _=>jN) (λ_ _ _ _ _ _=>(eD (nj ZZ) hr (A3 Y0 Y1 Y2))) UE.nd) (eH (fo (tW (jv (eZ jO (gh (jD (K:=K)) ZZ.ae PySem.boot_len (A1 Y3)) eI) (jv (eZ (Dl (K:=K)) eN Y3) (jJ (eZ jO (eK (fk (K:=K)) Y3 eI) (eK (fk (K:=K)) Y3 (kW kP eI))))))) (eG (eP eN)) ft) (eG (eP (ic (A2 (eK (fk (K:=K)) Y3 eI) (eK (fk (K:=K)) Y3 (kW kP eI))))))))),?_⟩
 extract_lets;refine⟨(),rfl,(),?_⟩;rw[oZ l [42]];by_cases c:l=[42]
 ·rw[dZ c];refine gH ⟨(),(),(zL 2),λp hp=>?_⟩;have e:ig lo hi l=some (lo,hi):=by unfold ig;rw[if_pos c]
  rw[e] at q;exact q _ _ (eS hp _) ⟨p,rfl,eJ⟩
 rw[d7 c];have hsl:=oF 45 l;have eR:ig lo hi l=lH ((eV 45 l).map (gd lo hi)):=by unfold ig;rw[if_neg c]
 rw[eR] at q;refine fN ⟨(),rfl,l,45,rfl,rfl,(by rw[dW];omega),λps hps=>⟨ps,rfl,⟨_,SqL.of eJ⟩,SL (xs:=(eV 45 l).map λq=>V.str (Tx q)) (λi z=>z=((eV 45 l).take i).map λq=>oV (gd lo hi q)) (by rw[aQ,dW];omega) rfl (SqL.of eJ) ?_ ?_⟩⟩
 ·intro i v z D H2 E' F' hv hR hD s2 hz hE hF;subst hR;rw[bG] at hv;cases ew:(eV 45 l)[i]? with
  |none=>rw[ew] at hv;cases hv
  |some w0=>
   rw[ew] at hv;obtain rfl:V.str (Tx w0)=v:=a8 hv;have hw:=nU 45 l w0 (aY ew);exact⟨(),(),(),w0,lo,hi,rfl,⋯,λH3 s3=>hE _ _ s3 (by rw[b7,ew,bE];rfl)⟩
 intro D H2 z hR hD s2 hz;subst hR;rw[aQ,bW] at hz;have hz2:H2 D=some (.lst (((eV 45 l).map (gd lo hi)).map oV)):=by rw[hz,List.map_map];rfl
 have hlen:((eV 45 l).map (gd lo hi)).length<=600:=by rw[aQ];omega
 have hnn:(eV 45 l).map (gd lo hi)≠[]:=λe=>V6 45 l (List.map_eq_nil_iff.mp e);generalize (eV 45 l).map (gd lo hi)=es at hz2 q hlen hnn;have s02:Same H H2:=(eS hps _).trans s2;have hfl:(es.map oV).all kj=true:=Vt es;refine⟨(),D,(),.inl (SqL.of hz2),(()),(),?_⟩
 match es,hnn with
 |[],h=>exact absurd rfl h
 |[none],_=>
  refine fN ⟨(),D,(),.inl (SqL.of hz2),rfl,hfl,(),gH ?_⟩;exact q _ _ s02 rfl
 |[some a],_=>
  refine fN ⟨(),D,(),.inl (SqL.of hz2),rfl,hfl,(),fN ⟨(),D,_,(()),SqL.of hz2,rfl,(),(),D,_,(()),SqL.of hz2,rfl,(()),(),?_⟩⟩;rw[d7 (show ¬a<a by omega)];refine fN ⟨(),D,_,(()),SqL.of hz2,rfl,(),(),D,_,(()),SqL.of hz2,rfl,(zL 2),λp hp=>?_⟩;exact q _ _ (s02.trans (eS hp _)) ⟨p,rfl,eJ⟩
 |[none,y],_=>
  refine fN ⟨(),D,(),.inl (SqL.of hz2),rfl,hfl,(),gH ?_⟩;exact q _ _ s02 rfl
 |[some a,none],_=>
  refine fN ⟨(),D,(),.inl (SqL.of hz2),rfl,hfl,(),gH ?_⟩;exact q _ _ s02 rfl
 |[some a,some b],_=>
  refine fN ⟨(),D,(),.inl (SqL.of hz2),rfl,hfl,(),fN ⟨(),D,_,(()),SqL.of hz2,rfl,(),(),D,_,(()),SqL.of hz2,rfl,(()),(),?_⟩⟩;refine gz (λc2=>?_) (λc2=>?_)
  ·have e:lH [some a,some b]=none:=by show (if b<a then none else some (a,b))=none;rw[if_pos c2]
   rw[e] at q;exact q _ _ s02 rfl
  ·have e:lH [some a,some b]=some (a,b):=by show (if b<a then none else some (a,b))=some (a,b);rw[if_neg c2]
   rw[e] at q;refine⟨(),D,_,(()),SqL.of hz2,rfl,(),(),D,_,(()),SqL.of hz2,rfl,(zL 2),λp hp=>?_⟩;exact q _ _ (s02.trans (eS hp _)) ⟨p,rfl,eJ⟩
 |x::y::u::r,_=>
  have e3:decide ((2:Int)<(((x::y::u::r).map oV).length:Nat))=true:=dZ (by rw[aQ];show (2:Int)<((r.length+1+1+1:Nat):Int);omega);refine jI e3 ?_;have e:lH (x::y::u::r)=none:=by cases x<;>cases y<;>rfl
  rw[e] at q;exact q _ _ s02 rfl
theorem V3:Dx P w base ZZ.cf 5 (VT K):=by
 refine ZZ.cf.dfs UF (by trivial) ?_;rintro _ _ _ _ s H _ Q E hr⟨r,st,lo,hi,rfl,hr1,hs1,hb,q⟩;refine⟨_,(eH (eU 4 (eD (Ku ZZ) hr (A3 Y0 Y2 Y3)) UF.nd) (eH (eU 5 (eD (nj ZZ) hr (A3 Y1 eI (fF (v:=.int 99) ZZ.cu ⟨()⟩))) UF.nd) (eH (fo (tW (jv (eZ jh Y4 eN) (jJ (eZ jh Y5 eN)))) (eG (eP eN)) ft) (eH (eU 6 (lc (g9 (eD (zt ZZ) hr (A1 Y0))) Y3 (eK (fJ (K:=K)) Y4 eI)) UF.nd) (eG (eP (eD (xN ZZ) hr (A3 (eK (fJ (K:=K)) Y4 eI) Y6 Y5)))))))),?_⟩
 extract_lets;refine⟨(),(),(),r,lo,hi,rfl,⋯,λrv H1 s1 hrv=>?_⟩;refine⟨(),st,1,99,rfl,⋯,λH2 s2=>?_⟩;cases er:ig lo hi r with
 |none=>
  rw[er] at hrv;have hrv:rv=.non:=hrv;subst hrv;have e:jq lo hi r st=none:=by unfold jq;rw[er]
  rw[e] at q;exact⟨(),rfl,(),gH (q H2 (s1.trans s2))⟩
 |some ab=>
  obtain⟨a,b⟩:=ab;rw[er] at hrv;obtain⟨p,rfl,hp⟩:=hrv;have bd:=Ff hb.2.1 er;refine⟨(),rfl,(),ik rfl ⟨(),rfl,(),?_⟩⟩;cases es:gd 1 99 st with
  |none=>
   have e:jq lo hi r st=none:=by unfold jq;rw[er,es]
   rw[e] at q;exact jI rfl (q H2 (s1.trans s2))
  |some sv=>
   have bs:=KP es;have hp2:=s2 _ _ hp;refine ik rfl ⟨(),r,rfl,⋯,λH3 s3=>⟨(),?_⟩⟩;have hp3:=s3 _ _ hp2;refine Eh (λc=>?_) (λc=>?_)
   ·have e:jq lo hi r st=some (jP a hi sv):=by unfold jq;rw[er,es];show some (jP a (if iJ r=true then hi else b) sv)=_;rw[if_pos c]
    rw[e] at q;refine⟨(),(),p,_,(()),SqT.of hp3,rfl,(),(),a,hi,sv,rfl,⟨⋯,⋯⟩,⟨⋯,⋯⟩,⟨⋯,⋯⟩,λH4 s4=>?_⟩;exact q H4 (s1.trans (s2.trans (s3.trans s4)))
   ·have e:jq lo hi r st=some (jP a b sv):=by unfold jq;rw[er,es];show some (jP a (if iJ r=true then hi else b) sv)=_;rw[if_neg (by rw[c];exact bA)]
    rw[e] at q;refine⟨(),p,_,(()),SqT.of hp3,rfl,(),p,_,(()),SqT.of hp3,rfl,(),(),a,b,sv,rfl,⟨⋯,⋯⟩,⟨⋯,⋯⟩,⟨⋯,⋯⟩,λH4 s4=>?_⟩;exact q H4 (s1.trans (s2.trans (s3.trans s4)))
theorem x4:Dx P w base ZZ.dk 6 (MU K):=by
 refine ZZ.dk.dfs UA (by trivial) ?_;rintro _ _ _ _ s H _ Q E hr⟨l,lo,hi,rfl,hl,hb,q⟩;refine⟨_,(eH (eU 3 (nh Y0 (gp [47])) UA.nd) (eH (fo (eZ fZ (gh (jD (K:=K)) ZZ.ae PySem.boot_len (A1 Y3)) eI) (eG (eP (eD (V3 ZZ) hr (aC (eK (fk (K:=K)) Y3 eI) (A3 (eK (fk (K:=K)) Y3 eI) Y1 Y2))))) ft) (eH (eU 4 (eD (Ku ZZ) hr (A3 Y0 Y1 Y2)) UA.nd) (eH (fo (eZ jh Y4 eN) (eG (eP eN)) ft) (eG (eP (eD (xN ZZ) hr (A3 (eK (fJ (K:=K)) Y4 eI) (eK (fJ (K:=K)) Y4 eI) eI)))))))),?_⟩
 extract_lets;have hsl:=oF 47 l;have hml:=nU 47 l;refine⟨(),rfl,l,47,rfl,rfl,(by rw[dW];omega),λps hps=>?_⟩;have s0:=eS hps (.lst ((eV 47 l).map λq=>V.str (Tx q)));refine⟨(),ps,(),.inl (SqL.of eJ),rfl,(),?_⟩;have two:(∃r s,eV 47 l=[r,s])∨(∀r s,eV 47 l≠[r,s]):=by
  by_cases z:∃r s,eV 47 l=[r,s]
  ·exact .inl z
  ·exact .inr λr s e=>z ⟨r,s,e⟩
 rcases two with ⟨r,s,e2⟩ | hno
 ·have e:gf lo hi l=jq lo hi r s:=by unfold gf;rw[e2]
  rw[e] at q;have h1:=hml r (by rw[e2];simp);have h2:=hml s (by rw[e2];simp);rw[e2];refine jI rfl ⟨(),ps,_,(()),SqL.of eJ,rfl,(),ps,_,(()),SqL.of eJ,rfl,(),(),r,s,lo,hi,rfl,⋯,⋯,hb,λH1 s1=>?_⟩;exact q H1 ((eS hps _).trans s1)
 ·have hlen:¬(eV 47 l).length=2:=λe=>by
   match h:eV 47 l,e with
   |[r,s],_=>exact hno r s h
  have e:gf lo hi l=match ig lo hi l with | some (a,b)=>some (jP a b 1) | none=>none:=by
   unfold gf;split
   ·rename_i r s h;exact absurd h (hno r s)
   ·rfl
  refine ik (d7 λz=>hlen (by have z:=V.int.inj z;rw[aQ] at z;omega)) ?_;refine⟨(),(),(),l,lo,hi,rfl,⋯,λrv H1 s1 hrv=>?_⟩;cases er:ig lo hi l with
  |none=>
   rw[er] at hrv e;have hrv:rv=.non:=hrv;subst hrv;rw[e] at q;exact⟨(),rfl,(),gH (q H1 (s0.trans s1))⟩
  |some ab=>
   obtain⟨a,b⟩:=ab;rw[er] at hrv e;obtain⟨p,rfl,hp⟩:=hrv;have bd:=Ff hb.2.1 er;have e:gf lo hi l=some (jP a b 1):=e;rw[e] at q;refine⟨(),rfl,(),ik rfl ⟨(),p,_,(()),SqT.of hp,rfl,(),p,_,(()),SqT.of hp,rfl,a,b,1,rfl,⟨⋯,⋯⟩,⟨⋯,⋯⟩,⟨by decide,by decide⟩,λH4 s4=>?_⟩⟩;exact q H4 (s0.trans (s1.trans s4))
theorem OO:Dx P w base ZZ.c8 7 (Xa K):=by
 refine ZZ.c8.dfs Uz (by trivial) ?_;rintro _ _ _ _ s H _ Q E hr⟨l,lo,hi,rfl,hl,hb,⟨hk,hok⟩,q⟩;refine⟨_,(eH (fo (tW (jv (jt (g9 (gh mJ ZZ.aa PyProof.Rows.boot_isinstance (A2 Y0 (k9 ZZ.ac PyProof.Rows.boot_str))))) (jJ (eZ jO (gh wq ZZ.ae PySem.boot_len (A1 Y0)) (fF (v:=.int 300) ZZ.bc ⟨()⟩))))) (eG jc) ft) (eH (eU 3 (nh Y0 (gp [44])) Uz.nd) (eH (eU 4 eI Uz.nd) (eH (io (iE ZZ.av (jT (nI (K:=K)) Y3 j5 (j9 (fF (v:=.int 40) ZZ.ai ⟨()⟩)))) (k7 (K:=K) (gg (gN 5 Uz.nd) (gg (gN 6 Uz.nd) j6))) (eH (eU 7 (eD (x4 ZZ) hr (A3 Y6 Y1 Y2)) Uz.nd) (eH (fo (eZ jh Y7 eN) (eG jc) ft) (eG (eU 4 (eE lK Y4 Y7) Uz.nd)))) PassesOwn.never) (eH (fo (eZ jO (gh (jD (K:=K)) ZZ.ae PySem.boot_len (A1 Y3)) (fF (v:=.int 40) ZZ.ai ⟨()⟩)) (eG jc) ft) (eG (eP Y4))))))),?_⟩
 extract_lets;have hml:=nU 44 l;refine⟨(),_,.str,.str,rfl,(by decide),rfl,(),ik rfl ⟨(),l,rfl,(by rw[dW];omega),(()),(),?_⟩⟩;rw[d7 (show ¬(300:Int)<((l.length:Nat):Int) by omega)];refine fN ⟨(),rfl,l,44,rfl,rfl,(by rw[dW];omega),λps hps=>?_⟩;have s0:=eS hps (.lst ((eV 44 l).map λq=>V.str (Tx q)));refine⟨(),(),ps,(),SqL.of eJ,λpc hpc=>?_⟩;have ecut:g8 ((eV 44 l).map λq=>V.str (Tx q)) none (some 40)=(eV 44 l).map λq=>V.str (Tx q):=Lc (by rw[aQ];exact hk)
 rw[ecut];have s1:=eS hpc (.lst ((eV 44 l).map λq=>V.str (Tx q)));refine⟨pc,rfl,⟨_,SqL.of eJ⟩,ET (K:=K) (a:=pc) (xs:=(eV 44 l).map λq=>V.str (Tx q)) (λi σ H2=>∃(u1 u2 u3:Option V),σ=[some (.str (Tx l)),some (.int lo),some (.int hi),some (.ref ps),some (.int (fV ((kI lo hi l).take i))),u1,u2,u3]/\Same (upd (upd H ps (.lst ((eV 44 l).map λq=>V.str (Tx q)))) pc (.lst ((eV 44 l).map λq=>V.str (Tx q)))) H2) ⟨_,_,(),Same.refl _⟩ (λi σ H2 _ ⟨_,_,_,_,s2⟩=>SqL.of (s2 _ _ eJ)) ?_ ?_⟩
 ·rintro i x σ H2 T hx ⟨u1,u2,u3,rfl,s2⟩ hT;rw[bG] at hx;cases ew:(eV 44 l)[i]? with
  |none=>rw[ew] at hx;cases hx
  |some w0=>
   rw[ew] at hx;obtain rfl:V.str (Tx w0)=x:=a8 hx;have hw:=hml w0 (aY ew);obtain⟨m,em⟩:=dG.mp (hok w0 (aY ew));refine⟨T,(),SqT.of eJ,rfl,_,(),(()),?_⟩;refine⟨(),(),(),w0,lo,hi,rfl,⋯,hb,λH3 s3=>?_⟩;rw[em];refine⟨(),rfl,(),ik rfl ⟨(),(),(()),?_⟩⟩;have et:fV ((kI lo hi l).take (i+1))=Builtin.bitOr (fV ((kI lo hi l).take i)) m:=by
    rw[←oI,b7];unfold kI;rw[bG,ew];show fV (_++[(gf lo hi w0).getD 0])=_;rw[em];rfl
   exact⟨_,_,_,by rw[et];rfl,s2.trans ((eS hT _).trans s3)⟩
 ·rintro σ H2 ⟨u1,u2,u3,rfl,s2⟩;refine⟨(),ps,(),.inl (SqL.of (s2 _ _ (s1 _ _ eJ))),(()),(),?_⟩;rw[d7 (show ¬(40:Int)<((((eV 44 l).map λq=>V.str (Tx q)).length:Nat):Int) by rw[aQ];omega)];refine fN ⟨(),?_⟩;rw[aQ,show (eV 44 l).length=(kI lo hi l).length by unfold kI;rw[aQ],bW];exact q H2 (s0.trans (s1.trans s2))
theorem Bn:Dx P w base ZZ.c9 1 (S9 K):=by
 refine ZZ.c9.dfs Qh (by trivial) ?_;rintro f _ _ _ s H _ Q E hr⟨d,f,rfl,q⟩;refine⟨_,(eG (eP (eE fW (eE fG (eE fq Y1 Y0) eI) eI))),?_⟩;exact⟨(),(),(()),(()),(()),(by show (0:Int)<7;decide),q⟩
theorem rW:Dx P w base ZZ.d9 1 (Ry K):=by
 refine ZZ.d9.dfs Vf (by trivial) ?_;rintro _ _ _ _ s H _ Q E hr⟨l,rfl,hl,q⟩;refine⟨_,(eG (eP (eE fG (eE kD eI Y0) eI))),?_⟩;exact⟨(),(()),⟨⋯,⋯,by decide⟩,(()),q⟩
theorem yp:Dx P w base ZZ.cg 2 (NM K):=by
 refine ZZ.cg.dfs Ut (by trivial) ?_;rintro _ _ _ _ s H _ Q E hr⟨d,l,fi,rfl,q⟩;refine⟨_,(eH (eU 3 (eD (Bn ZZ) hr (A2 Y0 Y2)) Ut.nd) (eH (fo (eZ fZ Y3 (fF (v:=.int 6) ZZ.d0 ⟨()⟩)) (eG (eP (lc (eZ jO Y0 eI) (eE fG Y0 eI) eI))) ft) (eH (fo (eZ fZ Y3 (fF (v:=.int 0) ZZ.bv ⟨()⟩)) (eG (eP (lc (eZ kB Y0 Y1) (eE fq Y0 eI) (eE fG Y1 eI)))) ft) (eG (eP Y0))))),?_⟩;extract_lets
 refine⟨(),(),_,(),?_⟩;refine⟨(),rfl,(),f6 (λc=>?_) (λc=>?_)⟩
 ·refine⟨(),(()),(),gz (λc2=>⟨(),(()),?_⟩) (λc2=>?_)⟩
  ·have e:nw d l fi=d-1:=by unfold nw;rw[if_pos c,if_pos c2]
   rw[e] at q;exact q
  ·have e:nw d l fi=3:=by unfold nw;rw[if_pos c,if_neg c2]
   rw[e] at q;exact q
 ·refine⟨(),rfl,(),f6 (λc1=>?_) (λc1=>?_)⟩
  ·refine⟨(),(),(()),(),gz (λc2=>⟨(),(()),?_⟩) (λc2=>⟨(),(()),?_⟩)⟩
   ·have e:nw d l fi=d+1:=by unfold nw;rw[if_neg c,if_pos c1,if_pos c2]
    rw[e] at q;exact q
   ·have e:nw d l fi=l-2:=by unfold nw;rw[if_neg c,if_pos c1,if_neg c2]
    rw[e] at q;exact q
  ·have e:nw d l fi=d:=by unfold nw;rw[if_neg c,if_neg c1]
   rw[e] at q;exact⟨(),q⟩
theorem Wa:Dx P w base ZZ.dl 1 (NJ K):=by
 refine ZZ.dl.dfs W8 (by trivial) ?_;rintro _ _ _ _ s H _ Q E hr⟨wd,fi,rfl,q⟩;refine⟨_,(eG (eP (eE fq eI (eE fW (eE fG Y0 Y1) eI)))),?_⟩;exact⟨(),(),(()),(()),(by show (0:Int)<7;decide),(()),q⟩
theorem Qr:Dm P w mg base ZZ.dm 1 (WQ K aO):=by
 refine ZZ.dm.dfs O1 (by trivial) ?_;rintro _ _ _ _ s H _ Q E hr⟨p,l,fi,rfl,q⟩;refine⟨_,(eG (eP eI)),?_⟩;exact q
theorem Qs:Dm P w mg base ZZ.bq 1 (N4 K aF):=by
 refine ZZ.bq.dfs WO (by trivial) ?_;rintro _ _ _ _ s H _ Q E hr⟨p,dx,m,rfl,hp,q⟩;refine⟨_,(eG (iR Y0 Y1)),?_⟩;exact⟨(),(),p,aF,dx,[],rfl,hp,ZZ.an.cl,ZZ.a5,(by show 0<1000;decide),q⟩
theorem OF:Dm P w mg base ZZ.ch 2 (UR K aF):=by
 refine ZZ.ch.dfs Wd (by trivial) ?_;rintro _ _ _ _ s H _ Q E hr⟨p,dx,m,l,fi,rfl,hp,hl,q⟩;refine⟨_,(eG (eP (eE m6 (hW (K:=K) Y0) (eD (rW ZZ) hr (A1 Y1))))),?_⟩;exact⟨(),p,aF,dx,_,(),hp,ZZ.an.cl,ZZ.a5,rfl,(),(),hl.1,(()),q⟩
theorem Kg:DfMD P w K mg base aH "__init__" 1 ["self","back"] (Sq K aH) [.int 0]:=by
 refine ZZ.b3.dfs N6 (by trivial) ?_;rintro _ _ _ _ s H _ Q E hr⟨p,dx,m,rfl,hp,q⟩;refine⟨_,(eG (iR Y0 Y1)),?_⟩;exact⟨(),(),p,aH,dx,[],rfl,hp,ZZ.ao.cl,ZZ.au,(by show 0<1000;decide),q⟩
theorem Rv:Dm P w mg base ZZ.dn 1 (Vi K aH):=by
 refine ZZ.dn.dfs Om (by trivial) ?_;rintro _ _ _ _ s H _ Q E hr⟨p,dx,b,l,fi,rfl,hp,hb,hl,q⟩;refine⟨_,(eH (fo (eZ AX (hW (K:=K) Y0) Y1) (eG (eP eI)) ft) (eG (eP (eE kD eI (eE fG Y1 (hW (K:=K) Y0)))))),?_⟩;extract_lets;refine⟨(),p,aH,dx,_,(),hp,ZZ.ao.cl,ZZ.au,rfl,(),(()),(),gz (λc=>?_) (λc=>?_)⟩
 ·have e:l8 b l=0:=by unfold l8;rw[if_pos c]
  rw[e] at q;exact q
 ·have e:l8 b l=1*2^(l-b).toNat:=by unfold l8;rw[if_neg c]
  rw[e] at q;have:=hl.1.2;exact⟨(),(),p,aH,dx,_,(),hp,ZZ.ao.cl,ZZ.au,rfl,(()),(()),⟨⋯,⋯,by decide⟩,q⟩
theorem TV:Dm P w mg base ZZ.b4 1 (VY K aI):=by
 refine ZZ.b4.dfs QH (by trivial) ?_;rintro _ _ _ _ s H _ Q E hr⟨p,dx,m,rfl,hp,q⟩;refine⟨_,(eG (iR Y0 Y1)),?_⟩;exact⟨(),(),p,aI,dx,[],rfl,hp,ZZ.ax.cl,ZZ.ay,(by show 0<1000;decide),q⟩
theorem R4:Dm P w mg base ZZ.dp 3 (Qf K aI):=by
 refine ZZ.dp.dfs Od (by trivial) ?_;rintro _ _ _ _ s H _ Q E hr⟨p,dx,d,l,fi,rfl,hp,ok,q⟩;refine⟨_,(eH (fo (eZ jO (hW (K:=K) Y0) Y1) (eG (eP eI)) ft) (eG (eP (eE kD eI (eD (yp ZZ) hr (A3 (hW (K:=K) Y0) Y1 Y2)))))),?_⟩;extract_lets;refine⟨(),p,aI,dx,_,(),hp,ZZ.ax.cl,ZZ.ay,rfl,(),(()),(),gz (λc=>?_) (λc=>?_)⟩
 ·have e:l6 d l fi=0:=by unfold l6;rw[if_pos c]
  rw[e] at q;exact q
 ·have e:l6 d l fi=1*2^(nw d l fi).toNat:=by unfold l6;rw[if_neg c]
  rw[e] at q;have hn:=Bh ok ⋯;exact⟨(),p,aI,dx,_,(),hp,ZZ.ax.cl,ZZ.ay,rfl,(),(),_,_,(),(()),⟨⋯,⋯,by decide⟩,q⟩
theorem N8:Dm P w mg base ZZ.b5 3 (OT K aM):=by
 refine ZZ.b5.dfs RE (by trivial) ?_;rintro _ _ _ _ s H _ Q E hr⟨p,dx,l,fi,rfl,hp,ok,q⟩;refine⟨_,(eG (eP (eE kD eI (eD (yp ZZ) hr (A3 Y1 Y1 Y2))))),?_⟩;have hn:=Bh ok (aV _);exact⟨(),(),(),_,_,(),(()),⟨⋯,⋯,by decide⟩,q⟩
theorem S2:Dm P w mg base ZZ.bm 1 (W9 K aG):=by
 refine ZZ.bm.dfs QR (by trivial) ?_;rintro _ _ _ _ s H _ Q E hr⟨p,dx,m,rfl,hp,q⟩;refine⟨_,(eG (iR Y0 Y1)),?_⟩;exact⟨(),(),p,aG,dx,[],rfl,hp,ZZ.ak.cl,ZZ.az,(by show 0<1000;decide),q⟩
theorem Tw:Dm P w mg base ZZ.b6 2 (Og K aG):=by
 refine ZZ.b6.dfs U3 (by trivial) ?_;rintro _ _ _ _ s H _ Q E hr⟨p,dx,m,l,fi,rfl,hp,hm,⟨hl,hf⟩,q⟩;refine⟨_,(eH (eU 3 eI U3.nd) (eH (io (lZ ZZ.ad (A1 eI)) (gN 4 U3.nd) (eG (eU 3 (eE lK Y3 (eE kD (hW (K:=K) Y0) (eE g6 eI Y4))) U3.nd)) PassesOwn.never) (eG (eP (eE m6 (eE kD (eE uv Y3 Y2) eI) (eD (rW ZZ) hr (A1 Y1))))))),?_⟩;extract_lets;have hb:=Oa m (qj hm.1 hm.2);refine⟨(),by decide,by decide,pJ (λi σ H2=>H2=H/\∃u:Option V,σ=[some (.ref p),some (.int l),some (.int fi),some (.int (oR m i)),u]) ⟨rfl,()⟩ ?_ ?_⟩
 ·rintro i σ H2 hi ⟨rfl,u,rfl⟩;have hi':i<6:=hi;exact⟨(),(),p,aG,dx,_,(),hp,ZZ.ak.cl,ZZ.az,rfl,(),(()),.inl ⟨by decide,by decide⟩,(()),⟨⋯,⋯,(by show m.natAbs<2^64;omega)⟩,(()),rfl,()⟩
 ·rintro σ H2 ⟨rfl,u,rfl⟩;exact⟨(),(),(()),hf.1,(()),⟨by decide,by decide,hb.2 fi (jn hf.1 hf.2)⟩,(),(),hl,(()),q⟩
theorem QX:Dm P w mg base ZZ.ci 1 (Wk K aE):=by
 refine ZZ.ci.dfs Si (by trivial) ?_;rintro _ _ _ _ s H _ Q E hr⟨p,dx,wd,m,rfl,hp,q⟩;refine⟨_,(eH (iR Y0 Y1) (eG (iR Y0 Y2))),?_⟩;extract_lets;exact⟨(),(),p,aE,dx,[],rfl,hp,ZZ.a0.cl,ZZ.a7,(by show 0<1000;decide),(),(),p,aE,dx,(),eJ,ZZ.a0.cl,ZZ.bg,(by show 1<1000;decide),q⟩
theorem R5:Dm P w mg base ZZ.ea 2 (Sw K aE):=by
 refine ZZ.ea.dfs U0 (by trivial) ?_;rintro _ _ _ _ s H _ Q E hr⟨p,dx,wd,m,l,fi,rfl,hp,hw,hm,⟨hl,hf⟩,q⟩;refine⟨_,(eH (eU 3 (eE fq (eD (Wa ZZ) hr (A2 (hW (K:=K) Y0) Y2)) (eE g6 eI (eE fG (hW (K:=K) Y0) eI))) U0.nd) (eH (fo (eZ jO Y3 Y1) (eG (eP eI)) ft) (eG (eP (eE kD eI Y3))))),?_⟩;extract_lets;have hn:=O8 l (kZ hl.1 hl.2) fi (jn hf.1 hf.2) wd (jn hw.1 hw.2) m (rK hm.1 hm.2)
 refine⟨(),p,aE,dx,_,(),hp,ZZ.a0.cl,ZZ.a7,QY _ _,(),_,(),(),p,aE,dx,_,(),hp,ZZ.a0.cl,ZZ.bg,S5 _ _,(()),(()),.inl ⟨by decide,by decide⟩,(()),?_⟩;refine⟨(),(),(()),(),gz (λc=>?_) (λc=>?_)⟩
 ·have e:jW wd m l fi=0:=by unfold jW;rw[if_pos (show l<km wd m fi from c)]
  rw[e] at q;exact q
 ·have e:jW wd m l fi=1*2^(km wd m fi).toNat:=by unfold jW;rw[if_neg (show ¬l<km wd m fi from c)]
  rw[e] at q;exact⟨(),(()),⟨hn.2.2.1,Int.le_trans hn.2.2.2 (by decide),by decide⟩,q⟩
theorem MX:Dm P w mg base ZZ.br 1 (QL K aJ):=by
 refine ZZ.br.dfs Qd (by trivial) ?_;rintro _ _ _ _ s H _ Q E hr⟨p,dx,m,rfl,hp,q⟩;refine⟨_,(eG (iR Y0 Y1)),?_⟩;exact⟨(),(),p,aJ,dx,[],rfl,hp,ZZ.ap.cl,ZZ.ar,(by show 0<1000;decide),q⟩
theorem W2:Dm P w mg base ZZ.cj 2 (WS K aJ):=by
 refine ZZ.cj.dfs NB (by trivial) ?_;rintro _ _ _ _ s H _ Q E hr⟨p,dx,wd,l,fi,rfl,hp,hw,⟨hl,hf⟩,q⟩;refine⟨_,(eG (eP (eE kD eI (eE fG Y1 (eE fW (eE fG (eD (Bn ZZ) hr (A2 Y1 Y2)) (hW (K:=K) Y0)) eI))))),?_⟩;have hn:=We l (kZ hl.1 hl.2) fi (jn hf.1 hf.2) wd (jn hw.1 hw.2);exact⟨(),(),(),_,(),(),p,aJ,dx,_,(),hp,ZZ.ap.cl,ZZ.ar,rfl,(()),(()),(by show (0:Int)<7;decide),(()),(()),⟨hn.2.1,Int.le_trans hn.2.2 (by decide),by decide⟩,q⟩
theorem Pe:Dx P w base ZZ.eb 4 (Rl K):=by
 refine ZZ.eb.dfs Ui (by trivial) ?_;rintro _ _ _ _ s H _ Q E hr⟨b,ps,ks,l,fi,rfl,hB,fM,oM,hlf,q⟩;refine⟨_,(eH (eU 3 eI Ui.nd) (eH (io (i8 (K:=K) Y0) (gN 4 Ui.nd) (eG (eU 3 (eE lK Y3 (kH (jF ZZ.an.cl (OF ZZ) hr Y4 (A2 Y1 Y2)) (kH (jF ZZ.ao.cl (Rv ZZ) hr Y4 (A2 Y1 Y2)) (kH (jF ZZ.ax.cl (R4 ZZ) hr Y4 (A2 Y1 Y2)) (kH (jF ZZ.bf.cl (N8 ZZ) hr Y4 (A2 Y1 Y2)) (kH (jF ZZ.ak.cl (Tw ZZ) hr Y4 (A2 Y1 Y2)) (kH (jF ZZ.a0.cl (R5 ZZ) hr Y4 (A2 Y1 Y2)) (kH (jF ZZ.ap.cl (W2 ZZ) hr Y4 (A2 Y1 Y2)) (jF ZZ.ev.cl (Qr ZZ) hr Y4 (A2 Y1 Y2)))))))))) Ui.nd)) PassesOwn.never) (eG (eP Y3)))),?_⟩
 extract_lets;refine⟨(),b,rfl,⟨_,hB⟩,kE (K:=K) (a:=b) (xs:=ps.map V.ref) (λi σ H2=>H2=H/\∃u4:Option V,σ=[some (.ref b),some (.int l),some (.int fi),some (.int (i6 (ks.take i) l fi)),u4]) ⟨rfl,()⟩ (λi σ H2 _ hP=>by rw[hP.1];exact hB) ?turn ?done⟩
 case done=>
  rintro σ H2 ⟨rfl,u4,rfl⟩;have el:(ps.map V.ref).length=ks.length:=by rw[aQ];exact Paired.length fM
  rw[el,bW];exact⟨(),q⟩
 case turn=>
  rintro i x σ H2 hx ⟨rfl,u4,rfl⟩;rw[bG] at hx;cases ez:ps[i]? with
  |none=>rw[ez] at hx;cases hx
  |some p=>
   rw[ez] at hx;obtain rfl:V.ref p=x:=a8 hx;obtain⟨k,ek,hk⟩:=Ft.get fM ez;have hok:=oM k (aY ek);have et:i6 (ks.take (i+1)) l fi=Builtin.bitOr (i6 (ks.take i) l fi) (k.due l fi):=by
    rw[b7,ek];exact RI _ _ _ _
   rw[et];cases k with
   |num m=>
    obtain⟨dx,hp⟩:=hk;exact⟨(),(.inl ⟨(),p,dx,(),hp,rfl,(),(),p,dx,m,l,fi,rfl,hp,hlf,(()),rfl,()⟩)⟩
   |lst b=>
    obtain⟨dx,hp⟩:=hk;exact⟨(),(.inr (.inl ⟨(),p,dx,(),hp,rfl,(),(),p,dx,b,l,fi,rfl,hp,hok,hlf,(()),rfl,()⟩))⟩
   |nea d=>
    obtain⟨dx,hp⟩:=hk;exact⟨(),(.inr (.inr (.inl ⟨(),p,dx,(),hp,rfl,(),(),p,dx,d,l,fi,rfl,hp,⟨hok,hlf⟩,(()),rfl,()⟩)))⟩
   |wrk=>
    obtain⟨dx,hp⟩:=hk;exact⟨(),(.inr (.inr (.inr (.inl ⟨(),p,dx,(),hp,rfl,(),(),p,dx,l,fi,rfl,hp,hlf.last,(()),rfl,()⟩))))⟩
   |wkd m=>
    obtain⟨dx,hp⟩:=hk;exact⟨(),(.inr (.inr (.inr (.inr (.inl ⟨(),p,dx,(),hp,rfl,(),(),p,dx,m,l,fi,rfl,hp,hok,hlf,(()),rfl,()⟩)))))⟩
   |nth w m=>
    obtain⟨dx,hp⟩:=hk;exact⟨(),(.inr (.inr (.inr (.inr (.inr (.inl ⟨(),p,dx,(),hp,Qt _ _,(),(),p,dx,w,m,l,fi,rfl,hp,hok.1,hok.2,hlf,(()),rfl,()⟩))))))⟩
   |one w=>
    obtain⟨dx,hp⟩:=hk;exact⟨(),(.inr (.inr (.inr (.inr (.inr (.inr (.inl ⟨(),p,dx,(),hp,rfl,(),(),p,dx,w,l,fi,rfl,hp,hok,hlf,(()),rfl,()⟩)))))))⟩
   |nil=>
    obtain⟨dx,hp⟩:=hk;exact⟨(),(.inr (.inr (.inr (.inr (.inr (.inr (.inr ⟨(),p,dx,(),hp,rfl,(),(),p,l,fi,rfl,(()),rfl,()⟩)))))))⟩
theorem RA:Dx P w base ZZ.b7 4 (M6 K):=by
 refine ZZ.b7.dfs Ux (by trivial) ?_;rintro _ _ _ _ s H _ Q E hr⟨t,rfl,hl,q⟩;refine⟨_,(eH (fo (eZ fZ Y0 (gp [76])) (eG (eP (rE ZZ.ao (Kg ZZ) hr))) ft) (eH (fo (eZ fZ Y0 (gp [76,87])) (eG (eP (vS ZZ.bf ZZ.dz))) ft) (eH (fo (g9 (vR Y0 (gp [76,45]))) (eH (eU 1 (eD (nj ZZ) hr (A3 (jT ug Y0 (j9 eI) j5) eI (fF (v:=.int 30) ZZ.dg ⟨()⟩))) Ux.nd) (eG (eP (lc (eZ jh Y1 eN) eN (kS ZZ.ao (Kg ZZ).dfm hr (A1 Y1)))))) ft) (eH (fo (g9 (JD Y0 (gp [87]))) (eH (eU 2 (eD (nj ZZ) hr (A3 (jT ug Y0 j5 (j9 (kW kP eI))) eI (fF (v:=.int 31) ZZ.bh ⟨()⟩))) Ux.nd) (eG (eP (lc (eZ jh Y2 eN) eN (kS ZZ.ax (TV ZZ) hr (A1 Y2)))))) ft) (eG (eP eN)))))),?_⟩
 extract_lets;have hz:t.length<=sizeLine:=by rw[dW];omega
 have hc1:=qT t (some 2) none;have hc2:=qT t none (some (-1));refine⟨(),rfl,(),ri (λc=>?a0) (λc1=>⟨(),rfl,(),ri (λc=>?a1) (λc2=>⟨(),rfl,t,[76,45],rfl,rfl,(),gz (λc=>?a2) (λc3=>⟨(),rfl,t,87,rfl,rfl,(),gz (λc=>?a3) (λc4=>?a4)⟩)⟩)⟩)⟩
 case a0=>
  have e:ju t=some (.lst 0):=by unfold ju;rw[if_pos c]
  rw[e] at q;exact λxo dx nx ndx nex=>⟨xo,dx,0,rfl,eJ,rfl,q _ _ (mj nx ndx) ⟨xo,rfl,dx,eJ⟩⟩
 case a1=>
  have e:ju t=some .wrk:=by unfold ju;rw[if_neg c1,if_pos c]
  rw[e] at q;exact λxo dx nx ndx nex=>q _ _ (vh nx ndx) ⟨xo,rfl,dx,eJ⟩
 case a2=>
  have e:ju t=(gd 1 30 (ix t (some 2) none)).map Mk.lst:=by unfold ju;rw[if_neg c1,if_neg c2,if_pos c]
  rw[e] at q;refine⟨(),(),t,rfl,hz,_,1,30,rfl,⋯,λH1 s1=>?_⟩;cases en:gd 1 30 (ix t (some 2) none) with
  |none=>
   rw[en] at q;exact⟨(),rfl,(),jI rfl (q _ _ s1 rfl)⟩
  |some b=>
   rw[en] at q;exact⟨(),rfl,(),ik rfl ⟨(),λxo dx nx ndx nex=>⟨xo,dx,(),eJ,rfl,q _ _ (s1.trans (mj nx ndx)) ⟨xo,rfl,dx,eJ⟩⟩⟩⟩
 case a3=>
  have e:ju t=(gd 1 31 (ix t none (some (-1)))).map Mk.nea:=by unfold ju;rw[if_neg c1,if_neg c2,if_neg c3,if_pos c]
  rw[e] at q;refine⟨(),(),(),t,rfl,hz,_,1,31,rfl,⋯,λH1 s1=>?_⟩;cases en:gd 1 31 (ix t none (some (-1))) with
  |none=>
   rw[en] at q;exact⟨(),rfl,(),jI rfl (q _ _ s1 rfl)⟩
  |some b=>
   rw[en] at q;exact⟨(),rfl,(),ik rfl ⟨(),λxo dx nx ndx nex=>⟨xo,dx,(),eJ,rfl,q _ _ (s1.trans (mj nx ndx)) ⟨xo,rfl,dx,eJ⟩⟩⟩⟩
 case a4=>
  have e:ju t=none:=by unfold ju;rw[if_neg c1,if_neg c2,if_neg c3,if_neg c4]
  rw[e] at q;exact q _ _ (Same.refl H) rfl
theorem Cj:Dx P w base ZZ.ck 4 (S3 K):=by
 refine ZZ.ck.dfs UG (by trivial) ?_;rintro _ _ _ _ s H _ Q E hr⟨t,rfl,hl,q⟩;refine⟨_,(eH (eU 1 (eD (nj ZZ) hr (A3 Y0 eI (fF (v:=.int 7) ZZ.aj ⟨()⟩))) UG.nd) (eG (eP (lc (eZ fZ Y1 (fF (v:=.int 7) ZZ.aj ⟨()⟩)) (fF (v:=.int 0) ZZ.bv ⟨()⟩) Y1)))),?_⟩;extract_lets;refine⟨(),t,0,7,rfl,⋯,λH1 s1=>?_⟩;cases en:gd 0 7 t with
 |none=>
  have e:kc t=none:=by unfold kc;rw[en];rfl
  rw[e] at q;exact⟨(),rfl,(),ik (d7 λz=>nomatch z) ⟨(),q _ s1⟩⟩
 |some n=>
  have e:kc t=some (if n=7 then 0 else n):=by unfold kc;rw[en];rfl
  rw[e] at q;refine⟨(),rfl,(),f6 (λc=>?_) (λc=>⟨(),?_⟩)⟩
  ·rw[if_pos c] at q;exact q _ s1
  ·rw[if_neg c] at q;exact q _ s1
theorem RL:Dx P w base ZZ.bn 5 (QB K):=by
 refine ZZ.bn.dfs UH (by trivial) ?_;rintro _ _ _ _ s H _ Q E hr⟨t,rfl,hl,q⟩;refine⟨_,(eH (fo (g9 (JD Y0 (gp [76]))) (eH (eU 1 (eD (Cj ZZ) hr (A1 (jT ug Y0 j5 (j9 (kW kP eI))))) UH.nd) (eG (eP (lc (eZ jh Y1 eN) eN (kS ZZ.ap (MX ZZ) hr (A1 Y1)))))) ft) (eH (eU 2 (nh Y0 (gp [35])) UH.nd) (eH (fo (eZ lr (gh (jD (K:=K)) ZZ.ae PySem.boot_len (A1 Y2)) eI) (eG (eP eN)) ft) (eH (eU 1 (eD (Cj ZZ) hr (A1 (eK (fk (K:=K)) Y2 eI))) UH.nd) (eH (eU 3 (eD (nj ZZ) hr (A3 (eK (fk (K:=K)) Y2 eI) eI (fF (v:=.int 5) ZZ.d1 ⟨()⟩))) UH.nd) (eH (fo (tW (jv (eZ jh Y1 eN) (jJ (eZ jh Y3 eN)))) (eG (eP eN)) ft) (eG (eP (kS ZZ.a0 (QX ZZ) hr (A2 Y1 Y3)))))))))),?_⟩
 extract_lets;have hz:t.length<=sizeLine:=by rw[dW];omega
 have hc2:=qT t none (some (-1));have hsl:=oF 35 t;have hml:=nU 35 t;refine⟨(),rfl,t,76,rfl,rfl,(),gz (λc=>?a0) (λc1=>?a1)⟩
 case a0=>
  have e:kF t=(kc (ix t none (some (-1)))).map Mk.one:=by unfold kF;rw[if_pos c]
  rw[e] at q;refine⟨(),(),(),t,rfl,hz,(),⋯,λH1 s1=>?_⟩;cases en:kc (ix t none (some (-1))) with
  |none=>
   rw[en] at q;exact⟨(),rfl,(),jI rfl (q _ _ s1 rfl)⟩
  |some b=>
   rw[en] at q;exact⟨(),rfl,(),ik rfl ⟨(),λxo dx nx ndx nex=>⟨xo,dx,(),eJ,rfl,q _ _ (s1.trans (mj nx ndx)) ⟨xo,rfl,dx,eJ⟩⟩⟩⟩
 case a1=>
  refine⟨(),rfl,t,35,rfl,rfl,(by rw[dW];omega),λps hps=>?_⟩;have s0:=eS hps (.lst ((eV 35 t).map λq=>V.str (Tx q)));refine⟨(),ps,(),.inl (SqL.of eJ),rfl,(),?_⟩;have two:(∃a b,eV 35 t=[a,b])∨(∀a b,eV 35 t≠[a,b]):=by
   by_cases z:∃a b,eV 35 t=[a,b]
   ·exact .inl z
   ·exact .inr λr s e=>z ⟨r,s,e⟩
  rcases two with ⟨a,b,e2⟩ | hno
  ·have e:kF t=FB (kc a) (gd 1 5 b):=by unfold kF;rw[if_neg c1,e2]
   rw[e] at q;have h1:=hml a (by rw[e2];simp);have h2:=hml b (by rw[e2];simp);rw[e2];refine ik rfl ⟨(),ps,_,(()),SqL.of eJ,rfl,a,rfl,⋯,λH1 s1=>?_⟩;refine⟨(),ps,_,(()),SqL.of (s1 _ _ eJ),rfl,b,1,5,rfl,⋯,λH2 s2=>?_⟩;rw[e2] at s0;cases ew:kc a with
   |none=>
    rw[ew] at q;exact⟨(),rfl,(),jI rfl (q _ _ (s0.trans (s1.trans s2)) rfl)⟩
   |some wd=>
    rw[ew] at q;refine⟨(),rfl,(),ik rfl ⟨(),rfl,(),?_⟩⟩;cases en:gd 1 5 b with
    |none=>
     rw[en] at q;exact jI rfl (q _ _ (s0.trans (s1.trans s2)) rfl)
    |some m=>
     rw[en] at q;exact ik rfl ⟨(),(),λxo dx nx ndx nex=>⟨xo,dx,_,(),eJ,rfl,q _ _ (s0.trans (s1.trans (s2.trans (Re nx ndx)))) ⟨xo,rfl,dx,eJ⟩⟩⟩
  ·have hlen:¬(eV 35 t).length=2:=λe=>by
    match h:eV 35 t,e with
    |[r,s],_=>exact hno r s h
   have e:kF t=none:=by
    unfold kF;rw[if_neg c1];split
    ·rename_i a b h;exact absurd h (hno a b)
    ·rfl
   rw[e] at q;refine jI ?_ (q _ _ s0 rfl);rw[d7 λz=>hlen (by have z:=V.int.inj z;rw[aQ] at z;omega)];rfl
theorem Ka:Dx P w base ZZ.da 7 (TR K aK aL):=by
 refine ZZ.da.dfs UB (by trivial) ?_;rintro _ _ _ _ s H _ Q E hr⟨l,lo,hi,wk,rfl,hb,hok,q⟩;refine⟨_,(eH (fo (tW (jv (jt (g9 (gh mJ ZZ.aa PyProof.Rows.boot_isinstance (A2 Y0 (k9 ZZ.ac PyProof.Rows.boot_str))))) (jJ (eZ jO (gh wq ZZ.ae PySem.boot_len (A1 Y0)) (fF (v:=.int 300) ZZ.bc ⟨()⟩))))) (eG jc) ft) (eH (eU 4 (nh Y0 (gp [44])) UB.nd) (eH (eU 5 eI UB.nd) (eH (eU 6 (gB aN) UB.nd) (eH (io (iE ZZ.av (jT (nI (K:=K)) Y4 j5 (j9 (fF (v:=.int 40) ZZ.ai ⟨()⟩)))) (k7 (K:=K) (gg (gN 7 UB.nd) (gg (gN 8 UB.nd) j6))) (eH (eU 9 (eD (x4 ZZ) hr (A3 Y8 Y1 Y2)) UB.nd) (eG (fo (eZ jh Y9 eN) (eH (eU 10 (kH (Jj ((RA ZZ).at_ ZZ.a4) hr Y3 (A1 Y8)) (Jj ((RL ZZ).at_ ZZ.am) hr Y3 (A1 Y8))) UB.nd) (eH (fo (tW (jv (eZ jh (v_ 10) eN) (jJ (eZ fZ (gh (jD (K:=K)) ZZ.ae PySem.boot_len (A1 Y6)) (fF (v:=.int 20) ZZ.c3 ⟨()⟩))))) (eG jc) ft) (eG (kO (mT Y6 (v_ 10)))))) (eG (eU 5 (eE lK Y5 Y9) UB.nd))))) PassesOwn.never) (eH (fo (eZ jO (gh (jD (K:=K)) ZZ.ae PySem.boot_len (A1 Y4)) (fF (v:=.int 40) ZZ.ai ⟨()⟩)) (eG jc) ft) (eG (eP (ic (A2 Y5 Y6)))))))))),?_⟩
 extract_lets;have hl:=hok.len;have hml:=nU 44 l;refine⟨(),_,.str,.str,rfl,(by decide),rfl,(),ik rfl ⟨(),l,rfl,(by rw[dW];omega),(()),(),?_⟩⟩;rw[d7 (show ¬(300:Int)<((l.length:Nat):Int) by omega)];refine fN ⟨(),rfl,l,44,rfl,rfl,(by rw[dW];omega),λps hps=>?_⟩;have s0:=eS hps (.lst ((eV 44 l).map λq=>V.str (Tx q)));refine⟨(zL 0),λmk hmk=>?_⟩;have s1:=eS hmk (.lst []);refine⟨(),(),ps,(),SqL.of (s1 _ _ eJ),λpc hpc=>?_⟩
 have ecut:g8 ((eV 44 l).map λq=>V.str (Tx q)) none (some 40)=(eV 44 l).map λq=>V.str (Tx q):=Lc (by rw[aQ];exact hok.few);rw[ecut];have hne:pc≠mk:=λe=>by
  rw[e,eJ] at hpc;cases hpc
 have s1b:=eS hpc (.lst ((eV 44 l).map λq=>V.str (Tx q)));refine⟨pc,rfl,⟨_,SqL.of eJ⟩,ET (K:=K) (a:=pc) (xs:=(eV 44 l).map λq=>V.str (Tx q)) (λi σ H2=>∃(u1 u2 u3 u4:Option V) (qs:List Addr),σ=[some (.str (Tx l)),some (.int lo),some (.int hi),some (.ref (if wk=true then aL else aK)),some (.ref ps),some (.int (fV (gA lo hi ((eV 44 l).take i)))),some (.ref mk),u1,u2,u3,u4]/\Same (upd H ps (.lst ((eV 44 l).map λq=>V.str (Tx q)))) H2/\H2 pc=some (.lst ((eV 44 l).map λq=>V.str (Tx q)))/\H2 mk=some (.lst (qs.map V.ref))/\Ft (MkAt gS H2) qs (gW wk lo hi ((eV 44 l).take i))) ⟨_,_,_,_,[],rfl,s1.trans s1b,eJ,s1b _ _ eJ,.nil⟩ (λi σ H2 _ ⟨_,_,_,_,_,_,_,h,_⟩=>SqL.of h) ?turn ?done⟩
 case turn=>
  rintro i x σ H2 T hx ⟨u1,u2,u3,u4,qs,rfl,s2,h2c,h2m,hq⟩ hT;rw[bG] at hx;cases ew:(eV 44 l)[i]? with
  |none=>rw[ew] at hx;cases hx
  |some w0=>
   rw[ew] at hx;obtain rfl:V.str (Tx w0)=x:=a8 hx;have hw:=hml w0 (aY ew);refine⟨T,(),SqT.of eJ,rfl,_,(),(()),?_⟩;refine⟨(),(),(),w0,lo,hi,rfl,⋯,hb,λH3 s3=>?_⟩;cases em:gf lo hi w0 with
   |some m=>
    have et:(eV 44 l).take (i+1)=(eV 44 l).take i++[w0]:=by rw[b7,ew];rfl
    have s23:=(eS hT _).trans s3;refine⟨(),rfl,(),ik rfl ⟨(),(),(()),?_⟩⟩;exact⟨_,_,_,_,qs,by rw[et,TM em,oI];rfl,s2.trans s23,s23 _ _ h2c,s23 _ _ h2m,by rw[et,Np em];exact hq.keepM s23.keep⟩
   |none=>
    cases wk with
    |false=>
     have hso:(jL false w0).isSome=true:=by
      rcases hok.all w0 (aY ew) with h | h
      ·rw[em] at h;cases h
      ·exact h
     obtain⟨k,ek⟩:=dG.mp hso;have ek':ju w0=some k:=ek;refine⟨(),rfl,(),jI rfl ?_⟩;refine .inl ⟨(),rfl,(),w0,rfl,⋯,λv H4 s4 hv=>?_⟩;rw[ek'] at hv;obtain⟨x,rfl,hx⟩:=hv;have s24:=(eS hT _).trans (s3.trans s4);have hq4:=hq.keepM s24.keep;have lq:qs.length=(gW false lo hi ((eV 44 l).take i)).length:=Paired.length hq;have l1:=Jy false lo hi (eV 44 l) (i+1);have et:(eV 44 l).take (i+1)=(eV 44 l).take i++[w0]:=by rw[b7,ew];rfl
     rw[et,pO em ek,aS,bX] at l1;have hm20:=hok.most;refine⟨(),rfl,(),ik rfl ⟨(),mk,(),.inl (SqL.of (s24 _ _ h2m)),rfl,(),?_⟩⟩;refine f6 (λc=>?_) (λc=>?_)
     ·rw[aQ] at c;omega
     refine⟨(),.inl ⟨rfl,_,SqL.of (s24 _ _ h2m)⟩,(),mk,(()),s24 _ _ h2m,(by rw[aQ,dW];omega),?_⟩;have kp:=tq (l':=qs.map V.ref++[.ref x]) (s24 _ _ h2m);exact⟨_,_,_,_,qs++[x],by rw[et,Lz em];rfl,li hmk (s2.trans s24),by rw[fh hne];exact s24 _ _ h2c,by rw[bE];exact eJ,by rw[et,pO em ek];exact Ft.app (hq4.keepM kp) (.cons (hx.keep kp) .nil)⟩
    |true=>
     have hso:(jL true w0).isSome=true:=by
      rcases hok.all w0 (aY ew) with h | h
      ·rw[em] at h;cases h
      ·exact h
     obtain⟨k,ek⟩:=dG.mp hso;have ek':kF w0=some k:=ek;refine⟨(),rfl,(),jI rfl ?_⟩;refine .inr ⟨(),rfl,(),w0,rfl,⋯,λv H4 s4 hv=>?_⟩;rw[ek'] at hv;obtain⟨x,rfl,hx⟩:=hv;have s24:=(eS hT _).trans (s3.trans s4);have hq4:=hq.keepM s24.keep;have lq:qs.length=(gW true lo hi ((eV 44 l).take i)).length:=Paired.length hq;have l1:=Jy true lo hi (eV 44 l) (i+1);have et:(eV 44 l).take (i+1)=(eV 44 l).take i++[w0]:=by rw[b7,ew];rfl
     rw[et,pO em ek,aS,bX] at l1;have hm20:=hok.most;refine⟨(),rfl,(),ik rfl ⟨(),mk,(),.inl (SqL.of (s24 _ _ h2m)),rfl,(),?_⟩⟩;refine f6 (λc=>?_) (λc=>?_)
     ·rw[aQ] at c;omega
     refine⟨(),.inl ⟨rfl,_,SqL.of (s24 _ _ h2m)⟩,(),mk,(()),s24 _ _ h2m,(by rw[aQ,dW];omega),?_⟩;have kp:=tq (l':=qs.map V.ref++[.ref x]) (s24 _ _ h2m);exact⟨_,_,_,_,qs++[x],by rw[et,Lz em];rfl,li hmk (s2.trans s24),by rw[fh hne];exact s24 _ _ h2c,by rw[bE];exact eJ,by rw[et,pO em ek];exact Ft.app (hq4.keepM kp) (.cons (hx.keep kp) .nil)⟩
 case done=>
  rintro σ H2 ⟨u1,u2,u3,u4,qs,rfl,s2,h2c,h2m,hq⟩;refine⟨(),ps,(),.inl (SqL.of (s2 _ _ eJ)),(()),(),?_⟩;have hfew:=hok.few;rw[d7 (show ¬(40:Int)<((((eV 44 l).map λq=>V.str (Tx q)).length:Nat):Int) by rw[aQ];omega)];rw[aQ,bW] at hq ⊢;refine fN ⟨(),(),(zL 2),λp hp=>?_⟩;have s3:=eS hp (.tup [.int (fV (gA lo hi (eV 44 l))),.ref mk]);exact q p mk qs _ (none_of s0 hmk) (s0.trans (s2.trans s3)) eJ (s3 _ _ h2m) (hq.keepM s3.keep)
theorem VH:Dx P w base ZZ.dq 8 (Tr K):=by
 refine ZZ.dq.dfs Uy (by trivial) ?_;rintro _ _ _ _ s H _ Q E hr⟨l,rfl,hok,q1,q2⟩;refine⟨_,(eH (eU 1 (eD (Ka ZZ) hr (aC Y0 (A3 eI (fF (v:=.int 31) ZZ.bh ⟨()⟩) (fF (v:=.ref aK) ZZ.a4 rfl)))) Uy.nd) (eH (fo (eZ fZ Y0 (gp [42])) (eG (eP eN)) ft) (eH (fo (eZ fZ (eK (fJ (K:=K)) Y1 eI) eI) (eG (eP (eK (fJ (K:=K)) Y1 eI))) ft) (eG (eP (eE JP (gB (A1 (kS ZZ.an (Qs ZZ) hr (A1 (eK (fJ (K:=K)) Y1 eI))))) (eK (fJ (K:=K)) Y1 eI))))))),?_⟩
 extract_lets;refine⟨(),l,1,31,false,rfl,⟨by decide,by decide,by decide⟩,hok,λp m qs H1 hmn s1 hp hm hq=>?_⟩;have lq:qs.length<=20:=by
  have:=Paired.length hq;have:=hok.most;omega
 refine⟨(),rfl,(),ri (λc=>q1 c _ s1) (λc=>?_)⟩;have q2:=q2 c;unfold mm at q2;generalize gW false 1 31 (eV 44 l)=ms at hq q2;generalize fV (gA 1 31 (eV 44 l))=M at hp q2;refine⟨(),p,_,(()),SqT.of hp,rfl,rfl,(),f6 (λc0=>⟨(),p,_,(()),SqT.of hp,rfl,q2 m qs _ hmn s1 hm ?_⟩) (λc0=>?_)⟩
 ·have e:kx false M=[]:=by unfold kx;rw[if_pos c0]
  rw[e];exact hq
 have e:kx false M=[.num M]:=by unfold kx;rw[if_neg c0];rfl
 rw[e] at q2;refine⟨(),p,_,(()),SqT.of hp,rfl,λxo dx nx ndx nex=>⟨xo,dx,(),eJ,rfl,(zL 1),λl1 hl1=>?_⟩⟩;have n1:Same H1 (upd (upd (upd H1 dx (.own xo)) xo (.ins aF dx [])) xo (.ins aF dx [("mask",.int M)])):=mj nx ndx;have n2:=n1.trans (eS hl1 (.lst [.ref xo]));refine⟨(),p,_,(()),SqT.of (n2 _ _ hp),rfl,l1,m,(()),eJ,n2 _ _ hm,(by rw[aQ,dW];show 1+_<=_;omega),λl2 hl2=>?_⟩;have n3:=n2.trans (eS hl2 (.lst ([.ref xo]++qs.map V.ref)))
 exact q2 l2 (xo::qs) _ (none_of (s1.trans n2) hl2) (s1.trans n3) eJ (.cons ⟨dx,(eS hl2 _) _ _ ((eS hl1 _) _ _ eJ)⟩ (hq.keepM n3.keep))
theorem Nc:Dx P w base ZZ.b8 8 (SR K):=by
 refine ZZ.b8.dfs UI (by trivial) ?_;rintro _ _ _ _ s H _ Q E hr⟨l,rfl,hok,q1,q2⟩;refine⟨_,(eH (eU 1 (eD (Ka ZZ) hr (aC Y0 (A3 eI (fF (v:=.int 7) ZZ.aj ⟨()⟩) (fF (v:=.ref aL) ZZ.am rfl)))) UI.nd) (eH (fo (eZ fZ Y0 (gp [42])) (eG (eP eN)) ft) (eH (fo (eZ fZ (eK (fJ (K:=K)) Y1 eI) eI) (eG (eP (eK (fJ (K:=K)) Y1 eI))) ft) (eH (eU 2 (eE m6 (eE lK (eK (fJ (K:=K)) Y1 eI) (eE uv (eK (fJ (K:=K)) Y1 eI) (fF (v:=.int 7) ZZ.aj ⟨()⟩))) (fF (v:=.int 127) ZZ.cc ⟨()⟩)) UI.nd) (eG (eP (eE JP (gB (A1 (kS ZZ.ak (S2 ZZ) hr (A1 Y2)))) (eK (fJ (K:=K)) Y1 eI)))))))),?_⟩
 extract_lets;refine⟨(),l,0,7,true,rfl,⟨by decide,by decide,by decide⟩,hok,λp m qs H1 hmn s1 hp hm hq=>?_⟩;have lq:qs.length<=20:=by
  have:=Paired.length hq;have:=hok.most;omega
 refine⟨(),rfl,(),ri (λc=>q1 c _ s1) (λc=>?_)⟩;have q2:=q2 c;unfold mm at q2;generalize gW true 0 7 (eV 44 l)=ms at hq q2;generalize fV (gA 0 7 (eV 44 l))=M at hp q2;refine⟨(),p,_,(()),SqT.of hp,rfl,rfl,(),f6 (λc0=>⟨(),p,_,(()),SqT.of hp,rfl,q2 m qs _ hmn s1 hm ?_⟩) (λc0=>?_)⟩
 ·have e:kx true M=[]:=by unfold kx;rw[if_pos c0]
  rw[e];exact hq
 have e:kx true M=[.wkd (gn M)]:=by unfold kx;rw[if_neg c0];rfl
 rw[e] at q2;refine⟨(),p,_,(()),SqT.of hp,rfl,(),p,_,(()),SqT.of hp,rfl,(()),(by show (0:Int)<=7;decide),(()),(()),?_⟩;refine⟨(),λxo dx nx ndx nex=>⟨xo,dx,(),eJ,rfl,(zL 1),λl1 hl1=>?_⟩⟩;have n1:Same H1 (upd (upd (upd H1 dx (.own xo)) xo (.ins aG dx [])) xo (.ins aG dx [("mask",.int (gn M))])):=mj nx ndx;have n2:=n1.trans (eS hl1 (.lst [.ref xo]));refine⟨(),p,_,(()),SqT.of (n2 _ _ hp),rfl,l1,m,(()),eJ,n2 _ _ hm,(by rw[aQ,dW];show 1+_<=_;omega),λl2 hl2=>?_⟩
 have n3:=n2.trans (eS hl2 (.lst ([.ref xo]++qs.map V.ref)));exact q2 l2 (xo::qs) _ (none_of (s1.trans n2) hl2) (s1.trans n3) eJ (.cons ⟨dx,(eS hl2 _) _ _ ((eS hl1 _) _ _ eJ)⟩ (hq.keepM n3.keep))
theorem WJ:Dx P w base ZZ.ec 3 (Vd K):=by
 refine ZZ.ec.dfs Ur (by trivial) ?_;rintro _ _ _ _ s H _ Q E hr⟨k,rfl,hk,q⟩;refine⟨_,(eH (eU 1 (eE jZ Y0 eI) Ur.nd) (eH (eU 2 (eE fW Y0 eI) Ur.nd) (eH (fo (eZ fZ Y1 (fF (v:=.int 12) ZZ.bb ⟨()⟩)) (eG (eP (ic (A3 eI (fF (v:=.int 29) ZZ.dh ⟨()⟩) Y2)))) ft) (eG (eP (ic (A3 (eE fq Y1 eI) (eD (Gc ZZ) hr (A2 (fF (v:=.int 1) ZZ.c4 ⟨()⟩) (eE fq Y1 eI))) Y2))))))),?_⟩;extract_lets
 refine⟨(),(()),⟨by decide,by decide⟩,?_⟩;refine⟨(),(()),(by show (0:Int)<7;decide),?_⟩;refine⟨(),rfl,(),f6 (λc=>?_) (λc=>?_)⟩
 ·refine⟨(),(zL 3),λp hp=>?_⟩;exact q p _ (eS hp _) (by unfold mV;rw[if_pos c];exact eJ)
 ·refine⟨(),(()),(),(()),_,(),⟨⋯,⋯⟩,(),(zL 3),λp hp=>?_⟩;exact q p _ (eS hp _) (by unfold mV;rw[if_neg c];exact eJ)
theorem VE:Dx P w base ZZ.ed 3 (RF K):=by
 refine ZZ.ed.dfs UL (by trivial) ?_;rintro _ _ _ _ s H _ Q E hr⟨h,m,rfl,hh,hm,q⟩;refine⟨_,(eH (eU 2 eI UL.nd) (eH (io (i8 (K:=K) (eD (D1 ZZ) hr (A1 Y0))) (gN 3 UL.nd) (eG (eU 2 (eE lK Y2 (eE kD Y1 (eE g6 (fF (v:=.int 60) ZZ.cb ⟨()⟩) Y3))) UL.nd)) PassesOwn.never) (eG (eP Y2)))),?_⟩;extract_lets;have bh:=pU hh.1 hh.2;have bm:=pU hm.1 hm.2;refine⟨(),h,rfl,⟨hh.1,⋯⟩,λp H1 s1 h1=>⟨p,rfl,⟨_,SqL.of h1⟩,kE (K:=K) (a:=p) (xs:=(j7 h).map V.int) (λi σ H2=>∃(v3:Option V),σ=[some (.int h),some (.int m),some (.int (fV (((j7 h).take i).map λz=>m*2^(60*z).toNat))),v3]/\Same H1 H2) ⟨(),Same.refl _⟩ (λi σ H2 _ ⟨_,_,s2⟩=>SqL.of (s2 _ _ h1)) ?turn ?done⟩⟩
 case done=>
  rintro σ H2 ⟨v3,rfl,s2⟩;rw[aQ,bW];exact⟨(),q _ H2 rfl (s1.trans s2)⟩
 case turn=>
  rintro i x σ H2 hx ⟨v3,rfl,s2⟩;rw[bG] at hx;cases ez:(j7 h)[i]? with
  |none=>rw[ez] at hx;cases hx
  |some z=>
   rw[ez] at hx;obtain rfl:V.int z=x:=a8 hx;have et:fV (((j7 h).take (i+1)).map λz=>m*2^(60*z).toNat)=Builtin.bitOr (fV (((j7 h).take i).map λz=>m*2^(60*z).toNat)) (m*2^(60*z).toNat):=by rw[b7,ez,bE];exact oI _ _
   rw[et];have hz:=aY ez;rw[nS hh.1 hh.2] at hz;obtain⟨n,hn,_,rfl⟩:=flt_mem.mp hz;refine⟨(),(),(),(()),.inl ⟨by decide,by decide⟩,(()),⟨?_,?_,?_⟩,(()),?_⟩
   ·omega
   ·omega
   ·omega
   ·exact⟨(),s2⟩
theorem VM:Dx P w base ZZ.em 5 (TC K):=by
 refine ZZ.em.dfs Ul (by trivial) ?_;rintro _ _ _ _ s H _ Q E hr⟨dv,wv,kd,kw,l,fi,rfl,hd,hw,hlf,q⟩;refine⟨_,(eH (fo (tW (rf (eZ jh Y0 eN) (qm (eZ jh Y1 eN)))) (eG (eP (eD (rW ZZ) hr (A1 Y2)))) ft) (eH (eU 4 eI Ul.nd) (eH (io (iT (ic (A2 Y0 Y1))) (gN 5 Ul.nd) (eG (fo (eZ Mu Y5 eN) (eG (eU 4 (eE lK Y4 (eD (Pe ZZ) hr (A3 Y5 Y2 Y3))) Ul.nd)) ft)) PassesOwn.never) (eG (eP Y4))))),?_⟩
 extract_lets;have loop:kd.isNone=false∨kw.isNone=false->hV kd kw l fi=iK kw (iK kd 0 l fi) l fi:=λh=>by
  unfold hV;rw[if_neg];rintro⟨h1,h2⟩;rcases h with h | h
  ·rw[h] at h1;cases h1
  ·rw[h] at h2;cases h2
 cases kd with
 |none=>
  have ed:dv=.non:=hd;subst ed;cases kw with
  |none=>
   have ew:wv=.non:=hw;subst ew;refine⟨(),rfl,(),?_⟩;show if decide (V.non=V.non)=true then _ else _
   rw[dZ rfl];refine gH ⟨(),rfl,(),?_⟩;show if decide (V.non=V.non)=true then _ else _
   rw[dZ rfl];exact gH ⟨(),l,rfl,hlf.1,q H (Same.refl _)⟩
  |some kw=>
   rw[loop (.inr rfl)] at q;refine⟨(),rfl,(),?_⟩;show if decide (V.non=V.non)=true then _ else _
   rw[dZ rfl];obtain⟨pw,qw,rfl,lw,fw,ow⟩:=hw;refine gH ⟨(),rfl,(),fN ?_⟩;refine⟨(),(),(zL 2),λtt ht=>⟨tt,rfl,⟨_,SqT.of eJ⟩,ql (K:=K) (a:=tt) (xs:=[V.non,(V.ref pw)]) (λi σ H2=>∃v5:Option V,σ=[some V.non,some (V.ref pw),some (.int l),some (.int fi),some (.int (match i with | 0=>0 | 1=>iK none 0 l fi | _=>iK (some kw) (iK none 0 l fi) l fi)),v5]/\Same (upd H tt (.tup [V.non,(V.ref pw)])) H2) ⟨(),Same.refl _⟩ (λi σ H2 _ ⟨_,_,s2⟩=>SqT.of (s2 _ _ eJ)) ?turn ?done⟩⟩
   case done=>
    rintro σ H2 ⟨v5,rfl,s2⟩;exact⟨(),q H2 ((eS ht _).trans s2)⟩
   case turn=>
    rintro i x σ H2 hx ⟨v5,rfl,s2⟩;have sA:=(eS ht (.tup [V.non,(V.ref pw)])).trans s2
    match i,hx with
    |0,hx=>
     cases hx;refine⟨(),rfl,(),?_⟩;show if (!decide (V.non=V.non))=true then _ else _
     rw[dZ rfl];exact fN ⟨(),s2⟩
    |1,hx=>
     cases hx;exact⟨(),rfl,(),gH ⟨(),(),(),(),pw,qw,kw,l,fi,rfl,SqL.of (sA _ _ lw),fw.keepM sA.keep,ow,hlf,(()),⟨(),s2⟩⟩⟩
    |i+2,hx=>cases hx
 |some kd=>
  rw[loop (.inl rfl)] at q;obtain⟨pd,qd,rfl,ld,fd,od⟩:=hd;refine⟨(),rfl,(),fN ?_⟩;cases kw with
  |none=>
   have ew:wv=.non:=hw;subst ew;refine⟨(),(),(zL 2),λtt ht=>⟨tt,rfl,⟨_,SqT.of eJ⟩,ql (K:=K) (a:=tt) (xs:=[(V.ref pd),V.non]) (λi σ H2=>∃v5:Option V,σ=[some (V.ref pd),some V.non,some (.int l),some (.int fi),some (.int (match i with | 0=>0 | 1=>iK (some kd) 0 l fi | _=>iK none (iK (some kd) 0 l fi) l fi)),v5]/\Same (upd H tt (.tup [(V.ref pd),V.non])) H2) ⟨(),Same.refl _⟩ (λi σ H2 _ ⟨_,_,s2⟩=>SqT.of (s2 _ _ eJ)) ?turn ?done⟩⟩
   case done=>
    rintro σ H2 ⟨v5,rfl,s2⟩;exact⟨(),q H2 ((eS ht _).trans s2)⟩
   case turn=>
    rintro i x σ H2 hx ⟨v5,rfl,s2⟩;have sA:=(eS ht (.tup [(V.ref pd),V.non])).trans s2
    match i,hx with
    |0,hx=>
     cases hx;exact⟨(),rfl,(),gH ⟨(),(),(),(),pd,qd,kd,l,fi,rfl,SqL.of (sA _ _ ld),fd.keepM sA.keep,od,hlf,(()),⟨(),s2⟩⟩⟩
    |1,hx=>
     cases hx;refine⟨(),rfl,(),?_⟩;show if (!decide (V.non=V.non))=true then _ else _
     rw[dZ rfl];exact fN ⟨(),s2⟩
    |i+2,hx=>cases hx
  |some kw=>
   obtain⟨pw,qw,rfl,lw,fw,ow⟩:=hw;refine⟨(),(),(zL 2),λtt ht=>⟨tt,rfl,⟨_,SqT.of eJ⟩,ql (K:=K) (a:=tt) (xs:=[(V.ref pd),(V.ref pw)]) (λi σ H2=>∃v5:Option V,σ=[some (V.ref pd),some (V.ref pw),some (.int l),some (.int fi),some (.int (match i with | 0=>0 | 1=>iK (some kd) 0 l fi | _=>iK (some kw) (iK (some kd) 0 l fi) l fi)),v5]/\Same (upd H tt (.tup [(V.ref pd),(V.ref pw)])) H2) ⟨(),Same.refl _⟩ (λi σ H2 _ ⟨_,_,s2⟩=>SqT.of (s2 _ _ eJ)) ?turn ?done⟩⟩
   case done=>
    rintro σ H2 ⟨v5,rfl,s2⟩;exact⟨(),q H2 ((eS ht _).trans s2)⟩
   case turn=>
    rintro i x σ H2 hx ⟨v5,rfl,s2⟩;have sA:=(eS ht (.tup [(V.ref pd),(V.ref pw)])).trans s2
    match i,hx with
    |0,hx=>
     cases hx;exact⟨(),rfl,(),gH ⟨(),(),(),(),pd,qd,kd,l,fi,rfl,SqL.of (sA _ _ ld),fd.keepM sA.keep,od,hlf,(()),⟨(),s2⟩⟩⟩
    |1,hx=>
     cases hx;exact⟨(),rfl,(),gH ⟨(),(),(),(),pw,qw,kw,l,fi,rfl,SqL.of (sA _ _ lw),fw.keepM sA.keep,ow,hlf,(()),⟨(),s2⟩⟩⟩
    |i+2,hx=>cases hx
theorem NQ:Dm P w mg base ZZ.cl 4 (Xf K aA):=by
 refine ZZ.cl.dfs Ov (by trivial) ?_;rintro f _ _ _ s H _ Q E hr⟨p,dx,fa,m0,m1,m3,dv,wv,rfl,hp,hf,h0,h1,q⟩;refine⟨_,(eH (iR Y0 (eK (fk (K:=K)) Y1 (fF (v:=.int 0) ZZ.eq ⟨()⟩))) (eH (iR Y0 (eK (fk (K:=K)) Y1 (fF (v:=.int 1) ZZ.ey ⟨()⟩))) (eH (iR Y0 (eK (fk (K:=K)) Y1 (fF (v:=.int 2) ZZ.d2 ⟨()⟩))) (eH (iR Y0 (eK (fk (K:=K)) Y1 (fF (v:=.int 3) ZZ.et ⟨()⟩))) (eH (iR Y0 (eK (fk (K:=K)) Y1 (fF (v:=.int 4) ZZ.bo ⟨()⟩))) (eG (iR Y0 (eD (VE ZZ) hr (A2 (hW (K:=K) Y0) (hW (K:=K) Y0)))))))))),?_⟩
 extract_lets;have hfp:fa≠p:=λe=>by rw[e,hp] at hf;cases hf
 have g0:H fa=some (.lst [.int m0,.int m1,dv,.int m3,wv]):=hf;have g1:(upd H p (.ins aA dx (fj "minute_mask" (.int m0) []))) fa=some (.lst [.int m0,.int m1,dv,.int m3,wv]):=by rw[fh hfp];exact g0
 have g2:(upd (upd H p (.ins aA dx (fj "minute_mask" (.int m0) []))) p (.ins aA dx (fj "hour_mask" (.int m1) (fj "minute_mask" (.int m0) [])))) fa=some (.lst [.int m0,.int m1,dv,.int m3,wv]):=by rw[fh hfp];exact g1
 have g3:(upd (upd (upd H p (.ins aA dx (fj "minute_mask" (.int m0) []))) p (.ins aA dx (fj "hour_mask" (.int m1) (fj "minute_mask" (.int m0) [])))) p (.ins aA dx (fj "day_marks" dv (fj "hour_mask" (.int m1) (fj "minute_mask" (.int m0) []))))) fa=some (.lst [.int m0,.int m1,dv,.int m3,wv]):=by rw[fh hfp];exact g2
 have g4:(upd (upd (upd (upd H p (.ins aA dx (fj "minute_mask" (.int m0) []))) p (.ins aA dx (fj "hour_mask" (.int m1) (fj "minute_mask" (.int m0) [])))) p (.ins aA dx (fj "day_marks" dv (fj "hour_mask" (.int m1) (fj "minute_mask" (.int m0) []))))) p (.ins aA dx (fj "month_mask" (.int m3) (fj "day_marks" dv (fj "hour_mask" (.int m1) (fj "minute_mask" (.int m0) [])))))) fa=some (.lst [.int m0,.int m1,dv,.int m3,wv]):=by rw[fh hfp];exact g3
 have g5:(upd (upd (upd (upd (upd H p (.ins aA dx (fj "minute_mask" (.int m0) []))) p (.ins aA dx (fj "hour_mask" (.int m1) (fj "minute_mask" (.int m0) [])))) p (.ins aA dx (fj "day_marks" dv (fj "hour_mask" (.int m1) (fj "minute_mask" (.int m0) []))))) p (.ins aA dx (fj "month_mask" (.int m3) (fj "day_marks" dv (fj "hour_mask" (.int m1) (fj "minute_mask" (.int m0) [])))))) p (.ins aA dx (fj "weekday_marks" wv (fj "month_mask" (.int m3) (fj "day_marks" dv (fj "hour_mask" (.int m1) (fj "minute_mask" (.int m0) []))))))) fa=some (.lst [.int m0,.int m1,dv,.int m3,wv]):=by rw[fh hfp];exact g4
 have l5:∀(f:Str) (v:V),(gM m0 m1 dv m3 wv 0).lookup f=some v->f≠"time_mask"->(fj "weekday_marks" wv (fj "month_mask" (.int m3) (fj "day_marks" dv (fj "hour_mask" (.int m1) (fj "minute_mask" (.int m0) []))))).lookup f=some v:=λf v h hne=>by
  unfold gM at h;rw[fK,if_neg hne] at h;exact h
 refine⟨(),fa,_,(()),SqL.of g0,rfl,(),p,aA,dx,(),hp,ZZ.ab.cl,ZZ.as,(by show 0<1000;decide),(),fa,_,(()),SqL.of g1,rfl,(),p,aA,dx,(),eJ,ZZ.ab.cl,ZZ.a1,(by show 1<1000;decide),(),fa,_,(()),SqL.of g2,rfl,(),p,aA,dx,(),eJ,ZZ.ab.cl,ZZ.a2,(by show 2<1000;decide),(),fa,_,(()),SqL.of g3,rfl,(),p,aA,dx,(),eJ,ZZ.ab.cl,ZZ.aw,(by show 3<1000;decide),(),fa,_,(()),SqL.of g4,rfl,(),p,aA,dx,(),eJ,ZZ.ab.cl,ZZ.al,(by show 4<1000;decide),(),p,aA,dx,_,(),eJ,ZZ.ab.cl,ZZ.a1,l5 _ _ (VO ..) (by decide +kernel),(),p,aA,dx,_,(),eJ,ZZ.ab.cl,ZZ.as,l5 _ _ (Qj ..) (by decide +kernel),m1,m0,rfl,h1,h0,λt HT ht sT=>?_⟩
 refine⟨(),p,aA,dx,(),sT _ _ eJ,ZZ.ab.cl,ZZ.a3,(by show 5<1000;decide),q t _ ht eJ λb o hb hne=>?_⟩;rw[fh hne];refine sT _ _ ?_;rw[fh hne,fh hne,fh hne,fh hne,fh hne];exact hb
theorem yS:Dm P w mg base ZZ.cx 6 (Pf K aA):=by
 refine ZZ.cx.dfs U1 (by trivial) ?_;rintro _ _ _ _ s H _ Q E hr⟨p,dx,m0,m1,m3,tm,k,dv,wv,kd,kw,rfl,hp,hk,hm,hd,hw,q⟩;refine⟨_,(eH (eU 2 (eD (WJ ZZ) hr (A1 Y1)) U1.nd) (eH (fo (jt (g9 (eD (Gk ZZ) hr (A2 (hW (K:=K) Y0) (eK (fJ (K:=K)) Y2 eI))))) (eG (eP eI)) ft) (eG (eP (eD (VM ZZ) hr (aC (hW (K:=K) Y0) (A3 (hW (K:=K) Y0) (eK (fJ (K:=K)) Y2 eI) (eK (fJ (K:=K)) Y2 eI)))))))),?_⟩
 extract_lets;have ml:=lC hk.1 hk.2;refine⟨(),k,rfl,hk,λt H1 s1 h1=>?_⟩;rw[FW] at h1;have hp1:=s1 _ _ hp;refine⟨(),p,aA,dx,_,(),hp1,ZZ.ab.cl,ZZ.aw,WF ..,(),t,_,(()),SqT.of h1,rfl,m3,iM k,rfl,⟨hm,⋯⟩,(),?_⟩;by_cases c:tb m3 (iM k).toNat=true
 ·rw[if_pos c] at q;rw[c];refine fN ⟨(),p,aA,dx,_,(),hp1,ZZ.ab.cl,ZZ.a2,Vq ..,(),p,aA,dx,_,(),hp1,ZZ.ab.cl,ZZ.al,ND ..,(),t,_,(()),SqT.of h1,rfl,(),t,_,(()),SqT.of h1,rfl,dv,wv,kd,kw,gj k,k%7,rfl,hd.keep s1,hw.keep s1,ml.2,λH' s'=>q H' (s1.trans s')⟩
 ·have c':tb m3 (iM k).toNat=false:=by simpa using c
  rw[if_neg c] at q;rw[c'];exact gH (q H1 s1)
theorem R6:Dx P w base ZZ.dr 9 (Su K):=by
 refine ZZ.dr.dfs UJ (by trivial) ?_;rintro _ _ _ _ s H _ Q E hr⟨t,pl,rfl,h⟩;refine⟨_,(eH (fo (eZ fZ Y1 (fF (v:=.int 2) ZZ.d2 ⟨()⟩)) (eG (eP (eD (VH ZZ) hr (A1 Y0)))) ft) (eH (fo (eZ fZ Y1 (fF (v:=.int 4) ZZ.bo ⟨()⟩)) (eG (eP (eD (Nc ZZ) hr (A1 Y0)))) ft) (eH (eU 2 (tQ (fF (v:=.ref a_BOUNDS) ZZ.er rfl) Y1) UJ.nd) (eG (eP (eD (OO ZZ) hr (A3 Y0 (eK (fJ (K:=K)) Y2 eI) (eK (fJ (K:=K)) Y2 eI)))))))),?_⟩
 extract_lets;rcases h with ⟨rfl,ko,hT,q⟩ | ⟨rfl,ko,hT,q⟩ | ⟨lo,hi,m,hp,hT,q⟩
 ·cases ko with
  |none=>
   have et:t=[42]:=hT.2.2;exact⟨(),rfl,(),f6 (λ_=>⟨(),t,rfl,hT.2.1,(λ_ H' s'=>q _ H' s' rfl (λp e=>nomatch e)),(λc=>absurd et c)⟩) (λc=>absurd rfl c)⟩
  |some ks=>
   exact⟨(),rfl,(),f6 (λ_=>⟨(),t,rfl,hT.2.1,(λe=>absurd e hT.2.2.1),(λ_ m qs H' hm s' hl hF=>q _ H' s' ⟨m,qs,rfl,hl,by rw[←hT.2.2.2.2];exact hF,λk hk=>(uF hT.2.2.2.1 k hk).2.2⟩ (λp e=>by cases e;exact hm))⟩) (λc=>absurd rfl c)⟩
 ·cases ko with
  |none=>
   have et:t=[42]:=hT.2.2;exact⟨(),rfl,(),f6 (λc=>absurd c (by decide)) (λ_=>⟨(),rfl,(),f6 (λ_=>⟨(),t,rfl,hT.2.1,(λ_ H' s'=>q _ H' s' rfl (λp e=>nomatch e)),(λc=>absurd et c)⟩) (λc=>absurd rfl c)⟩)⟩
  |some ks=>
   exact⟨(),rfl,(),f6 (λc=>absurd c (by decide)) (λ_=>⟨(),rfl,(),f6 (λ_=>⟨(),t,rfl,hT.2.1,(λe=>absurd e hT.2.2.1),(λ_ m qs H' hm s' hl hF=>q _ H' s' ⟨m,qs,rfl,hl,by rw[←hT.2.2.2.2];exact hF,λk hk=>(uF hT.2.2.2.1 k hk).2.2⟩ (λp e=>by cases e;exact hm))⟩) (λc=>absurd rfl c)⟩)⟩
 ·have hl:=hT.len;have hne:pl≠2/\pl≠4:=⋯;rcases hp with ⟨rfl,rfl,rfl⟩ | ⟨rfl,rfl,rfl⟩ | ⟨rfl,rfl,rfl⟩
  ·exact⟨(),rfl,(),f6 (λc=>absurd c (by decide)) (λ_=>⟨(),rfl,(),f6 (λc=>absurd c (by decide)) (λ_=>⟨(),a_BOUNDS,_,_,(),ZZ.bd,rfl,rfl,(),(),a_BOUNDS_0,_,(()),ZZ.bi _,rfl,(),a_BOUNDS_0,_,(()),ZZ.bi _,rfl,t,_,(),hl,⟨by decide,by decide,by decide⟩,hT.ok,λH' s'=>by rw[hT.is];exact q H' s'⟩)⟩)⟩
  ·exact⟨(),rfl,(),f6 (λc=>absurd c (by decide)) (λ_=>⟨(),rfl,(),f6 (λc=>absurd c (by decide)) (λ_=>⟨(),a_BOUNDS,_,_,(),ZZ.bd,rfl,rfl,(),(),a_BOUNDS_1,_,(()),ZZ.bj _,rfl,(),a_BOUNDS_1,_,(()),ZZ.bj _,rfl,t,_,(),hl,⟨by decide,by decide,by decide⟩,hT.ok,λH' s'=>by rw[hT.is];exact q H' s'⟩)⟩)⟩
  ·exact⟨(),rfl,(),f6 (λc=>absurd c (by decide)) (λ_=>⟨(),rfl,(),f6 (λc=>absurd c (by decide)) (λ_=>⟨(),a_BOUNDS,_,_,(),ZZ.bd,rfl,rfl,(),(),a_BOUNDS_3,_,(()),ZZ.bk _,rfl,(),a_BOUNDS_3,_,(()),ZZ.bk _,rfl,t,_,(),hl,⟨by decide,by decide,by decide⟩,hT.ok,λH' s'=>by rw[hT.is];exact q H' s'⟩)⟩)⟩
theorem M9:Dx P w base ZZ.en 10 (XX K):=by
 refine ZZ.en.dfs O2 (by trivial) ?_;rintro _ _ _ _ s H _ Q E hr⟨t,pl,rfl,h⟩;refine⟨_,(eG (WW (eG (eP (eD (R6 ZZ) hr (A2 Y0 Y1)))))),?_⟩;exact⟨(),(),t,pl,rfl,h⟩
theorem Rr:Dx P w base ZZ.ee 11 (SZ K):=by
 refine ZZ.ee.dfs UD (by trivial) ?_;rintro _ _ _ _ s H _ Q E hr⟨w0,w1,w2,w3,w4,m0,m1,m3,kd,kw,rfl,f0,f1,f3,d2,d4,hb,q⟩;refine⟨_,(eH (fo (tW (jv (jt (g9 (gh mJ ZZ.aa PyProof.Rows.boot_isinstance (A2 Y0 (k9 ZZ.ac PyProof.Rows.boot_str))))) (jJ (eZ jO (gh wq ZZ.ae PySem.boot_len (A1 Y0)) (fF (v:=.int 1600) ZZ.bw ⟨()⟩))))) (eG jc) ft) (eH (eU 1 (nh Y0 (gp [32])) UD.nd) (eH (fo (tW (jv (eZ lr (gh (jD (K:=K)) ZZ.ae PySem.boot_len (A1 Y1)) (fF (v:=.int 5) ZZ.d3 ⟨()⟩)) (jJ (eZ (Dl (K:=K)) (gp []) Y1)))) (eG jc) ft) (eG (eP (kS ZZ.ab (NQ ZZ) hr (A1 (NP ["place","word"] [] [] (iE ZZ.av Y1) (λ_ _ _ _ _ _=>k7 (K:=K) (n:=2) (gg (gN 0 (show ((["place","word"]:List Str)++([]:List Str)).Nodup by decide +kernel)) (gg (gN 1 (show ((["place","word"]:List Str)++([]:List Str)).Nodup by decide +kernel)) j6))) (λ_ _ _ _ _ _=>jN) (λ_ _ _ _ _ _=>(eD (M9 ZZ) hr (A2 Y1 Y0))))))))))),?_⟩
 extract_lets;have n32:∀w∈[w0,w1,w2,w3,w4],32∉w:=λw hw=>by
  simp only[aT,cB,or_false] at hw;rcases hw with rfl | rfl | rfl | rfl | rfl
  ·exact f0.sp
  ·exact f1.sp
  ·exact d2.1.1
  ·exact f3.sp
  ·exact d4.1.1
 have nn:∀w∈[w0,w1,w2,w3,w4],w≠[]:=λw hw=>by
  simp only[aT,cB,or_false] at hw;rcases hw with rfl | rfl | rfl | rfl | rfl
  ·exact f0.ne
  ·exact f1.ne
  ·exact d2.1.2
  ·exact f3.ne
  ·exact d4.1.2
 have hs:=oS 32 [w0,w1,w2,w3,w4] (bU _ _) n32;obtain⟨L,eL⟩:∃L,L=fU 32 [w0,w1,w2,w3,w4]:=⟨()⟩;have hl:L.length<=1600:=by
  have:=f0.len;have:=f1.len;have:=f3.len;have:=d2.2.1.len;have:=d4.2.1.len;rw[eL];show (w0++32::(w1++32::(w2++32::(w3++32::w4)))).length<=1600;simp only[aS,bL];omega
 rw[←eL] at hs ⊢;refine⟨(),_,.str,.str,rfl,(by decide),rfl,(),ik rfl ⟨(),L,rfl,(by rw[dW];omega),(()),(),?_⟩⟩;rw[d7 (show ¬(1600:Int)<((L.length:Nat):Int) by omega)];refine fN ⟨(),rfl,L,32,rfl,rfl,(by rw[dW];omega),λps hps=>?_⟩;rw[hs];have s0:=eS hps (.lst ([w0,w1,w2,w3,w4].map λq=>V.str (Tx q)));refine⟨(),ps,(),.inl (SqL.of eJ),rfl,(),v9 rfl ⟨(),ps,(),.inl (SqL.of eJ),rfl,rfl,(),?_⟩⟩;show if pK (.str (Tx [])) ([w0,w1,w2,w3,w4].map λq=>V.str (Tx q))=true then _ else _
 rw[R9 nn];refine fN ⟨(),ps,rfl,⟨_,SqL.of eJ⟩,Wm (xs:=[w0,w1,w2,w3,w4].map λq=>V.str (Tx q)) (λD i l H=>i=0/\l=[]∨(∃l',H D=some (.lst l'))/\RR gS m0 m1 m3 (gO false kd) (gO true kw) D i l H) ?u1 ?u2 (zL 5) (λD _=>.inl ⟨rfl,rfl⟩) (SqL.of eJ) ?st ?dn⟩
 case u1=>
  rintro D i l HX l' (h | ⟨hl,h⟩)
  ·exact .inl h
  ·exact .inr ⟨⟨_,eJ⟩,h.upd hl⟩
 case u2=>
  rintro D i l HX HY s (h | ⟨⟨l',hl⟩,h⟩)
  ·exact .inl h
  ·exact .inr ⟨⟨l',s _ _ hl⟩,h.keep s⟩
 case st=>
  intro i x l D H2 E' F' hx hR hD s2 hz hE hF;have hR':RR gS m0 m1 m3 (gO false kd) (gO true kw) D i l H2:=by
   rcases hR with ⟨rfl,rfl⟩ | h
   ·rfl
   ·exact h.2
  have up:∀{H5:Hp},Same H2 H5->∃l',H5 D=some (.lst l'):=λs=>⟨_,s _ _ hz⟩;have fr:∀{p:Addr},H2 p=none->p≠D:=λh e=>by rw[e,hz] at h;cases h
  match i,hx,hR' with
  |0,hx,e=>cases hx;exact⟨(),(),w0,0,rfl,.inr (.inr ⟨0,59,m0,.inl ⟨rfl,rfl,rfl⟩,f0,λH' s'=>hE _ _ s' (.inr ⟨up s',by rw[e];rfl⟩)⟩)⟩
  |1,hx,e=>cases hx;exact⟨(),(),w1,1,rfl,.inr (.inr ⟨0,23,m1,.inr (.inl ⟨rfl,rfl,rfl⟩),f1,λH' s'=>hE _ _ s' (.inr ⟨up s',by rw[e];rfl⟩)⟩)⟩
  |2,hx,e=>cases hx;exact⟨(),(),w2,2,rfl,.inl ⟨rfl,kd,d2,λv H' s' hv hn=>hE _ _ s' (.inr ⟨up s',v,by rw[e];rfl,hv,λp ep=>fr (hn p ep)⟩)⟩⟩
  |3,hx,⟨dv,e,hd⟩=>cases hx;exact⟨(),(),w3,3,rfl,.inr (.inr ⟨1,12,m3,.inr (.inr ⟨rfl,rfl,rfl⟩),f3,λH' s'=>hE _ _ s' (.inr ⟨up s',dv,by rw[e];rfl,hd.keep s'⟩)⟩)⟩
  |4,hx,⟨dv,e,hd⟩=>cases hx;exact⟨(),(),w4,4,rfl,.inr (.inl ⟨rfl,kw,d4,λv H' s' hv hn=>hE _ _ s' (.inr ⟨up s',dv,v,by rw[e];rfl,hd.keep s',hv,λp ep=>fr (hn p ep)⟩)⟩)⟩
  |i+5,hx,_=>cases hx
 case dn=>
  intro D H2 l hR hD s2 hz;rcases hR with ⟨e,_⟩ | ⟨_,hR⟩
  ·cases e
  obtain⟨dv,wv,rfl,hd,hw⟩:=hR;intro x dx nx ndx nex;have n1:=vh (a:=.own x) (b:=.ins aA dx []) nx ndx;refine⟨x,dx,D,m0,m1,m3,dv,wv,rfl,eJ,n1 _ _ hz,⟨f0.nn,hb.1⟩,⟨f1.nn,hb.2⟩,λtm H' htm hx' hs'=>⟨rfl,?_⟩⟩;have sX:Same H2 H':=λb o hb'=>hs' b o (n1 _ _ hb') (λe=>by rw[e,nx] at hb';cases hb');exact q x dx dv wv tm H' htm (s0.trans (s2.trans sX)) hx' (hd.1.keep sX) (hw.1.keep sX)
theorem GZ:Dm P w mg base ZZ.ds 1 (S7 K aA):=by
 refine ZZ.ds.dfs Oj (by trivial) ?_;rintro _ _ _ _ s H _ Q E hr⟨p,dx,m0,m1,m3,tm,dv,wv,rfl,hp,q⟩;refine⟨_,(eG (eP (hW (K:=K) Y0))),?_⟩;exact⟨(),p,aA,dx,_,(),hp,ZZ.ab.cl,ZZ.a3,Pd ..,q⟩
theorem PB:Dx P w base ZZ.es 1 (N3 K):=by
 refine ZZ.es.dfs Sb (by trivial) ?_;rintro _ _ _ _ s H _ Q E hr⟨m,k,rfl,hm,hk,hj,q⟩;refine⟨_,(eG (eP (eE fG (Dt (eE m6 Y0 (kW kP Y0))) eI))),?_⟩;refine⟨(),(),(),(()),rfl,(),rfl,(()),?_⟩;show Q (.int (((Builtin.Int.intBits (Builtin.bitAnd m (-m)):Nat):Int)-1)) H;rw[QK hm hk hj,QW,show (((k+1:Nat):Int)-1)=k by omega];exact q
theorem pS:Dx P w base ZZ.cm 1 (Wj K):=by
 refine ZZ.cm.dfs Tu (by trivial) ?_;rintro _ _ _ _ s H _ Q E hr⟨a,k,rfl,⟨ns,hS⟩,⟨h0,h9⟩,q⟩;refine⟨_,(eH (fo (eZ kB Y1 (gh (jD (K:=K)) ZZ.ae PySem.boot_len (A1 Y0))) (eG (eP (eK (fk (K:=K)) Y0 Y1))) ft) (eG (eP (eE fW (eE g6 (eE oG (eE fq Y1 eI) eI) eI) eI)))),?_⟩;extract_lets;refine⟨(),(),a,(),.inl hS,(()),(),?_⟩;refine gz (λc=>?_) (λc=>?_)
 ·rw[aQ] at c;have hk:k.toNat<ns.length:=⋯;have ek:k=((k.toNat:Nat):Int):=⋯;have e:gK (ns.map V.int) k=some (.int ns[k.toNat]):=by
   have z:gK (ns.map V.int) ((k.toNat:Nat):Int)=some (.int ns[k.toNat]):=lV (by rw[bG,bH hk];rfl);rw[←ek] at z;exact z
  refine⟨(),(),a,_,(()),hS,e,?_⟩;exact q _
 ·refine⟨(),(()),(()),⟨by decide,by decide,(by show (k+2).natAbs<2^64;omega)⟩,(()),.inr ⟨by decide,by decide⟩,(()),(by show (0:Int)<15485863;decide),?_⟩;exact q _
theorem MV:Dx P w base ZZ.dt 1 (RP K):=by
 refine ZZ.dt.dfs Ud (by trivial) ?_;rintro _ _ _ _ s H _ Q E hr⟨n,rfl,q⟩;refine⟨_,(eH (eU 1 (eE fW (eE g6 (eE fq (eE fW Y0 (eE oG eI eI)) eI) eI) eI) Ud.nd) (eH (eU 2 (eE fW (eE g6 Y1 (eE fq (eE fW Y1 eI) eI)) eI) Ud.nd) (eG (eP (eE fW (eE g6 Y2 (eE fq (eE fW Y2 eI) eI)) eI))))),?_⟩;extract_lets;refine⟨(),(()),⟨by decide,by decide,by decide⟩,(()),(by rw[VS];show (0:Int)<_;decide),(()),(()),.inr ⟨by decide,by decide⟩,(()),(by show (0:Int)<4294967291;decide),?_⟩
 refine⟨(),(),(()),(by show (0:Int)<65521;decide),(()),(()),zB (by decide) (by decide),(()),(by show (0:Int)<999999937;decide),?_⟩;refine⟨(),(),(()),(by show (0:Int)<32749;decide),(()),(()),zB (by decide) (by decide),(()),(by show (0:Int)<2147483629;decide),?_⟩;exact q _ (cW _ (by decide)) (dJ _ (by decide))
theorem rA:Dx P w base ZZ.cy 2 (Py K):=by
 refine ZZ.cy.dfs U4 (by trivial) ?_;rintro _ _ _ _ s H _ Q E hr⟨c,a,b,ss,rfl,hS,hz,hl,q⟩;refine⟨_,(eH (eU 3 (gB aN) U4.nd) (eH (eU 2 (qH Y2 (ka (iU kB (gh sO ZZ.e0 PyProof.Rows.boot_abs (A1 Y0)) (eE oG eI eI)))) U4.nd) (eH (io (i8 (K:=K) Y1) (gN 4 U4.nd) (eG (fo (g9 Y2) (eH (eU 0 (eD (MV ZZ) hr (A1 Y0)) U4.nd) (eG (kO (mT Y3 (eE fW (eE jZ Y0 eI) Y4))))) (eH (kO (mT Y3 (eE fW Y0 Y4))) (eG (eU 0 (eE jZ Y0 Y4) U4.nd))))) PassesOwn.never) (eG (eP Y3))))),?_⟩
 extract_lets;refine⟨(zL 0),λfl hfl=>?_⟩;refine⟨(),(),sN (λ_=>?_) (λ_=>⟨(),(),(()),⟨by decide,by decide,by decide⟩,(()),?_⟩)⟩
 all_goals
  refine⟨(),a,rfl,⟨_,(eS hfl _).seq hS⟩,kE (K:=K) (a:=a) (xs:=ss.map V.int) (λi σ H2=>∃(c':Int) (b':Bool) (u:Option V) (ds:List Int),σ=[some (.int c'),some (.ref a),some (.bl b'),some (.ref fl),u]/\Same H H2/\H2 fl=some (.lst (ds.map V.int))/\Digs ds (ss.take i)) ⟨_,_,_,[],rfl,eS hfl _,eJ,.nil⟩ (λi σ H2 _ ⟨_,_,_,_,_,s2,_⟩=>s2.seq hS) ?_ ?_⟩
  ·rintro i x σ H2 hx ⟨c',b',u,ds,rfl,s2,hf,hd⟩;rw[bG] at hx;cases e:ss[i]? with
   |none=>rw[e] at hx;cases hx
   |some z=>
    rw[e] at hx;obtain rfl:V.int z=x:=a8 hx;have hzz:=hz z (aY e);have et:ss.take (i+1)=ss.take i++[z]:=by rw[b7,e];rfl
    have hdl:(ds.map V.int).length<sizeLine:=by
     have q1:=hd.len;rw[b9] at q1;rw[aQ,dW];omega
    have app:∀d:Int,(ds.map V.int)++[V.int d]=(ds++[d]).map V.int:=λd=>by rw[bE];rfl
    refine⟨(),(),?_⟩;cases b' with
    |true=>
     refine gH ⟨(),(),λr hr0 hr1=>?_⟩;refine⟨(),.inl ⟨rfl,_,SqL.of hf⟩,(),(()),⟨by decide,by decide⟩,(),(()),hzz.1,fl,(()),hf,hdl,?_⟩;refine⟨_,_,_,ds++[r / 8%z],rfl,li hfl s2,by rw[app];exact eJ,?_⟩;rw[et];exact hd.snoc (cW _ (Int.ne_of_gt hzz.1)) (dJ _ hzz.1)
    |false=>
     refine fN ⟨(),.inl ⟨rfl,_,SqL.of hf⟩,(),(),(()),hzz.1,fl,(()),hf,hdl,?_⟩;refine⟨(),(),(()),hzz,?_⟩;refine⟨_,_,_,ds++[c'%z],rfl,li hfl s2,by rw[app];exact eJ,?_⟩;rw[et];exact hd.snoc (cW _ (Int.ne_of_gt hzz.1)) (dJ _ hzz.1)
  ·rintro σ H2 ⟨c',b',u,ds,rfl,s2,hf,hd⟩;rw[aQ,bW] at hd;exact⟨(),q ds fl H2 s2 hf hd⟩
theorem RS:Dx P w base ZZ.db 1 (XC K):=by
 refine ZZ.db.dfs VG (by trivial) ?_;rintro _ _ _ _ s H _ Q E hr⟨i,rfl,q⟩;refine⟨_,(eG (eP (mS (gh ON ZZ.aa PyProof.Rows.boot_isinstance (A2 Y0 (k9 ZZ.bl PyProof.Rows.boot_int))) (ka (Jt (gh OG ZZ.aa PyProof.Rows.boot_isinstance (A2 Y0 (k9 ZZ.c5 PyProof.Rows.boot_bool)))))))),?_⟩;refine⟨(),(),(),?_⟩;refine gH ?_;refine⟨(),(),(),?_⟩;exact q
theorem S6:Dx P w base ZZ.eu 7 (Td K):=by
 refine ZZ.eu.dfs NN (by trivial) ?_;rintro _ _ _ _ s H _ Q E hr⟨p,m0,m1,m3,kd,kw,rfl,hR,q⟩;refine⟨_,(eG (eP (gh Ed ZZ.d4 boot_all (A1 (kn ["row"] [0] (lZ ZZ.ad (A1 (fF (v:=.int 91) ZZ.cd ⟨()⟩))) (λ_ _ _ _ _ _=>jN) (λ_ _ _ _ _ _=>(iU fZ (jF ZZ.ab.cl (yS ZZ) hr Y1 (A1 Y0)) eI))))))),?_⟩;obtain⟨dx,dv,wv,hp,hn,hb,hd,hw⟩:=hR;refine⟨(),by decide,by decide,pQ (λi l=>l=((List.range i).map λk:Nat=>decide (gx m3 kd kw (k:Int)=0)).map V.bl) (zL 91) rfl ?_ ?_⟩
 ·intro i l D H3 E' F' hi hR hD s3 hl hE hF;subst hR;have hi':i<91:=hi;refine⟨(),p,dx,(),s3 _ _ hp,LN ..,(),p,dx,m0,m1,m3,hZ m1 m0,_,dv,wv,kd,kw,rfl,s3 _ _ hp,⟨⋯,⋯⟩,hn.2.2,hd.keep s3,hw.keep s3,λH4 s4=>⟨rfl,hE _ _ s4 ?_⟩⟩;rw[cY,bE,bE];have e:decide (V.int (gx m3 kd kw (0+(i:Int)))=V.int 0)=decide (gx m3 kd kw (i:Int)=0):=by rw[Int.zero_add];exact decide_eq_decide.mpr int_eq
  show _++[V.bl (decide (V.int (gx m3 kd kw (0+(i:Int)))=V.int 0))]=_;rw[e];rfl
 ·intro D H3 l hR hD s3 hl;subst hR;exact⟨D,(),SqL.of hl,q H3 s3⟩
theorem Vz:Dx P w base ZZ.bt 3 (OP K):=by
 refine ZZ.bt.dfs Us (by trivial) ?_;rintro _ _ _ _ s H _ Q E hr⟨rfl,q⟩;refine⟨_,(eH (eU 0 (gB aN) Us.nd) (eH (eU 1 eI Us.nd) (eH (io (lZ ZZ.ad (A1 (fF (v:=.int 400) ZZ.ct ⟨()⟩))) (gN 2 Us.nd) (eG (io (LM ZZ.ad (A2 eI eI)) (gN 3 Us.nd) (eH (eU 4 (eD (OK ZZ) hr (A3 Y2 Y3 Y1)) Us.nd) (eH (kO (mT Y0 (ic (A2 Y1 Y4)))) (eG (eU 1 (eE fq Y1 (eD (Gc ZZ) hr (A2 Y2 Y3))) Us.nd)))) PassesOwn.never)) PassesOwn.never) (eG (eP Y0))))),?_⟩
 extract_lets;refine⟨(zL 0),λl nl=>?_⟩;have d0:eW (12*((0:Nat):Int))=0:=by decide +kernel
 refine⟨(),by decide,by decide,pJ (λi σ H2=>∃(us:List V) (v2 v3 v4:Option V),σ=[some (.ref l),some (.int (eW (12*(i:Int)))),v2,v3,v4]/\Same H H2/\H2 l=some (.lst us)/\Paired (gm H2) us (jw (12*i))) ⟨[],_,_,_,by rw[d0];rfl,eS nl _,eJ,.nil⟩ ?turn ?done⟩
 case done=>
  rintro σ H2 ⟨us,v2,v3,v4,rfl,s2,hl,hp⟩;exact⟨(),q l us H2 nl s2 hl hp⟩
 case turn=>
  rintro i σ H2 hi ⟨us,v2,v3,v4,rfl,s2,hl,hp⟩;have hi4:i<400:=hi;refine⟨_,(),by decide,pJ (λj σ H3=>∃(us:List V) (v3 v4:Option V),σ=[some (.ref l),some (.int (eW (12*(i:Int)+(j:Int)))),some (.int (0+(i:Int))),v3,v4]/\Same H H3/\H3 l=some (.lst us)/\Paired (gm H3) us (jw (12*i+j))) ⟨us,_,_,by rw[show 12*(i:Int)+((0:Nat):Int)=12*(i:Int) by omega];rfl,s2,hl,hp⟩ ?tn ?dn⟩
  case dn=>
   rintro σ H3 ⟨us,v3,v4,rfl,s3,hl,hp⟩;have e:eW (12*(i:Int)+(((13-1:Int).toNat:Nat):Int))=eW (12*((i+1:Nat):Int)):=congrArg eW ⋯;rw[e];exact⟨us,_,_,(),s3,hl,hp⟩
  case tn=>
   rintro j σ H3 hj ⟨us,v3,v4,rfl,s3,hl,hp⟩;have hj12:j<12:=hj;have pl:=ie hp;have ml:(jw (12*i+j)).length=12*i+j:=by unfold jw;rw[aQ,cA]
   obtain⟨k1,k2⟩:=Lw (y:=0+(i:Int)) (m:=1+(j:Int)) ⋯ ⋯;have eM:12*(0+(i:Int))+(1+(j:Int))-1=12*(i:Int)+(j:Int):=⋯;rw[eM] at k1 k2;refine⟨(),(),(),0+(i:Int),1+(j:Int),eW (12*(i:Int)+(j:Int)),rfl,?_⟩;rw[←k1];refine⟨(),.inl ⟨rfl,_,SqL.of hl⟩,(),(),(zL 2),λt nt=>⟨l,(()),eS nt _ _ _ hl,(by rw[dW];omega),?_⟩⟩;refine⟨(),(),(),0+(i:Int),1+(j:Int),rfl,⟨⋯,⋯⟩,(()),?_⟩;have up:=m8 (12*(i:Int)+(j:Int));rw[k2] at up
   rw[←up];have e:eW (12*(i:Int)+(j:Int)+1)=eW (12*(i:Int)+((j+1:Nat):Int)):=congrArg eW ⋯;rw[e];have st:=eS nt (.tup [V.int (eW (12*(i:Int)+(j:Int))),V.int (f7 (12*(i:Int)+(j:Int)))]);refine⟨_,_,(),li nl (s3.trans st),eJ,?_⟩;rw[show 12*i+(j+1)=12*i+j+1 by omega,PZ,show (((12*i+j:Nat)):Int)=12*(i:Int)+(j:Int) by omega];exact qC (st _ _ hl) (lO (p:=(eW (12*(i:Int)+(j:Int)),f7 (12*(i:Int)+(j:Int)))) eJ (jp st hp))
theorem VR:Dx P w base ZZ.cz 1 (TN K):=by
 refine ZZ.cz.dfs Uu (by trivial) ?_;rintro _ _ _ _ s H _ Q E hr⟨l,us,ps,mo,n,rfl,hl,hp,hn,h1,h2,q⟩;refine⟨_,(eH (eU 2 eI Uu.nd) (eH (eU 3 (gh (jD (K:=K)) ZZ.ae PySem.boot_len (A1 Y0)) Uu.nd) (eH (qc (eZ kB Y2 Y3) (eH (eU 4 (eE jZ (eE fq Y2 Y3) eI) Uu.nd) (eG (fo (eZ kG (eK (fJ (K:=K)) (eK (fk (K:=K)) Y0 Y4) eI) Y1) (eG (eU 2 (eE fq Y4 eI) Uu.nd)) (eG (eU 3 Y4 Uu.nd))))) PassesOwn.never) (eG (eP (eE fG Y2 eI)))))),?_⟩
 extract_lets;have pl:=ie hp;refine⟨(),l,(),.inl hl,?_⟩;refine qN (λσ H2=>H2=H/\∃(lo hi:Nat) (v4:Option V),σ=[some (.ref l),some (.int mo),some (.int (lo:Int)),some (.int (hi:Int)),v4]/\lo<=n/\n<=hi/\hi<=ps.length) (λσ _=>match σ with | [_,_,some (.int lo),some (.int hi),_]=>(hi-lo).toNat | _=>0) ⟨rfl,0,us.length,none,rfl,bD _,⋯,⋯⟩ ?_
 rintro σ H2 ⟨rfl,lo,hi,v4,rfl,a1,a2,a3⟩;refine⟨(),(),(()),(),gz (λc=>?_) (λc=>?_)⟩
 ·refine⟨_,λ_ _ h=>h,?_⟩;refine⟨(),(),(()),(()),⟨by decide,by decide⟩,?_⟩;obtain⟨md,hmd⟩:∃md:Nat,(md:Int)=((lo:Int)+(hi:Int)) / 2:=⟨(lo+hi) / 2,⋯⟩;show jG 4 (V.int (((lo:Int)+(hi:Int)) / 2)) _ _ _;rw[←hmd];obtain⟨x,hx⟩:∃x,us[md]? =some x:=⟨_,bH ⋯⟩;obtain⟨t,p,rfl,ht,hpm⟩:=kr hp hx;refine⟨(),(),l,_,(()),hl,lV hx,t,_,(()),SqT.of ht,rfl,(),(()),(),gz (λc2=>?_) (λc2=>?_)⟩
  ·have:md<n:=by
    rcases bP md n with w | w
    ·exact w
    ·have:=h2 md p hpm w;omega
   refine⟨(),(()),?_⟩;exact⟨_,(by show ((hi:Int)-((md:Int)+1)).toNat<((hi:Int)-(lo:Int)).toNat;omega),rfl,rfl,md+1,hi,(),⋯,a2,a3⟩
  ·have:n<=md:=by
    rcases bP md n with w | w
    ·have:=h1 md p hpm w;omega
    ·exact w
   exact⟨(),_,(by show ((md:Int)-(lo:Int)).toNat<((hi:Int)-(lo:Int)).toNat;omega),rfl,rfl,lo,md,(),a1,this,⋯⟩
 ·obtain rfl:lo=n:=⋯;exact⟨(),(()),q⟩
theorem K1:Dx P w base ZZ.b9 1 (RW K):=by
 refine ZZ.b9.dfs Uj (by trivial) ?_;rintro _ _ _ _ s H _ Q E hr⟨l,us,ps,rfl,hl,hp,hf,q⟩;refine⟨_,(eG (io (iZ ZZ.e1 Y0 (jT (nI (K:=K)) Y0 (j9 eI) j5)) (k7 (K:=K) (gg (gN 1 Uj.nd) (gg (gN 2 Uj.nd) j6))) (eG (fo (eZ kB (eE fG (eK (fJ (K:=K)) Y2 eI) (eK (fJ (K:=K)) Y1 eI)) (fF (v:=.int 4320) ZZ.b2 ⟨()⟩)) (eG jc) ft)) PassesOwn.never)),?_⟩;refine⟨(),(),(),l,(),SqL.of hl,λb nb=>?_⟩
 rw[uu];have s1:=eS nb (.lst (us.drop 1));have gb:upd H b (.lst (us.drop 1)) b=some (.lst (us.drop 1)):=eJ;generalize upd H b (.lst (us.drop 1))=H1 at s1 gb ⊢;refine⟨l,b,rfl,rfl,⟨_,SqL.of (s1 _ _ hl)⟩,⟨_,SqL.of gb⟩,Nq (K:=K) (a:=l) (b:=b) (xs:=us) (ys:=us.drop 1) (by rw[cU];omega) (λi σ H2=>∃v1 v2:Option V,σ=[some (.ref l),v1,v2]/\Same H1 H2) ⟨_,(),Same.refl _⟩ (λi σ H2 _ ⟨_,_,_,z⟩=>⟨SqL.of (z _ _ (s1 _ _ hl)),SqL.of (z _ _ gb)⟩) ?turn (λσ H2 ⟨_,_,_,z⟩=>q _ (s1.trans z))⟩
 rintro i x y T σ H2 hx hy ⟨v1,v2,rfl,s2⟩ hT;rw[List.getElem?_drop] at hy;rw[Nat.add_comm 1 i] at hy;obtain⟨t1,p1,rfl,h1,e1⟩:=kr hp hx;obtain⟨t2,p2,rfl,h2,e2⟩:=kr hp hy;have far:=hf i p1 p2 e1 e2;have sT:=eS hT (.tup [V.ref t1,V.ref t2]);have sA:=s1.trans (s2.trans sT);refine⟨T,(),SqT.of eJ,rfl,_,(),(()),?_⟩;exact⟨(),t2,_,(()),SqT.of (sA _ _ h2),rfl,(),t1,_,(()),SqT.of (sA _ _ h1),rfl,(()),(()),(),gz (λc=>absurd c ⋯) (λ_=>⟨_,(),s2.trans sT⟩)⟩
theorem To:Dx P w base ZZ.eo 7 (TK K):=by
 refine ZZ.eo.dfs Uv (by trivial) ?_;rintro _ _ _ _ s H _ Q E hr⟨l,us,Ps,k,rfl,hl,hP,hk,nd,hz,q⟩;refine⟨_,(eH (eU 2 (gB aN) Uv.nd) (eH (io (iT Y0) (k7 (K:=K) (gg (gN 3 Uv.nd) (gg (gN 4 Uv.nd) j6))) (eH (eU 5 (eD (PB ZZ) hr (A1 (An ZZ.ab.cl (GZ ZZ) hr Y3))) Uv.nd) (eG (io (i8 (K:=K) (eD (D1 ZZ) hr (A1 (jF ZZ.ab.cl (yS ZZ) hr Y3 (A1 Y1))))) (gN 6 Uv.nd) (eG (kO (mT Y2 (ic (A2 (eE fq (eE g6 (fF (v:=.int 1440) ZZ.a9 ⟨()⟩) (eE fG Y6 eI)) Y5) Y4))))) PassesOwn.never))) PassesOwn.never) (eG (eP (gh Kr ZZ.bx PyProof.Rows.boot_sorted (A1 Y2)))))),?_⟩
 extract_lets;refine⟨(zL 0),λF nF=>?_⟩;refine⟨(),l,rfl,⟨_,SqT.of (eS nF _ _ _ hl)⟩,ql (K:=K) (a:=l) (xs:=us) (λi σ H2=>∃(fs:List V) (v3 v4 v5 v6:Option V),σ=[some (.ref l),some (.int k),some (.ref F),v3,v4,v5,v6]/\Same H H2/\H2 F=some (.lst fs)/\Paired (gm H2) fs (page (Ps.take i) k)) ⟨[],_,_,_,(),eS nF _,eJ,.nil⟩ (λi σ H2 _ ⟨_,_,_,_,_,_,z,_⟩=>SqT.of (z _ _ hl)) ?turn ?done⟩
 case done=>
  rintro σ H2 ⟨fs,v3,v4,v5,v6,rfl,s2,hF,hp⟩;rw[ie hP,bW] at hp;refine⟨(),F,fs,(),SqL.of hF,hp,hz,nd,λD us' ps' nD hp' pm pw=>?_⟩;have sD:=eS nD (.lst us');exact q D us' ps' _ (mw s2 nD) (s2.trans sD) eJ (jp sD hp') pm pw
 case turn=>
  rintro i x σ H2 hx ⟨fs,v3,v4,v5,v6,rfl,s2,hF,hp⟩;obtain⟨P,hPi,hput⟩:=kU hP hx;have htk:Ps.take (i+1)=Ps.take i++[P]:=by rw[cG,hPi];rfl
  obtain⟨t,x,rfl,ht,hR,tpos,tbit,tlow⟩:=hput.keep s2;refine⟨t,(),SqT.of ht,rfl,_,(),(()),?_⟩;obtain⟨dx,dv,wv,hpx,hn,_,hd,hw⟩:=id hR;refine⟨(),x,dx,(),hpx,H0 ..,x,dx,_,_,_,_,dv,wv,rfl,hpx,_,P.tm,rfl,tpos,tbit,tlow,?_⟩;have kd:=pW hd;have kw:=pW hw;obtain⟨b1,b2⟩:=JS (m3:=P.m3) kd kw hk.1 hk.2;refine⟨(),x,dx,(),hpx,LN ..,(),x,dx,_,_,_,_,k,dv,wv,_,(),hpx,hk,hn.2.2,hd,hw,λH3 s3=>?_⟩;refine⟨gx P.m3 P.kd P.kw k,rfl,⟨b1,by have:=pU b1 b2;omega⟩,λp' H4 s4 hp4=>?_⟩
  have s34:=s3.trans s4;refine⟨p',rfl,⟨_,SqL.of hp4⟩,kE (K:=K) (a:=p') (xs:=(lW P k).map V.int) (λj σ H5=>∃(gs:List V) (v6:Option V),σ=[some (.ref l),some (.int k),some (.ref F),some (.ref x),some (.int P.off),some (.int (P.tm:Int)),v6]/\Same H H5/\H5 p'=some (.lst ((lW P k).map V.int))/\(lW P k≠[]->p'≠F)/\H5 F=some (.lst gs)/\Paired (gm H5) gs (page (Ps.take i) k++((lW P k).take j).map λd=>(1440*(d-1)+(P.tm:Int),P.off))) ⟨fs,(),s2.trans s34,hp4,?ne,s34 _ _ hF,(by rw[List.take_zero,List.map_nil,b8];exact jp s34 hp)⟩ (λj σ H5 _ ⟨_,_,_,_,z,_⟩=>SqL.of z) ?tn ?dn⟩
  case dn=>
   rintro σ H5 ⟨gs,v6,rfl,s5,h5,ne,hF5,hp5⟩;rw[aQ,bW] at hp5;refine⟨gs,_,_,_,(),s5,hF5,?_⟩;rw[htk,Vu];exact hp5
  case ne=>
   intro hne;have hF4:=s34 _ _ hF;refine Q7 hp4 hF4 λe=>?_;have e:(j7 (gx P.m3 P.kd P.kw k)).map V.int=fs:=by injection e
   obtain⟨d,r,ed⟩:=List.exists_cons_of_ne_nil hne;have m:V.int d∈fs:=by rw[←e,show j7 (gx P.m3 P.kd P.kw k)=d::r from ed];exact bF
   obtain⟨n,hn,en⟩:=List.getElem_of_mem m;obtain⟨t',_,e',_⟩:=kr hp (show fs[n]? =some (V.int d) by rw[bH hn,en]);cases e'
  case tn=>
   rintro j y σ H5 hy ⟨gs,v6,rfl,s5,h5,ne,hF5,hp5⟩;rw[bG] at hy;obtain⟨d,hd',rfl⟩:=dE.mp hy;have hne:p'≠F:=ne λz=>by rw[z] at hd';cases hd'
   have lg:=pj hp5;have lp:gs.length<=(page Ps k).length:=by
    rw[lg,MZ hPi];unfold me;simp only[aS,aQ,b9];omega
   refine⟨(),.inl ⟨rfl,_,SqL.of hF5⟩,(),(()),(()),.inl ⟨by decide,by decide⟩,(),(()),(),(zL 2),λT nT=>⟨F,(()),eS nT _ _ _ hF5,(by rw[dW];omega),?_⟩⟩;have sT:=eS nT (.tup [V.int (1440*(d-1)+(P.tm:Int)),V.int P.off]);refine⟨gs++[.ref T],(),li nF (s5.trans sT),?_,ne,eJ,?_⟩
   ·rw[fh hne];exact sT _ _ h5
   ·rw[cG,hd',bE,←dF];exact qC (sT _ _ hF5) (lO (p:=(1440*(d-1)+(P.tm:Int),P.off)) eJ (jp sT hp5))
theorem WA:Dx P w base ZZ.ca 8 (Ol K):=by
 refine ZZ.ca.dfs Uw (by trivial) ?_;rintro _ _ _ _ s H _ Q E hr⟨l,us,Ps,pg,t0,tr,rfl,hl,hP,hpg,h0,hfar,q⟩;refine⟨_,(eH (Ei 1 ["puts"] [0] (lZ ZZ.ad (A1 (fF (v:=.int 91) ZZ.cd ⟨()⟩))) (λ_ _ _ _ _ _=>jN) (λ_ _ _ _ _ _=>(eD (To ZZ) hr (A2 Y1 Y0))) Uw.nd) (eH (io (i8 (K:=K) Y1) (gN 2 Uw.nd) (eG (kO (eD (K1 ZZ) hr (A1 Y2)))) PassesOwn.never) (eH (eU 3 (gB aN) Uw.nd) (eH (io (i8 (K:=K) (Pk (Vz ZZ) hr)) (k7 (K:=K) (gg (gN 4 Uw.nd) (gg (gN 5 Uw.nd) j6))) (eG (io (i8 (K:=K) (eK (fk (K:=K)) Y1 Y5)) (k7 (K:=K) (gg (gN 6 Uw.nd) (gg (gN 7 Uw.nd) j6))) (eG (kO (mT Y3 (ic (A2 (eE fq (eE g6 (fF (v:=.int 1440) ZZ.a9 ⟨()⟩) Y4) Y6) Y7))))) PassesOwn.never)) PassesOwn.never) (eH (kO (eD (K1 ZZ) hr (A1 (eE rH Y3 (gB (A1 (ic (A2 (eE fq (eK (fJ (K:=K)) (eK (fk (K:=K)) Y3 eI) eI) (fF (v:=.int 210379680) ZZ.be ⟨()⟩)) (eK (fJ (K:=K)) (eK (fk (K:=K)) Y3 eI) eI))))))))) (eG (eP Y3))))))),?_⟩
 extract_lets;refine⟨(),by decide,by decide,Ni (λD i w Hx=>Paired (PgA (gr Hx D)) w ((List.range i).map λk:Nat=>pg (k:Int))) (λD i w Hx l0 l1 hD nD h=>by rw[oo];exact h) (zL 91) (λD nD=>.nil) ?st ?dn⟩
 case st=>
  intro i w D H2 E' F' hi hR nD s2 hD hE hF;have hi':i<91:=hi;obtain⟨g1,g2,g3,g4⟩:=hpg (i:Int) ⋯ ⋯;refine⟨(),(),l,us,Ps,(i:Int),(by rw[Int.zero_add];rfl),s2 _ _ hl,Paired.mapP hP (λ_ _ z=>z.keep s2),⟨⋯,⋯⟩,g1.nodup_iff.mp (WK g2),(by rw[←g1.length_eq];exact g3),λl' us' ps' H5 nl s5 hl' hp' pm pw=>hE _ _ s5 ?_⟩;obtain rfl:ps'=pg (i:Int):=DE (pm.trans g1.symm) pw g2;have ne:l'≠D:=λe=>by rw[e,hD] at nl;cases nl
  rw[cY,bE];have e5:=pG (a:=D) s5;refine Ld ⟨l',us',rfl,(gU ne).trans hl',?_⟩ (pP e5 hR);refine Paired.mapP hp' λ_ _ ⟨t,e,ht⟩=>⟨t,e,?_⟩;rw[gU (λz=>by rw[z,s5 _ _ hD] at ht;cases ht)];exact ht
 case dn=>
  intro D H2 w hR nD s2 hD;have hR2:=pP (mF (a:=D)) hR;refine⟨(),D,rfl,⟨_,SqL.of hD⟩,kE (K:=K) (a:=D) (xs:=w) (λi σ H3=>∃v2:Option V,σ=[some (.ref l),some (.ref D),v2,none,none,none,none,none]/\Same H2 H3) ⟨(),Same.refl _⟩ (λi σ H3 _ ⟨_,_,z⟩=>SqL.of (z _ _ hD)) ?t1 ?d1⟩
  case t1=>
   rintro i x σ H3 hx ⟨v2,rfl,s3⟩;obtain⟨ps,hps,l1,us1,rfl,hl1,hp1⟩:=kU hR2 hx;rw[bG] at hps;obtain⟨kk,hkk,rfl⟩:=dE.mp hps;have hlt:kk<91:=bR.mp (aY hkk);exact⟨(),l1,us1,(),s3 _ _ hl1,jp s3 hp1,(hpg (kk:Int) ⋯ ⋯).2.2.2,λH4 s4=>⟨(),s3.trans s4⟩⟩
  case d1=>
   rintro σ H3 ⟨v2,rfl,s3⟩;refine⟨(zL 0),λT nT=>?_⟩;have sT:=eS nT (.lst []);refine⟨rfl,λml us H4 nm s4 hm hp=>?_⟩;have hT4:H4 T=some (.lst []):=s4 _ _ eJ;have s34:Same H3 H4:=sT.trans s4;have neT:ml≠T:=λe=>by rw[e,eJ] at nm;cases nm
   have sB:Same H3 (gr H4 T):=λa o e=>by rw[gU (λz=>by rw[z,nT] at e;cases e)];exact s34 _ _ e
   have hmB:gr H4 T ml=some (.lst us):=(gU neT).trans hm;have hpB:Paired (gm (gr H4 T)) us (jw 4800):=Paired.mapP hp λ_ _ ⟨t,e,ht⟩=>⟨t,e,(gU (λz=>by rw[z,hT4] at ht;cases ht)).trans ht⟩;have hRB:=pP (s3.trans sB) hR2;have hDB:=sB _ _ (s3 _ _ hD);have nTB:gr H4 T T=none:=nN;have sB4:Same (gr H4 T) H4:=mF;generalize gr H4 T=B at sB hmB hpB hRB hDB nTB sB4;have len:=LU (λk h0 h1=>(hpg k h0 h1).2.2.1)
   have lu:=ie hpB;refine⟨ml,rfl,⟨_,SqL.of hm⟩,kE (K:=K) (a:=ml) (xs:=us) (λi σ H5=>∃(ts:List V) (v4 v5 v6 v7:Option V),σ=[some (.ref l),some (.ref D),v2,some (.ref T),v4,v5,v6,v7]/\Same B H5/\H5 T=some (.lst ts)/\Paired (gm H5) ts (gw pg i)) ⟨[],_,_,_,(),sB4,hT4,.nil⟩ (λi σ H5 _ ⟨_,_,_,_,_,_,z,_⟩=>SqL.of (z _ _ hmB)) ?turn ?done⟩
   case turn=>
    rintro i x σ H5 hx ⟨ts,v4,v5,v6,v7,rfl,s5,hT5,hp5⟩;obtain⟨t,p,rfl,ht,hpi⟩:=kr hpB hx;obtain⟨hi,rfl⟩:=Rj hpi;have kl:=wj (i:Int);obtain⟨kk,hkk⟩:=aZ kl.1;have hkl:kk<91:=⋯;obtain⟨y,hy⟩:∃y,w[kk]? =some y:=⟨_,bH (by rw[ie hRB,aQ,cA];exact hkl)⟩;obtain⟨ps,hps,l1,us1,rfl,hl1,hp1⟩:=kU hRB hy;rw[bG,show (List.range (Int.toNat 91))[kk]? =some kk from List.getElem?_range hkl] at hps;injection hps with hps
    subst hps;have hp1:Paired (gm B) us1 (pg (kk:Int)):=hp1;rw[←hkk] at hp1;have hat:gK w (f7 (i:Int))=some (.ref l1):=by rw[hkk];exact lV hy
    have lp:=len i;have lk:=(hpg _ kl.1 kl.2).2.2.1;refine⟨t,(),SqT.of (s5 _ _ ht),rfl,_,(),(()),(),(),D,_,(()),SqL.of (s5 _ _ hDB),hat,l1,rfl,⟨_,SqL.of (s5 _ _ hl1)⟩,kE (K:=K) (a:=l1) (xs:=us1) (λj σ H6=>∃(gs:List V) (v6 v7:Option V),σ=[some (.ref l),some (.ref D),v2,some (.ref T),some (.int (eW (i:Int))),some (.int (f7 (i:Int))),v6,v7]/\Same B H6/\H6 T=some (.lst gs)/\Paired (gm H6) gs (gw pg i++((pg (f7 (i:Int))).take j).map λp=>(1440*eW (i:Int)+p.1,p.2))) ⟨ts,_,(),s5,hT5,(by rw[List.take_zero,List.map_nil,b8];exact hp5)⟩ (λj σ H6 _ ⟨_,_,_,_,z,_⟩=>SqL.of (z _ _ hl1)) ?tn ?dn⟩
    case dn=>
     rintro σ H6 ⟨gs,v6,v7,rfl,s6,h6,hp6⟩;rw[ie hp1,bW] at hp6;exact⟨gs,_,_,_,(),s6,h6,by rw[wl];exact hp6⟩
    case tn=>
     rintro j z σ H6 hz ⟨gs,v6,v7,rfl,s6,h6,hp6⟩;obtain⟨t1,p1,rfl,ht1,hp1'⟩:=kr hp1 hz;have lg:=ie hp6;rw[aS,aQ,b9] at lg;refine⟨t1,(),SqT.of (s6 _ _ ht1),rfl,_,(),(()),?_⟩;refine⟨(),.inl ⟨rfl,_,SqL.of h6⟩,(),(()),.inl ⟨by decide,by decide⟩,(),(()),(),(zL 2),λt2 nt=>⟨T,(()),eS nt _ _ _ h6,(by rw[dW];omega),?_⟩⟩;have sT:=eS nt (.tup [V.int (1440*eW (i:Int)+p1.1),V.int p1.2]);refine⟨gs++[.ref t2],_,(),li nTB (s6.trans sT),eJ,?_⟩
     rw[cG,hp1',bE,←dF];exact qC (sT _ _ h6) (lO (p:=(1440*eW (i:Int)+p1.1,p1.2)) eJ (jp sT hp6))
   case done=>
    rintro σ H5 ⟨ts,v4,v5,v6,v7,rfl,s5,hT5,hp5⟩;have ml48:(jw 4800).length=4800:=by unfold jw;rw[aQ,cA]
    rw[lu,ml48] at hp5;have lt:=ie hp5;have l48:=len 4800;have hp6:=hp5;rw[h0] at hp5;cases hp5 with
    |cons hh hr=>
     rename_i v tv;obtain⟨t,rfl,ht⟩:=hh;refine⟨(),(),T,_,(()),SqL.of hT5,lV (j:=0) rfl,t,_,(()),SqT.of ht,rfl,(()),(),T,_,(()),SqL.of hT5,lV (j:=0) rfl,t,_,(()),SqT.of ht,rfl,(zL 2),λt2 n2=>⟨(zL 1),λL nL=>?_⟩⟩;have sA:=eS n2 (.tup [V.int (t0.1+210379680),V.int t0.2]);have hT2:=eJ (H:=H5) (a:=t2) (o:=.tup [V.int (t0.1+210379680),V.int t0.2]);generalize upd H5 t2 (.tup [V.int (t0.1+210379680),V.int t0.2])=H6 at nL sA hT2 ⊢
     have sL:=eS nL (.lst [V.ref t2]);have hL:=eJ (H:=H6) (a:=L) (o:=.lst [V.ref t2]);generalize upd H6 L (.lst [V.ref t2])=H7 at sL hL ⊢;have s57:=sA.trans sL;refine⟨T,L,(()),SqL.of (s57 _ _ hT5),SqL.of hL,(by show (V.ref t::tv).length+1<=sizeLine;rw[dW];omega),λp np=>?_⟩;have sP:=eS np (.lst (V.ref t::tv++[V.ref t2]));refine⟨p,_,(),eJ,lO (p:=(t0.1+210379680,t0.2)) (sP _ _ (sL _ _ hT2)) (jp (s57.trans sP) hp6),hfar,λH8 s8=>?_⟩
     have s58:=s57.trans (sP.trans s8);exact⟨(),q T _ H8 (s2.trans (s3.trans (sB.trans (s5.trans s58)))) (s58 _ _ hT5) (jp s58 hp6)⟩
theorem GF:Dx P w base ZZ.bz 2 (OM K):=by
 refine ZZ.bz.dfs V7 (by trivial) ?_;rintro _ _ _ _ s H _ Q E hr⟨i,rfl,hi,q⟩;refine⟨_,(eH (fo (tW (jv (jt (g9 (eD (QS ZZ) hr (A1 Y0)))) (jJ (jt (rO kG kG (kW kP (fF (v:=.int 720) ZZ.ah ⟨()⟩)) Y0 (fF (v:=.int 720) ZZ.ah ⟨()⟩)))))) (eG jc) ft) (eG (eP Y0))),?_⟩;extract_lets;refine⟨(),_,.int,rfl,rfl,(),fN ?_⟩;refine⟨(),(),(()),(),?_⟩;rw[dZ (show -720<=i from hi.1)];refine gH ⟨(()),(),?_⟩
 rw[dZ hi.2];exact fN ⟨(),q⟩
theorem NX:Dx P w base ZZ.c0 8 (RX K):=by
 refine ZZ.c0.dfs Uk (by trivial) ?_;rintro _ _ _ _ s H _ Q E hr⟨t,x,P,rfl,ht,hP,q⟩;refine⟨_,(eH (fo (tW (jv (jt (g9 (gh mJ ZZ.aa PyProof.Rows.boot_isinstance (A2 Y0 (k9 ZZ.ce PyProof.Rows.boot_tuple))))) (jJ (eZ lr (gh (jD (K:=K)) ZZ.ae PySem.boot_len (A1 Y0)) eI)))) (eG jc) ft) (eH (fo (jt (g9 (gh VB ZZ.aa PyProof.Rows.boot_isinstance (A2 (eK (fJ (K:=K)) Y0 eI) (fF (v:=.ref aA) ZZ.ab.at_ rfl))))) (eG jc) ft) (eH (fo (g9 (eD (S6 ZZ) hr (A1 (eK (fJ (K:=K)) Y0 eI)))) (eG jc) ft) (eH (eU 1 (An ZZ.ab.cl (GZ ZZ) hr (eK (fJ (K:=K)) Y0 eI)) Uk.nd) (eH (fo (eZ lr (eE m6 Y1 (eE fG Y1 eI)) eI) (eG jc) ft) (eG (eP (ic (A2 (eK (fJ (K:=K)) Y0 eI) (eD (GF ZZ) hr (A1 (eK (fJ (K:=K)) Y0 eI)))))))))))),?_⟩
 extract_lets;obtain⟨t',x',e',ht',hR,e2,nv,hoff⟩:=hP;obtain rfl:t=t':=by injection e'
 obtain⟨rfl⟩:x=x':=by
  have z:=ht.symm.trans ht';injection z with z;injection z with z;injection z with z;injection z
 clear e' ht';have gR:=hR;obtain⟨dx,dv,wv,hpx,hn,hb,hd,hw⟩:=hR;refine⟨(),_,.tuple,.tuple,rfl,by decide,.inr (.inl ⟨rfl,_,SqT.of ht⟩),(),fN ?_⟩;refine⟨(),t,(),.inr (SqT.of ht),rfl,(),fN ?_⟩;refine⟨(),t,_,(()),SqT.of ht,rfl,_,_,_,(),ZZ.ew.ty ZZ.ab.cl hpx,ZZ.ex,(),fN ?_⟩;refine⟨(),t,_,(()),SqT.of ht,rfl,x,P.m0,P.m1,P.m3,P.kd,P.kw,rfl,gR,λH2 s2=>?_⟩;rw[nv];have ht2:=s2 _ _ ht;have hp2:=s2 _ _ hpx;refine⟨(),fN ?_⟩
 refine⟨(),t,_,(()),SqT.of ht2,rfl,x,dx,(),hp2,H0 ..,x,dx,_,_,_,_,dv,wv,rfl,hp2,?_⟩;rw[e2];refine⟨(),(),(()),(()),rfl,(),qJ (λn=>absurd (Na P.tm) n) (λ_=>?_)⟩;refine⟨(),t,_,(()),SqT.of ht2,rfl,(),t,_,(()),SqT.of ht2,rfl,P.off,rfl,hoff,(zL 2),λT nT=>?_⟩;have sT:=s2.trans (eS nT (.tup [.ref x,.int P.off]));exact q T _ sT eJ
theorem Ro:Dx P w base ZZ.cn 9 (XW K):=by
 refine ZZ.cn.dfs QF (by trivial) ?_;rintro _ _ _ _ s H _ Q E hr⟨l,us,Ps,G,rfl,hl,sG,hP,hn,q⟩;refine⟨_,(eH (fo (tW (jv (jt (g9 (gh mJ ZZ.aa PyProof.Rows.boot_isinstance (A2 Y0 (k9 ZZ.bp PyProof.Rows.boot_list))))) (jJ (jt (rO kG kG eI (gh (jD (K:=K)) ZZ.ae PySem.boot_len (A1 Y0)) (fF (v:=.int 4) ZZ.di ⟨()⟩)))))) (eG jc) ft) (eG (eP (gQ sm ZZ.ce PyProof.Rows.boot_tuple (A1 (kn [] [] (i8 (K:=K) Y0) (λ_ _ _ _ _ _=>jN) (λ_ _ _ _ _ _=>(eD (NX ZZ) hr (A1 Y0))))))))),?_⟩
 extract_lets;have pl:=ie hP;refine⟨(),_,.list,.list,rfl,by decide,.inl ⟨rfl,_,SqL.of hl⟩,(),fN ?_⟩;refine⟨(),l,(),.inl (SqL.of hl),(()),(),?_⟩;rw[dZ (show (1:Int)<=((us.length:Nat):Int) by omega)];refine gH ⟨(()),(),?_⟩;rw[dZ (show ((us.length:Nat):Int)<=4 by omega)];refine fN ⟨(),l,rfl,⟨_,SqL.of hl⟩,p6 (λD i w Hx=>Paired (PutY G (gr Hx D)) w (Ps.take i)) (λD i w Hx l0 l1 hD nD h=>by rw[oo];exact h) (by rw[dW];omega) (λD nD=>.nil) (SqL.of hl) ?st ?dn⟩
 case st=>
  intro i v w D H2 E' F' hv hR nD s2 hD hE hF;obtain⟨P,hPi,hput⟩:=kU hP hv;obtain⟨t,x,rfl,ht,hz⟩:=id hput;refine⟨(),t,x,P,rfl,s2 _ _ ht,(hput.keep s2).x (sG.trans s2),λT H5 s5 hT=>hE _ _ s5 ?_⟩;rw[cG,hPi];exact sg ⟨T,x,rfl,(gU (λe=>by rw[e,s5 _ _ hD] at hT;cases hT)).trans hT,hz⟩ (qY (pG s5) hR)
 case dn=>
  intro D H2 w hR nD s2 hD;rw[pl,bW] at hR;have hR2:=qY (mF (a:=D)) hR;refine⟨D,w,rfl,.inl ⟨SqL.of hD,λT nT=>?_⟩⟩;have sT:=eS nT (.tup w);exact q T w _ (s2.trans sT) eJ (qY sT hR2)
theorem RB:DfMD P w K mg base aD "__init__" 3 ["self","base"] (Oe K aD) [.int 0]:=by
 refine ZZ.b0.dfs R3 (by trivial) ?_;rintro _ _ _ _ s H _ Q E hr⟨p,dx,b,rfl,hp,hb,q⟩;refine⟨_,(eG (iR Y0 (eD (GF ZZ) hr (A1 Y1)))),?_⟩;exact⟨(),b,rfl,hb,(),p,aD,dx,(),hp,ZZ.aq.cl,ZZ.ba,(by show 0<1000;decide),q⟩
theorem Q1:Dm P w mg base ZZ.bu 1 (QA K aD):=by
 refine ZZ.bu.dfs RT (by trivial) ?_;rintro _ _ _ _ s H _ Q E hr⟨p,dx,b,m,rfl,hp,q⟩;refine⟨_,(eG (eP (hW (K:=K) Y0))),?_⟩;exact⟨(),p,aD,dx,_,(),hp,ZZ.aq.cl,ZZ.ba,Wv ..,q⟩
theorem Xz:Dm P w mg base ZZ.co 1 (VF K aD):=by
 refine ZZ.co.dfs Nu (by trivial) ?_;rintro _ _ _ _ s H _ Q E hr⟨p,dx,b,m,rfl,hp,q⟩;refine⟨_,(eG (eP eN)),?_⟩;exact q
theorem Nl:Dm P w mg base ZZ.bs 10 (US K aB):=by
 refine ZZ.bs.dfs Qp (by trivial) ?_;rintro _ _ _ _ s H _ Q E hr⟨p,dx,l,us,Ps,qs,rfl,hp,hl,hP,hq,hn,ok,hf,q⟩;refine⟨_,(eH (iR Y0 (eD (Ro ZZ) hr (A1 Y1))) (eG (iR Y0 (eD (WA ZZ) hr (A1 (hW (K:=K) Y0)))))),?_⟩;extract_lets;obtain⟨pg,hg⟩:=Wn hq ok hf;have hq1:∃q,q∈qs:=by
  cases hq with
  |nil=>exact absurd hn.1 (by decide)
  |cons a b=>exact⟨_,bF⟩
 obtain⟨q1,m1⟩:=hq1;have tok:=P6 hq ok hf hg m1 (u7 (ok q1 m1));obtain⟨t0,tr,e0,far⟩:=WM hq ok hf hg tok;refine⟨(),l,us,Ps,gr H p,rfl,hl,mF,hP,hn,λT us' H2 s2 hT hP2=>?_⟩;have hp2:=s2 _ _ hp;have nT:T≠p:=λe=>by rw[e,hp2] at hT;cases hT
 refine⟨(),p,aB,dx,(),hp2,ZZ.af.cl,ZZ.a6,(by show 0<1000;decide),?_⟩;have hp3:=eJ (H:=H2) (a:=p) (o:=.ins aB dx (fj "puts" (.ref T) []));have hT3:upd H2 p (.ins aB dx (fj "puts" (.ref T) [])) T=some (.tup us'):=by rw[fh nT];exact hT
 have hP3:=HF (QN s2) (Hb (gs:=fj "puts" (.ref T) []) hp2 hP2);have kp:∀b o,H b=some o->b≠p->upd H2 p (.ins aB dx (fj "puts" (.ref T) [])) b=some o:=λb o hb ne=>by rw[fh ne];exact s2 _ _ hb
 generalize upd H2 p (.ins aB dx (fj "puts" (.ref T) []))=H3 at hp3 hT3 hP3 kp ⊢;refine⟨(),p,aB,dx,_,(),hp3,ZZ.af.cl,ZZ.a6,(by rw[fK,if_pos rfl]),T,us',Ps,pg,t0,tr,rfl,hT3,hP3,hg,e0,far,λl' us2 H4 s4 hl4 hp4=>?_⟩;have hp4':=s4 _ _ hp3;have nl:l'≠p:=λe=>by rw[e,hp4'] at hl4;cases hl4
 refine⟨(),p,aB,dx,(),hp4',ZZ.af.cl,ZZ.ag,(by show 1<1000;decide),?_⟩;refine q (gw pg 4800) _ ⟨dx,.ref T,l',us2,eJ,(by rw[fh nl];exact hl4),?_,tok⟩ (T9 hq ok hg) λb o hb ne=>by rw[fh ne];exact s4 _ _ (kp b o hb ne)
 exact Paired.mapP hp4 λ_ _ ⟨t,e,ht⟩=>⟨t,e,by rw[fh (λe=>by rw[e,hp4'] at ht;cases ht)];exact ht⟩
theorem XU:Dm P w mg base ZZ.b1 2 (UX K aB):=by
 refine ZZ.b1.dfs U2 (by trivial) ?_;rintro _ _ _ _ s H _ Q E hr⟨p,T,m,rfl,hc,q⟩;refine⟨_,(eH (eU 2 (eE fW Y1 (fF (v:=.int 210379680) ZZ.be ⟨()⟩)) U2.nd) (eH (eU 3 (eD (VR ZZ) hr (A2 (hW (K:=K) Y0) Y2)) U2.nd) (eH (eU 4 (eE fG (eE fG Y1 Y2) (lc (eZ kB Y3 eI) (fF (v:=.int 210379680) ZZ.be ⟨()⟩) eI)) U2.nd) (eH (eU 5 (eK (fk (K:=K)) (hW (K:=K) Y0) Y3) U2.nd) (eG (eP (ic (A3 (eE fq Y4 (eK (fJ (K:=K)) Y5 eI)) (eK (fJ (K:=K)) (eK (fk (K:=K)) (hW (K:=K) Y0) (eE fG Y3 eI)) eI) (eK (fJ (K:=K)) Y5 eI))))))))),?_⟩
 extract_lets;obtain⟨dx,pv,tl,us,hp,htl,hP,tok⟩:=hc;obtain⟨n,hn,h1,h2⟩:=RG tok (m%210379680);refine⟨(),(()),(by decide),?_⟩;refine⟨(),p,aB,dx,_,(),hp,ZZ.af.cl,ZZ.ag,wz ..,(),tl,us,T,_,n,rfl,SqL.of htl,hP,hn,h1,h2,?_⟩;have pl:=ie hP;obtain⟨iA,iB⟩:=Vn tok.two hn;obtain⟨xA,hxA⟩:∃x,us[lA T.length n]? =some x:=⟨_,bH ⋯⟩;obtain⟨xB,hxB⟩:∃x,us[ky T.length n]? =some x:=⟨_,bH ⋯⟩;obtain⟨tA,pA,rfl,htA,hpA⟩:=kr hP hxA
 obtain⟨tB,pB,rfl,htB,hpB⟩:=kr hP hxB;have two:=XG tok hn h1 h2 hpA hpB;obtain⟨z1,z2⟩:=vW (xs:=us) (n:=n) (by have:=tok.two;omega) ⋯;rw[pl,hxA] at z1;rw[pl,hxB] at z2;refine⟨(),(),(()),(),(()),(),gz (λc=>?_) (λc=>?_)⟩
 all_goals
  first | rw[if_pos c] at two | rw[if_neg c] at two
  refine⟨(()),?_⟩;refine⟨(),p,aB,dx,_,(),hp,ZZ.af.cl,ZZ.ag,wz ..,(),tl,us,(()),SqL.of htl,z1,?_⟩;refine⟨(),(),tA,_,(()),SqT.of htA,rfl,(()),?_⟩;exact⟨(),p,aB,dx,_,(),hp,ZZ.af.cl,ZZ.ag,wz ..,(),(()),tl,us,(()),SqL.of htl,z2,tB,_,(()),SqT.of htB,rfl,(),tA,_,(()),SqT.of htA,rfl,(zL 3),λt nt=>q _ _ _ t _ two nt (eS nt _) eJ⟩
theorem rF:Dx P w base ZZ.ep 3 (RM K):=by
 refine ZZ.ep.dfs UK (by trivial) ?_;rintro _ _ _ _ s H _ Q E hr⟨p,x,rfl,h⟩;refine⟨_,(eH (eU 2 (kH (jF ZZ.af.cl (XU ZZ) hr Y0 (A1 (eE fq Y1 (fF (v:=.int 720) ZZ.ah ⟨()⟩)))) (jF ZZ.aq.cl (Xz ZZ) hr Y0 (A1 (eE fq Y1 (fF (v:=.int 720) ZZ.ah ⟨()⟩))))) UK.nd) (eH (fo (eZ jh Y2 eN) (eG (eP (eE fG Y1 (jF ZZ.aq.cl (Q1 ZZ) hr Y0 (A1 Y1))))) ft) (eH (eU 3 (eE fG Y1 (eK (fJ (K:=K)) Y2 eI)) UK.nd) (eH (fo (eZ kB Y3 (eK (fJ (K:=K)) Y2 eI)) (eG (eP Y3)) ft) (eG (eP (gh Jw ZZ.d5 PyProof.Rows.boot_max (A2 (eK (fJ (K:=K)) Y2 eI) (eE fG Y1 (eK (fJ (K:=K)) Y2 eI)))))))))),?_⟩
 extract_lets;rcases h with ⟨T,hc,q⟩ | ⟨dx,b,hp,q⟩
 ·obtain⟨dx,pv,tl,us,hp,_⟩:=id hc;refine .inl ⟨(),p,dx,(),hp,UT ..,(),(()),p,T,x+720,rfl,hc,λa b c t H1 two nt s1 ht=>?_⟩;have e:=q a b c H1 two s1;unfold iO at e;refine⟨(),rfl,(),gz (λz=>by cases z) (λ_=>?_)⟩;refine⟨(),(),t,_,(()),SqT.of ht,rfl,(()),?_⟩;refine⟨(),(),t,_,(()),SqT.of ht,rfl,(()),(),gz (λk=>?_) (λk=>?_)⟩
  ·rw[if_pos k] at e;exact⟨(),e⟩
  ·rw[if_neg k] at e;have em:max a (x-c)=if x-c>a then x-c else a:=by split<;>omega
   rw[em] at e;exact⟨(),t,_,(()),SqT.of ht,rfl,(),(),t,_,(()),SqT.of ht,rfl,(()),_,(),e⟩
 ·refine .inr ⟨(),p,dx,(),hp,PK ..,(),(()),p,dx,b,x+720,rfl,hp,?_⟩;refine⟨(),rfl,(),gz (λ_=>?_) (λz=>absurd rfl z)⟩;exact⟨(),(),p,dx,(),hp,V8 ..,(),p,dx,b,x,rfl,hp,(()),q⟩
theorem qi:Dx P w base ZZ.dc 1 (OC K):=by
 refine ZZ.dc.dfs TY (by trivial) ?_;rintro _ _ _ _ s H _ Q E hr⟨y,rfl,q⟩;refine⟨_,(eG (eP (eE fq (eE fG (eE fq (eE g6 eI Y0) (eE jZ (eE fq Y0 eI) eI)) (eE jZ (eE fq Y0 eI) eI)) (eE jZ (eE fq Y0 eI) eI)))),?_⟩;have e:db y=365*y+(y+3) / 4-(y+99) / 100+(y+399) / 400:=by rw[mX];omega
 rw[e] at q;exact⟨(),(()),.inl ⟨by decide,by decide⟩,(),(()),(()),⟨by decide,by decide⟩,(()),(),(()),(()),⟨by decide,by decide⟩,(()),(),(()),(()),⟨by decide,by decide⟩,(()),q⟩
theorem KA:Dx P w base ZZ.du 1 (Pi K):=by
 refine ZZ.du.dfs T5 (by trivial) ?_;rintro _ _ _ _ s H _ Q E hr⟨y,m,rfl,⟨h1,h2⟩,q⟩;refine⟨_,(eH (fo (eZ fZ Y1 eI) (eG (eP (eE fq eI (gQ uR ZZ.bl PyProof.Rows.boot_int (A1 (mS (iU fZ (eE fW Y0 eI) eI) (ka (qH (iU lr (eE fW Y0 eI) eI) (ka (iU fZ (eE fW Y0 eI) eI)))))))))) ft) (eG (eP (eK (fk (K:=K)) (gB (rj [31,28,31,30,31,30,31,31,30,31,30,31])) (eE fG Y1 eI))))),?_⟩
 extract_lets;refine⟨(),rfl,(),f6 (λc1=>?_) (λc1=>?_)⟩
 ·have e:fH y m=28+iF y:=by unfold fH;rw[if_pos c1]
  have z:=q H (Same.refl H);rw[e] at z;refine⟨(),(()),(by show (0:Int)<4;decide),rfl,(),f6 (λc4=>⟨(),(()),(by show (0:Int)<100;decide),rfl,(),qJ (λn=>?a) (λe100=>⟨(),(()),(by show (0:Int)<400;decide),rfl,?b⟩)⟩) (λc4=>?c)⟩
  case a=>
   rw[wf (b:=true) (by unfold gD;rw[dZ c4,d7 n];rfl)] at z;exact .inr ⟨(),(()),z⟩
  case b=>
   rw[wf (b:=decide (V.int (y%400)=V.int 0)) (by unfold gD;rw[dZ c4,dZ e100,qp];rfl)] at z;exact .inr ⟨(),(()),z⟩
  case c=>
   rw[wf (b:=false) (by unfold gD;rw[d7 c4];rfl)] at z;exact .inr ⟨(),(()),z⟩
 ·have e:fH y m=lasts.getD (m-1).toNat 0:=by unfold fH;rw[if_neg c1]
  rw[e] at q;refine⟨(zL 12),λp hp=>?_⟩;exact⟨(),(()),p,lasts.map V.int,(()),SqL.of eJ,vp h1 h2,q _ (eS hp _)⟩
theorem Tn:Dx P w base ZZ.dv 2 (Xo K):=by
 refine ZZ.dv.dfs Uh (by trivial) ?_;rintro _ _ _ _ s H _ Q E hr⟨n,rfl,q⟩;refine⟨_,(eH (eU 1 (eE jZ (eE g6 Y0 eI) eI) Uh.nd) (eH (qc (eZ jO (eD (qi ZZ) hr (A1 Y1)) Y0) (eG (eU 1 (eE fG Y1 eI) Uh.nd)) PassesOwn.never) (eH (qc (eZ kG (eD (qi ZZ) hr (A1 (eE fq Y1 eI))) Y0) (eG (eU 1 (eE fq Y1 eI) Uh.nd)) PassesOwn.never) (eG (eP Y1))))),?_⟩;extract_lets;obtain⟨ys,h1,h2⟩:=Wq n
 refine⟨(),(()),.inr ⟨by decide,by decide⟩,(()),⟨by decide,by decide⟩,?_⟩;refine qN (λσ H2=>H2=H/\∃y:Int,σ=[some (.int n),some (.int y)]) (λσ _=>((iv σ 1)-ys).toNat) ⟨rfl,()⟩ ?_;rintro σ H2 ⟨rfl,y,rfl⟩;refine⟨(),y,rfl,(),(()),(),gz (λc=>?_) (λc=>?_)⟩
 ·have lt:ys<y:=by
   rcases Int.lt_or_le ys y with w | w
   ·exact w
   ·have:=EU w;omega
  exact⟨_,λ_ _ h=>h,(),(()),_,(by show (y-1-ys).toNat<(y-ys).toNat;omega),rfl,rfl,()⟩
 ·refine qN (λσ H3=>H3=H2/\∃y:Int,σ=[some (.int n),some (.int y)]/\db y<=n) (λσ _=>(ys-(iv σ 1)).toNat) ⟨rfl,y,rfl,⋯⟩ ?_;rintro σ H3 ⟨rfl,y,rfl,hy⟩;refine⟨(),(()),y+1,rfl,(),(()),(),gz (λc=>?_) (λc=>?_)⟩
  ·have lt:y+1<=ys:=by
    rcases Int.lt_or_le ys (y+1) with w | w
    ·have:=EU (show ys+1<=y+1 by omega);omega
    ·exact w
   exact⟨_,λ_ _ h=>h,(),(()),_,(by show (ys-(y+1)).toNat<(ys-y).toNat;omega),rfl,rfl,(),c⟩
  ·exact⟨(),q y hy ⋯⟩
theorem MK:Dx P w base ZZ.ef 1 (Qm K):=by
 refine ZZ.ef.dfs U8 (by trivial) ?_;rintro _ _ _ _ s H _ Q E hr⟨l,z,m,rfl,hz,hm,q⟩;refine⟨_,(eH (pM Y0 (zQ (gg (gN 2 U8.nd) (gg (gN 3 U8.nd) (gg (gN 4 U8.nd) (gg (gN 5 U8.nd) (gg (gN 6 U8.nd) (gg (gN 7 U8.nd) (gg (gN 8 U8.nd) j6))))))))) (eH (eU 9 (gp [42]) U8.nd) (eH (eU 10 (gp [42]) U8.nd) (lP (fo (eZ fZ Y4 eI) (eG (eU 9 (gQ i7 ZZ.ac PyProof.Rows.boot_str (A1 (eE fq eI Y5))) U8.nd)) ft) (lP (fo (eZ fZ Y4 eI) (eG (eU 10 (eE oh (eE oh (gQ i7 ZZ.ac PyProof.Rows.boot_str (A1 Y6)) (gp [35])) (gQ i7 ZZ.ac PyProof.Rows.boot_str (A1 (eE fq eI Y7)))) U8.nd)) ft) (lP (fo (eZ fZ Y4 eI) (eG (eU 10 (eE oh (gQ i7 ZZ.ac PyProof.Rows.boot_str (A1 Y6)) (gp [76])) U8.nd)) ft) (eH (eU 11 (qy (gp [32]) (gB (aC (gQ i7 ZZ.ac PyProof.Rows.boot_str (A1 Y2)) (aC (gQ i7 ZZ.ac PyProof.Rows.boot_str (A1 Y3)) (A3 Y9 (gQ i7 ZZ.ac PyProof.Rows.boot_str (A1 Y1)) (v_ 10)))))) U8.nd) (eG (eP (ic (aC (v_ 11) (aC (eE fq (eE g6 eI Y3) Y2) (aC Y4 (aC (eK (fk (K:=K)) (gB (A3 (eE fq eI Y5) (eE fq eI Y7) eI)) Y4) (A3 Y6 Y1 (eE fG Y8 eI)))))))))))))))),?_⟩
 extract_lets;obtain⟨l',e',hl,mi,h,s,d,w,n,o,rfl,bi,bh,bs,bd,bw,bn,bo⟩:=hz;obtain rfl:l=l':=by injection e'
 obtain⟨mi,rfl⟩:=aZ bi.1;obtain⟨h,rfl⟩:=aZ bh.1;obtain⟨d,rfl⟩:=aZ bd.1;obtain⟨w,rfl⟩:=aZ bw.1;obtain⟨n,rfl⟩:=aZ bn.1;obtain⟨m,rfl⟩:=aZ (show 0<=m by omega);have lw:=jf (n:=w) ⋯;have ln:=jf (n:=2+n) ⋯;refine⟨(),l,(),SqL.of hl,rfl,_,(),_,(),_,(),_,(),_,(),_,(),(()),?_⟩;refine⟨λσ' H'=>σ'=[some (.ref l),some (.int m),some (.int mi),some (.int h),some (.int s),some (.int d),some (.int w),some (.int n),some (.int o),some (.str (Tx (if s=0 then num (5+d) else [42]))),some (.str (Tx [42])),none]/\H'=H,?c1,?_⟩
 case c1=>
  refine⟨(),rfl,(),f6 (λc=>?_) (λc=>?_)⟩
  ·exact⟨(),(()),5+d,rfl,i5 ⋯,by rw[if_pos c];rfl,rfl⟩
  ·exact⟨by rw[if_neg c];rfl,rfl⟩
 rintro σ' H' ⟨rfl,rfl⟩;refine⟨λσ' H2=>σ'=[some (.ref l),some (.int m),some (.int mi),some (.int h),some (.int s),some (.int d),some (.int w),some (.int n),some (.int o),some (.str (Tx (if s=0 then num (5+d) else [42]))),some (.str (Tx (if s=1 then num w++[35]++num (2+n) else [42]))),none]/\H2=H',?c2,?_⟩
 case c2=>
  refine⟨(),rfl,(),f6 (λc=>?_) (λc=>?_)⟩
  ·refine⟨(),w,rfl,i5 ⋯,num w,[35],rfl,rfl,(by rw[dW];exact bK (Nat.add_le_add_right lw _) (by decide)),(),(()),2+n,rfl,i5 ⋯,(()),(by rw[dW,aS];exact bK (Nat.add_le_add (Nat.add_le_add_right lw _) ln) (by decide)),?_⟩;exact⟨by rw[if_pos c];rfl,rfl⟩
  ·exact⟨by rw[if_neg c],rfl⟩
 rintro σ' H' ⟨rfl,rfl⟩;refine⟨λσ' H2=>σ'=[some (.ref l),some (.int m),some (.int mi),some (.int h),some (.int s),some (.int d),some (.int w),some (.int n),some (.int o),some (.str (Tx (if s=0 then num (5+d) else [42]))),some (.str (Tx (if s=2 then num w++[76] else (if s=1 then num w++[35]++num (2+n) else [42])))),none]/\H2=H',?c3,?_⟩
 case c3=>
  refine⟨(),rfl,(),f6 (λc=>?_) (λc=>?_)⟩
  ·refine⟨(),w,rfl,i5 ⋯,num w,[76],rfl,rfl,(by rw[dW];exact bK (Nat.add_le_add_right lw _) (by decide)),?_⟩;exact⟨by rw[if_pos c];rfl,rfl⟩
  ·exact⟨by rw[if_neg c],rfl⟩
 rintro σ' H' ⟨rfl,rfl⟩;have tx:=Th bi bh bw bo bs bd bn hm;have ok:=Ef bs bd bw bn bo hm bi bh;obtain⟨D,eD⟩:∃D,D=(if s=0 then num (5+d) else [42]):=⟨()⟩;obtain⟨N,eN⟩:∃N,N=(if s=2 then num w++[76] else (if s=1 then num w++[35]++num (2+n) else [42])):=⟨()⟩;have lD:D.length<=4:=by rw[eD];split;exact jf ⋯;decide
 have lN:N.length<=9:=by
  rw[eN];split
  ·rw[aS];show (num w).length+1<=9;omega
  ·split
   ·rw[aS,aS];show (num w).length+1+(num (2+n)).length<=9;omega
   ·decide
 rw[←eD,←eN] at tx ⊢;have lm:=jf (n:=mi) ⋯;have lh:=jf (n:=h) ⋯;have lo:=jf (n:=m) ⋯;have jl:(fU 32 [num mi,num h,D,num m,N]).length<=1000000:=by
  show (num mi++32::(num h++32::(D++32::(num m++32::N)))).length<=1000000;simp only[aS,bL];omega
 refine⟨rfl,(),mi,rfl,i5 ⋯,(),h,rfl,i5 ⋯,(),(),m,rfl,i5 ⋯,(),(zL 5),λp np=>⟨32,p,[num mi,num h,D,num m,N],rfl,rfl,SqL.of eJ,jl,?_⟩⟩;have s1:=eS np (.lst [V.str (Tx (num mi)),V.str (Tx (num h)),V.str (Tx D),V.str (Tx (num m)),V.str (Tx N)]);refine⟨(),(),(()),.inl ⟨by decide,by decide⟩,(),(()),(),(),(()),(),(()),(zL 3),λl3 n3=>⟨(),l3,_,(()),SqL.of eJ,MT bs,(),(),(),(()),(zL 7),λT nT=>?_⟩⟩;exact q (.ref T) _ _ (s1.trans ((eS n3 _).trans (eS nT _))) ⟨T,(),eJ,tx,ok⟩ ⟨by show s≠3;omega,by show s≠4;omega⟩ rfl
theorem C9:Dx P w base ZZ.c1 1 (Sz K):=by
 refine ZZ.c1.dfs Ug (by trivial) ?_;rintro _ _ _ _ s H _ Q E hr⟨l,mi,h,s,d,w0,n,o,w,rfl,hl,bi,bh,bw,bo,q⟩;refine⟨_,(eH (eU 2 (qy (gp [32]) (gB (aC (gQ i7 ZZ.ac PyProof.Rows.boot_str (A1 (eK (fk (K:=K)) Y0 eI))) (A3 (gQ i7 ZZ.ac PyProof.Rows.boot_str (A1 (eK (fk (K:=K)) Y0 eI))) (gp [42,32,42]) (gQ i7 ZZ.ac PyProof.Rows.boot_str (A1 Y1)))))) Ug.nd) (eG (eP (ic (aC Y2 (aC (eE fq (eE g6 eI (eK (fk (K:=K)) Y0 eI)) (eK (fk (K:=K)) Y0 eI)) (aC eI (aC eI (A3 Y1 eI (eE fG (eK (fk (K:=K)) Y0 eI) eI)))))))))),?_⟩
 extract_lets;obtain⟨mi,rfl⟩:=aZ bi.1;obtain⟨h,rfl⟩:=aZ bh.1;obtain⟨w,rfl⟩:=aZ bw.1;obtain⟨ok,tx⟩:=Oc bi bh bw bo;have lm:=jf (n:=mi) ⋯;have lh:=jf (n:=h) ⋯;have lw:=jf (n:=w) ⋯;have jl:(fU 32 [num mi,num h,[42,32,42],num w]).length<=1000000:=by
  show (num mi++32::(num h++32::([42,32,42]++32::num w))).length<=1000000;simp only[aS,bL,List.length_nil];omega
 refine⟨rfl,(),l,_,(()),SqL.of hl,rfl,mi,rfl,i5 ⋯,(),l,_,(()),SqL.of hl,rfl,h,rfl,i5 ⋯,(),w,rfl,i5 ⋯,(zL 4),λp np=>⟨32,p,[num mi,num h,[42,32,42],num w],rfl,rfl,SqL.of eJ,jl,?_⟩⟩;have s1:=eS np (.lst [V.str (Tx (num mi)),V.str (Tx (num h)),V.str (Tx [42,32,42]),V.str (Tx (num w))]);refine⟨(),(),l,_,(()),SqL.of (s1 _ _ hl),rfl,(()),.inl ⟨by decide,by decide⟩,(),l,_,(()),SqL.of (s1 _ _ hl),rfl,(()),(),(),l,_,(()),SqL.of (s1 _ _ hl),rfl,(()),(zL 7),λT nT=>?_⟩
 exact q (.ref T) _ (s1.trans (eS nT _)) ⟨T,(),eJ,tx,ok⟩
theorem Dp:Dx P w base ZZ.cp 1 (Sg K):=by
 refine ZZ.cp.dfs U7 (by trivial) ?_;rintro _ _ _ _ s H _ Q E hr⟨l,z,e,rfl,hz,be,q⟩;refine⟨_,(eH (eU 2 (qy (gp [32]) (gB (aC (gQ i7 ZZ.ac PyProof.Rows.boot_str (A1 (eK (fk (K:=K)) Y0 eI))) (A3 (gQ i7 ZZ.ac PyProof.Rows.boot_str (A1 (eK (fk (K:=K)) Y0 eI))) (gQ i7 ZZ.ac PyProof.Rows.boot_str (A1 Y1)) (gp [42,32,42]))))) U7.nd) (eG (eP (ic (aC Y2 (aC (eE fq (eE g6 eI (eK (fk (K:=K)) Y0 eI)) (eK (fk (K:=K)) Y0 eI)) (aC eI (aC Y1 (A3 eI eI (eE fG (eK (fk (K:=K)) Y0 eI) eI)))))))))),?_⟩
 extract_lets;obtain⟨l',e',hl,mi,h,s,d,w,n,o,rfl,bi,bh,bs,bd,bw,bn,bo⟩:=hz;obtain rfl:l=l':=by injection e'
 obtain⟨mi,rfl⟩:=aZ bi.1;obtain⟨h,rfl⟩:=aZ bh.1;obtain⟨e,rfl⟩:=aZ (show 0<=e by omega);obtain⟨ok,tx⟩:=Of bi bh bo be;have lm:=jf (n:=mi) ⋯;have lh:=jf (n:=h) ⋯;have lw:=jf (n:=e) ⋯;have jl:(fU 32 [num mi,num h,num e,[42,32,42]]).length<=1000000:=by
  show (num mi++32::(num h++32::(num e++32::[42,32,42]))).length<=1000000;simp only[aS,bL,List.length_nil];omega
 refine⟨rfl,(),l,_,(()),SqL.of hl,rfl,mi,rfl,i5 ⋯,(),l,_,(()),SqL.of hl,rfl,h,rfl,i5 ⋯,(),e,rfl,i5 ⋯,(zL 4),λp np=>⟨32,p,[num mi,num h,num e,[42,32,42]],rfl,rfl,SqL.of eJ,jl,?_⟩⟩;have s1:=eS np (.lst [V.str (Tx (num mi)),V.str (Tx (num h)),V.str (Tx (num e)),V.str (Tx [42,32,42])]);refine⟨(),(),l,_,(()),SqL.of (s1 _ _ hl),rfl,(()),.inl ⟨by decide,by decide⟩,(),l,_,(()),SqL.of (s1 _ _ hl),rfl,(()),(),(),l,_,(()),SqL.of (s1 _ _ hl),rfl,(()),(zL 7),λT nT=>?_⟩
 exact q (.ref T) _ _ (s1.trans (eS nT _)) ⟨T,(),eJ,tx,ok⟩ rfl rfl
theorem XR:Dx P w base ZZ.dw 1 (Pg K):=by
 refine ZZ.dw.dfs Ub (by trivial) ?_;rintro _ _ _ _ s H _ Q E hr⟨l,z,rfl,hz,q⟩;refine⟨_,(eH (eU 1 (qy (gp [32]) (gB (A3 (gQ i7 ZZ.ac PyProof.Rows.boot_str (A1 (eK (fk (K:=K)) Y0 eI))) (gQ i7 ZZ.ac PyProof.Rows.boot_str (A1 (eK (fk (K:=K)) Y0 eI))) (eK (fk (K:=K)) (gB (A2 (gp [50,57,32,50,32,42]) (eE oh (eE oh (gp [42,32,50,32]) (gQ i7 ZZ.ac PyProof.Rows.boot_str (A1 (eK (fk (K:=K)) Y0 eI)))) (gp [35,53])))) (eE fW (eK (fk (K:=K)) Y0 eI) eI))))) Ub.nd) (eG (eP (ic (aC Y1 (aC (eE fq (eE g6 eI (eK (fk (K:=K)) Y0 eI)) (eK (fk (K:=K)) Y0 eI)) (aC (eE fq eI (eE fW (eK (fk (K:=K)) Y0 eI) eI)) (aC eI (A3 (eK (fk (K:=K)) Y0 eI) eI (eE fG (eK (fk (K:=K)) Y0 eI) eI)))))))))),?_⟩
 extract_lets;obtain⟨l',e',hl,mi,h,s,d,w,n,o,rfl,bi,bh,bs,bd,bw,bn,bo⟩:=hz;obtain rfl:l=l':=by injection e'
 obtain⟨mi,rfl⟩:=aZ bi.1;obtain⟨h,rfl⟩:=aZ bh.1;obtain⟨w,rfl⟩:=aZ bw.1;obtain⟨ok,tx⟩:=SJ (s:=5+d%2) bi bh bw bo ⋯;obtain⟨N,eN⟩:∃N,N=(if 5+d%2=5 then [50,57,32,50,32,42] else [42,32,50,32]++num w++[35,53]):=⟨()⟩;have lm:=jf (n:=mi) ⋯;have lh:=jf (n:=h) ⋯;have lw:=jf (n:=w) ⋯;have lN:N.length<=20:=by
  rw[eN];split
  ·decide
  ·rw[aS,aS];show 4+(num w).length+2<=20;omega
 rw[←eN] at tx;have jl:(fU 32 [num mi,num h,N]).length<=1000000:=by
  show (num mi++32::(num h++32::N)).length<=1000000;simp only[aS,bL];omega
 have hat:gK [V.str (Tx [50,57,32,50,32,42]),V.str (Tx ([42,32,50,32]++num w++[35,53]))] (d%2)=some (.str (Tx N)):=by
  rcases (show d%2=0∨d%2=1 by omega) with e | e<;>(rw[eN,e];rfl)
 refine⟨rfl,(),l,_,(()),SqL.of hl,rfl,mi,rfl,i5 ⋯,(),l,_,(()),SqL.of hl,rfl,h,rfl,i5 ⋯,(),l,_,(()),SqL.of hl,rfl,w,rfl,i5 ⋯,(()),(by rw[dW];exact bK (Nat.add_le_add_left lw _) (by decide)),(()),(by rw[dW,aS];exact bK (Nat.add_le_add_right (Nat.add_le_add_left lw _) _) (by decide)),(zL 2),λl2 n2=>?_⟩;have s0:=eS n2 (.lst [V.str (Tx [50,57,32,50,32,42]),V.str (Tx ([42,32,50,32]++num w++[35,53]))])
 refine⟨(),l,_,(()),SqL.of (s0 _ _ hl),rfl,(()),(by show (0:Int)<2;decide),l2,_,(()),SqL.of eJ,hat,(zL 3),λp np=>⟨32,p,[num mi,num h,N],rfl,rfl,SqL.of eJ,jl,?_⟩⟩;have s1:=s0.trans (eS np (.lst [V.str (Tx (num mi)),V.str (Tx (num h)),V.str (Tx N)]));refine⟨(),(),l,_,(()),SqL.of (s1 _ _ hl),rfl,(()),.inl ⟨by decide,by decide⟩,(),l,_,(()),SqL.of (s1 _ _ hl),rfl,(()),(),l,_,(()),SqL.of (s1 _ _ hl),rfl,(()),(by show (0:Int)<2;decide),(()),(),l,_,(()),SqL.of (s1 _ _ hl),rfl,(),l,_,(()),SqL.of (s1 _ _ hl),rfl,(()),(zL 7),λT nT=>?_⟩
 exact q (.ref T) _ _ (s1.trans (eS nT _)) ⟨T,(),eJ,tx,ok⟩ (by show 5+d%2=5∨5+d%2=6;omega) rfl
theorem Vk:Dx P w base ZZ.dx 3 (Q9 K):=by
 refine ZZ.dx.dfs Ua (by trivial) ?_;rintro _ _ _ _ s H _ Q E hr⟨l,cs,b,rfl,hl,hn,q⟩;refine⟨_,(eH (eU 2 (eD (rA ZZ) hr (A3 (eK (fk (K:=K)) Y0 eI) (gB (rj [6,4,12,11,10,9])) Y1)) Ua.nd) (eH (eU 3 (kn ["_law_mixed"] [1] (i8 (K:=K) (jT (nI (K:=K)) Y0 (j9 eI) j5)) (λ_ _ _ _ _ _=>jN) (λ_ _ _ _ _ _=>(eD (rA ZZ) hr (A3 Y0 (gB (rj [60,24,3,20,7,3,1441])) Y1)))) Ua.nd) (eH (fo (eZ fZ (eK (fk (K:=K)) Y2 eI) eI) (eH (eU 4 (eE fW (eE fq (eE fq (eK (fk (K:=K)) (eK (fk (K:=K)) Y3 eI) eI) eI) (eE fW (eK (fk (K:=K)) Y2 eI) eI)) eI) Ua.nd) (eG (eP (gB (A2 (eD (C9 ZZ) hr (A2 (eK (fk (K:=K)) Y3 eI) (eK (fk (K:=K)) (eK (fk (K:=K)) Y3 eI) eI))) (eD (C9 ZZ) hr (A2 (eE rH (jT (nI (K:=K)) (eK (fk (K:=K)) Y3 eI) j5 (j9 eI)) (jT (nI (K:=K)) (eK (fk (K:=K)) Y3 eI) (j9 eI) j5)) Y4))))))) ft) (eH (fo (eZ fZ (eK (fk (K:=K)) Y2 eI) eI) (eH (eU 5 (eE fq eI (eE fW (eK (fk (K:=K)) (eK (fk (K:=K)) Y3 eI) eI) eI)) Ua.nd) (eG (eP (gB (A2 (eD (Dp ZZ) hr (A2 (eK (fk (K:=K)) Y3 eI) Y5)) (eD (Dp ZZ) hr (A2 (eK (fk (K:=K)) Y3 eI) (eE fq (eE fq Y5 eI) (eE fW (eK (fk (K:=K)) (eK (fk (K:=K)) Y3 eI) eI) eI))))))))) ft) (eH (fo (eZ fZ (eK (fk (K:=K)) Y2 eI) eI) (eG (eP (gB (A2 (eD (XR ZZ) hr (A1 (eK (fk (K:=K)) Y3 eI))) (eD (MK ZZ) hr (A2 (eK (fk (K:=K)) Y3 eI) (eE fq eI (eE fW (eK (fk (K:=K)) Y2 eI) eI)))))))) ft) (eH (eU 6 (gQ CU ZZ.bp PyProof.Rows.boot_list (A1 (gQ vm ZZ.ad boot_range (A2 eI eI)))) Ua.nd) (eG (eP (kn ["_law_parts","_law_left","_law_drawn"] [3,6,2] (lZ ZZ.ad (A1 (eE fq eI (eK (fk (K:=K)) Y2 eI)))) (λ_ _ _ _ _ _=>jN) (λ_ _ _ _ _ _=>(eD (MK ZZ) hr (A2 (eK (fk (K:=K)) Y1 Y0) (Pq (K:=K) Y2 (eK (fk (K:=K)) Y3 (eE fq eI Y0))))))))))))))),?_⟩
 extract_lets;obtain⟨c0,c1,c2,c3,c4,rfl⟩:∃c0 c1 c2 c3 c4,cs=[c0,c1,c2,c3,c4]:=by
  match cs,hn with
  |[c0,c1,c2,c3,c4],_=>exact⟨_,_,_,_,()⟩
 have e6:∀z∈([6,4,12,11,10,9]:List Int),0<z/\z<1073741824:=by decide +kernel
 have e7:∀z∈([60,24,3,20,7,3,1441]:List Int),0<z/\z<1073741824:=by decide +kernel
 refine⟨(),l,_,(()),SqL.of hl,rfl,(zL 6),λls nls=>⟨(),c0,ls,b,[6,4,12,11,10,9],rfl,SqL.of eJ,e6,(by show 6<=63;decide),λds dp H1 s1 hdp hd=>?_⟩⟩;have s1:=(eS nls _).trans s1;obtain⟨d0,d1,d2,d3,d4,d5,rfl,b0,b1,b2,b3,b4,b5⟩:=RJ hd;refine⟨(),(),l,(),SqL.of (s1 _ _ hl),λcp ncp=>?_⟩;have s2:=s1.trans (eS ncp (.lst (g8 (([c0,c1,c2,c3,c4]:List Int).map V.int) (some 1) none)));have hcp:=eJ (H:=H1) (a:=cp) (o:=.lst (g8 (([c0,c1,c2,c3,c4]:List Int).map V.int) (some 1) none))
 have hdp2:=eS ncp (.lst (g8 (([c0,c1,c2,c3,c4]:List Int).map V.int) (some 1) none)) _ _ hdp;generalize upd H1 cp (.lst (g8 (([c0,c1,c2,c3,c4]:List Int).map V.int) (some 1) none))=H2 at hcp hdp2 s2 ⊢;rw[uu] at hcp;have hcp:H2 cp=some (.lst ([c1,c2,c3,c4].map V.int)):=hcp;refine⟨cp,rfl,⟨_,SqL.of hcp⟩,p6 (λD i w Hx=>∃zs:List (List Int),zs.length=i/\Paired (PtA (gr Hx D)) w zs) (λD i w Hx l0 l1 hD nD h=>by rw[oo];exact h) (by rw[dW];show 4<=16777216;decide) (λD nD=>⟨[],rfl,.nil⟩) (SqL.of hcp) ?st ?dn⟩
 case st=>
  intro i v w D H3 E' F' hv hR nD s3 hD hE hF;obtain⟨zs,hzl,hzp⟩:=hR;rw[bG] at hv;obtain⟨ci,hci,rfl⟩:=dE.mp hv;have hi:i<4:=(a9.mp hci).1;refine⟨(),(zL 7),λls nls=>⟨(),ci,ls,b,[60,24,3,20,7,3,1441],rfl,SqL.of eJ,e7,(by show 7<=63;decide),λds p H5 s5 hp hd=>?_⟩⟩;have s5:=(eS nls _).trans s5;have ne:p≠D:=λe=>by
   have z:=s5 _ _ hD;rw[←e,hp] at z;injection z with z;injection z with z;have lz:=congrArg List.length z;rw[aQ,ie hzp] at lz;have:=ie hd;have e7:([60,24,3,20,7,3,1441]:List Int).length=7:=rfl;omega
  exact hE _ _ s5 ⟨zs++[ds],by rw[aS,hzl];rfl,Gm ⟨p,rfl,(gU ne).trans hp,TQ hd⟩ (vx (pG s5) hzp)⟩
 case dn=>
  intro P H3 w hR nP s3 hP;obtain⟨zs,hzl,hzp⟩:=hR;obtain⟨pa,pb,pc,pd,za,zb,zc,zd,rfl,rfl,hpa,hpb,hpc,hpd⟩:=RQ (vx (mF (a:=P)) hzp) hzl;have sH3:=s2.trans s3;have hdp3:=s3 _ _ hdp2;have hdp3:H3 dp=some (.lst [V.int d0,V.int d1,V.int d2,V.int d3,V.int d4,V.int d5]):=hdp3;obtain⟨mia,ha,sa,da,wa,na,oa,ea,hla,bia,bha,bda,bwa,boa⟩:=hpa.at;obtain⟨mib,hb,sb,db_,wb,nb,ob,eb,hlb,bib,bhb,bdb,bwb,bob⟩:=hpb.at
  refine⟨(),dp,_,(()),SqL.of hdp3,rfl,rfl,(),f6 (λc3=>?k3) (λc3=>?_)⟩
  case k3=>
   refine⟨(),P,_,(()),SqL.of hP,rfl,pa,_,(()),SqL.of hla,rfl,(()),(),dp,_,(()),SqL.of hdp3,rfl,(()),(by show (0:Int)<2;decide),(()),(()),(by show (0:Int)<7;decide),?_⟩;refine⟨(),P,_,(()),SqL.of hP,rfl,(),P,_,(()),SqL.of hP,rfl,pa,_,(()),SqL.of hla,rfl,pa,mia,ha,sa,da,wa,na,oa,wa,rfl,hla,bia,bha,bwa,boa,λv1 H4 s4 L1=>?_⟩;have hP4:=s4 _ _ hP;refine⟨(),P,_,(()),SqL.of hP4,rfl,(),pa,(),SqL.of (s4 _ _ hla),λx1 n1=>?_⟩
   have e1:g8 [V.int mia,V.int ha,V.int sa,V.int da,V.int wa,V.int na,V.int oa] none (some 6)=[V.int mia,V.int ha,V.int sa,V.int da,V.int wa,V.int na]:=rfl;have e2:g8 [V.int mib,V.int hb,V.int sb,V.int db_,V.int wb,V.int nb,V.int ob] (some 6) none=[V.int ob]:=rfl;rw[e1];have s5:=s4.trans (eS n1 (.lst [V.int mia,V.int ha,V.int sa,V.int da,V.int wa,V.int na]));have hP5:=s5 _ _ hP;refine⟨(),P,_,(()),SqL.of hP5,rfl,(),pb,(),SqL.of (s5 _ _ hlb),λx2 n2=>?_⟩
   rw[e2];have s6:=s5.trans (eS n2 (.lst [V.int ob]));refine⟨x1,x2,(()),SqL.of (eS n2 _ _ _ eJ),SqL.of eJ,(by rw[dW];show 6+1<=16777216;decide),λx3 n3=>?_⟩;refine⟨(),x3,mia,ha,sa,da,wa,na,ob,(),eJ,bia,bha,⋯,bob,λv2 H8 s8 L2=>⟨(zL 2),λt nt=>?_⟩⟩;have s48:=(eS n1 _).trans ((eS n2 _).trans ((eS n3 _).trans s8));have sT:=eS nt (.lst [v1,v2]);have sA:=sH3.trans (s4.trans s48);exact q t [_,_] _ (sA.trans sT) (mw sA nt) ⟨[v1,v2],eJ,.cons (L1.keep (s48.trans sT)) (.cons (L2.keep sT) .nil),OU rfl rfl rfl (by show (wa+3+d1%2)%7=(wa+3)%7∨(wa+3+d1%2)%7=(wa+4)%7;omega),(by show 1<=2;decide),(by show 2<=4;decide)⟩
  refine⟨(),dp,_,(()),SqL.of hdp3,rfl,rfl,(),f6 (λc4=>?k4) (λc4=>?_)⟩
  case k4=>
   refine⟨(),P,_,(()),SqL.of hP,rfl,pa,_,(()),SqL.of hla,rfl,(()),(by show (0:Int)<12;decide),(()),?_⟩;refine⟨(),P,_,(()),SqL.of hP,rfl,(),pa,_,(),hpa,⋯,λv1 q1 H4 s4 L1 e1 f1=>?_⟩;have hP4:=s4 _ _ hP;refine⟨(),P,_,(()),SqL.of hP4,rfl,(),(()),(),P,_,(()),SqL.of hP4,rfl,pb,_,(()),SqL.of (s4 _ _ hlb),rfl,(()),(by show (0:Int)<9;decide),(()),pb,_,(),hpb.keep s4,⋯,λv2 q2 H8 s8 L2 e2 f2=>⟨(zL 2),λt nt=>?_⟩⟩
   have sT:=eS nt (.lst [v1,v2]);have sA:=sH3.trans (s4.trans s8);exact q t [q1,q2] _ (sA.trans sT) (mw sA nt) ⟨[v1,v2],eJ,.cons (L1.keep (s8.trans sT)) (.cons (L2.keep sT) .nil),OR L1.ok L2.ok e1 e2 ⋯ ⋯,(by show 1<=2;decide),(by show 2<=4;decide)⟩
  refine⟨(),dp,_,(()),SqL.of hdp3,rfl,rfl,(),f6 (λc5=>?k5) (λc5=>?_)⟩
  case k5=>
   refine⟨(),P,_,(()),SqL.of hP,rfl,pa,(),hpa,λv1 q1 H4 s4 L1 e1 m1=>?_⟩;have hP4:=s4 _ _ hP;refine⟨(),P,_,(()),SqL.of hP4,rfl,(),dp,_,(()),SqL.of (s4 _ _ hdp3),rfl,(()),(by show (0:Int)<9;decide),(()),pb,_,4+d2%9,rfl,hpb.keep s4,⋯,λv2 q2 H8 s8 L2 e2 m2=>⟨(zL 2),λt nt=>?_⟩⟩;have sT:=eS nt (.lst [v1,v2]);have sA:=sH3.trans (s4.trans s8);exact q t [q1,q2] _ (sA.trans sT) (mw sA nt) ⟨[v1,v2],eJ,.cons (L1.keep (s8.trans sT)) (.cons (L2.keep sT) .nil),TH L1.ok L2.ok ⟨⋯,⋯⟩ e2 ⋯,(by show 1<=2;decide),(by show 2<=4;decide)⟩
  refine⟨1,13,rfl,λrp nrp=>⟨rp,1,13,1,12,rfl,eJ,by decide,by decide,by decide,λM nM=>?_⟩⟩;have s4:=(eS nrp (kN rp 1 13 1)).trans (eS nM (.lst ((List.range 12).map λi:Nat=>V.int (1+(i:Int)*1))));have hM:upd (upd H3 rp (kN rp 1 13 1)) M (.lst ((List.range 12).map λi:Nat=>V.int (1+(i:Int)*1))) M=some (.lst (([1,2,3,4,5,6,7,8,9,10,11,12]:List Int).map V.int)):=eJ;have nM3:=mw (eS nrp (kN rp 1 13 1)) nM
  generalize upd (upd H3 rp (kN rp 1 13 1)) M (.lst ((List.range 12).map λi:Nat=>V.int (1+(i:Int)*1)))=H4 at s4 hM ⊢;have hdp4:=s4 _ _ hdp3;refine⟨(),dp,_,(()),SqL.of hdp4,rfl,(()),1+d1,rfl,⋯,⋯,VC (M:=M) (λD i w Hx=>∃(qs:List LQ) (ns:List Int),Hx M=some (.lst (ns.map V.int))/\qk qs ns i/\Paired (LqA Hx) w qs/\qs.length=i) (λz=>by rw[hM] at z;cases z) ?hm (by rw[dW];omega) ?h0 ?hs ?hd⟩
  case hm=>
   rintro D i w Hx l0 l1 hD nD ⟨qs,ns,h1,h2,h3,h4⟩;have ne:M≠D:=λe=>by rw[←e,hM] at nD;cases nD
   exact⟨qs,ns,by rw[fh ne];exact h1,h2,rM hD h3,h4⟩
  case h0=>
   intro D nD;have ne:M≠D:=λe=>by rw[←e,hM] at nD;cases nD
   exact⟨[],[1,2,3,4,5,6,7,8,9,10,11,12],by rw[fh ne];exact hM,TL,.nil,rfl⟩
  case hs=>
   rintro i w D H5 E' F' hi ⟨qs,ns,hM5,lf,hq,hql⟩ nD b5 hD hE hF;have hi4:i<4:=⋯;have s35:Same H3 H5:=sY ((But.of s4).trans b5) nM3;have hP5:=s35 _ _ hP;have hdp5:=s35 _ _ hdp3;have hx:∃(px:Addr) (z:List Int) (dk:Int),gK [V.ref pa,V.ref pb,V.ref pc,V.ref pd] (0+(i:Int))=some (.ref px)/\PtA H3 (.ref px) z/\gK [V.int d0,V.int d1,V.int d2,V.int d3,V.int d4,V.int d5] (2+(0+(i:Int)))=some (.int dk)/\0<=dk/\dk+i<12:=by
    rcases (show i=0∨i=1∨i=2∨i=3 by omega) with rfl | rfl | rfl | rfl
    ·exact⟨pa,_,d2,rfl,hpa,rfl,⋯,⋯⟩
    ·exact⟨pb,_,d3,rfl,hpb,rfl,⋯,⋯⟩
    ·exact⟨pc,_,d4,rfl,hpc,rfl,⋯,⋯⟩
    ·exact⟨pd,_,d5,rfl,hpd,rfl,⋯,⋯⟩
   obtain⟨px,z,dk,ha1,hpx,ha2,k0,k1⟩:=hx;have lfl:=lf.len;obtain⟨m,hm⟩:∃m,ns[dk.toNat]? =some m:=⟨_,bH ⋯⟩;have ml:=lf.lim m (aY hm);have hb6:But M H5 (upd H5 M (.lst ((ns.map V.int).eraseIdx dk.toNat))):=.upd;have s36:Same H3 (upd H5 M (.lst ((ns.map V.int).eraseIdx dk.toNat))):=sY ((But.of s35).trans hb6) nM3;refine⟨(),(),P,_,(()),SqL.of hP5,ha1,(),.inl ⟨rfl,_,SqL.of hM5⟩,(),(),(()),dp,_,(()),SqL.of hdp5,ha2,M,_,dk,dk.toNat,.int m,rfl,rfl,hM5,⋯,⋯,Vw k0 (by rw[aQ];omega),(by rw[bG,hm];rfl),px,z,m,rfl,hpx.keep s36,ml,λv q H6 s6 L q34 em=>hE v H6 (hb6.trans (.of s6)) ?_⟩
   refine⟨qs++[q],ns.eraseIdx dk.toNat,?_,S0 lf (by rw[em];exact hm) q34,B1 L (sI s6 (rM hM5 hq)),by rw[aS,hql];rfl⟩;rw[List.eraseIdx_eq_take_drop_succ,bE,List.map_take,List.map_drop,←List.eraseIdx_eq_take_drop_succ];exact s6 _ _ eJ
  case hd=>
   rintro D H5 w ⟨qs,ns,hM5,lf,hq,hql⟩ nD b5 hD;have s35:Same H3 H5:=sY ((But.of s4).trans b5) nM3;exact q D qs _ (sH3.trans s35) (mw (sH3.trans s4) nD) ⟨w,hD,hq,Qz hq lf.ok (List.nodup_append.mp lf.nd).1,⋯,⋯⟩
theorem Cq:Dx P w base ZZ.cq 2 (Vb K):=by
 refine ZZ.cq.dfs U5 (by trivial) ?_;rintro _ _ _ _ s H _ Q E hr⟨t,x,q,Y,rfl,ht,ok,qq⟩;refine⟨_,(eH (pM Y0 (k7 (K:=K) (gg (gN 2 U5.nd) (gg (gN 3 U5.nd) (gg (gN 4 U5.nd) (gg (gN 5 U5.nd) (gg (gN 6 U5.nd) (gg (gN 7 U5.nd) (gg (gN 8 U5.nd) j6))))))))) (eH (eU 9 (eE fq (eD (qi ZZ) hr (A1 Y1)) (gh vb ZZ.ez PyProof.Rows.boot_sum (A1 (kn ["_law_year_here"] [1] (LM ZZ.ad (A2 eI Y7)) (λ_ _ _ _ _ _=>jN) (λ_ _ _ _ _ _=>(eD (KA ZZ) hr (A2 Y1 Y0))))))) U5.nd) (eH (eU 10 (eD (KA ZZ) hr (A2 Y1 Y7)) U5.nd) (eH (eU 11 Y5 U5.nd) (lP (fo (eZ fZ Y4 eI) (eG (eU 11 (eE fq (eE fq eI (eE fW (eE fG (eE fG Y6 Y9) eI) eI)) (eE g6 eI (eE fG Y5 eI))) U5.nd)) ft) (lP (fo (eZ fZ Y4 eI) (eG (eU 11 (eE fG (v_ 10) (eE fW (eE fG (eE fq (eE fq Y9 (v_ 10)) eI) Y6) eI)) U5.nd)) ft) (lP (fo (eZ fZ Y4 eI) (eG (eU 11 eI U5.nd)) ft) (lP (fo (eZ fZ Y4 eI) (eG (eU 11 (eE fq eI (eE fW (eE fG (eE fG Y6 Y9) eI) eI)) U5.nd)) ft) (eH (fo (eZ jO (v_ 11) (v_ 10)) (eG (eP eN)) ft) (eG (eP (eE fq (eE g6 eI (eE fG (eE fq Y9 (v_ 11)) eI)) Y3)))))))))))),?_⟩
 extract_lets;obtain⟨⟨s0,s6,s3⟩,m1,m12⟩:=ok;refine⟨(),t,(),SqT.of ht,rfl,_,(),_,(),_,(),_,(),_,(),_,(),(()),?_⟩;obtain⟨eF,eL⟩:=Wf (y:=Y) m1 m12;obtain⟨M,eM⟩:∃M,M=12*Y+q.m-1:=⟨()⟩;rw[←eM] at eF eL qq;refine⟨(),Y,rfl,(),1,q.m,rfl,⟨by decide,by decide,⋯,⋯⟩,pQ (λi z=>∃zs:List Int,z=zs.map V.int/\zs.sum=ji Y (1+(i:Int))) (by rw[dW];omega) ⟨[],rfl,rfl⟩ ?st ?dn⟩
 case st=>
  rintro i z D H2 E' F' hi ⟨zs,rfl,hz⟩ nD s2 hD hE hF;refine⟨(),(),Y,(),⟨⋯,⋯⟩,λH3 s3=>hE _ _ s3 ⟨zs++[fH Y (1+(i:Int))],by rw[bE];rfl,?_⟩⟩;rw[List.sum_append,hz,show 1+((i+1:Nat):Int)=1+(i:Int)+1 by omega,uZ ⋯,List.sum_cons,List.sum_nil,Int.add_zero]
 case dn=>
  rintro D H2 z ⟨zs,rfl,hz⟩ nD s2 hD;rw[show 1+((q.m-1).toNat:Int)=q.m by omega] at hz;refine⟨D,zs,rfl,SqL.of hD,(()),?_⟩;rw[hz,eF];refine⟨(),(),Y,q.m,rfl,⟨m1,m12⟩,λH3 s3=>?_⟩;rw[eL];have qq':=qq H3 (s2.trans s3);unfold oN iw iS at qq';rw[←NW] at qq';refine⟨(),λσ' H'=>σ'=[some (.ref t),some (.int Y),some (.str x),some (.int (q.tm:Int)),some (.int q.s),some (.int q.n),some (.int q.w),some (.int q.m),some (.int q.off),some (.int (eW M)),some (.int (fX M)),some (.int (ou q (eW M)))]/\H'=H3,?c1,?_⟩
  case c1=>
   refine⟨(),rfl,(),f6 (λc=>?_) (λc=>?_)⟩
   ·refine⟨(),(),(()),(()),(()),(by show (0:Int)<7;decide),(()),(),(()),(()),.inl ⟨by decide,by decide⟩,(()),?_⟩;exact⟨by unfold ou;rw[if_pos c];rfl,rfl⟩
   ·exact⟨by unfold ou;rw[if_neg c];rfl,rfl⟩
  rintro σ' H' ⟨rfl,rfl⟩;refine⟨λσ' H2=>σ'=[some (.ref t),some (.int Y),some (.str x),some (.int (q.tm:Int)),some (.int q.s),some (.int q.n),some (.int q.w),some (.int q.m),some (.int q.off),some (.int (eW M)),some (.int (fX M)),some (.int (pk q (eW M) (fX M)))]/\H2=H',?c2,?_⟩
  case c2=>
   refine⟨(),rfl,(),f6 (λc=>?_) (λc=>?_)⟩
   ·refine⟨(),(),(),(()),(()),(),(()),(()),(by show (0:Int)<7;decide),(()),?_⟩;exact⟨by unfold pk;rw[if_pos c];rfl,rfl⟩
   ·exact⟨by unfold pk;rw[if_neg c],rfl⟩
  rintro σ' H' ⟨rfl,rfl⟩;refine⟨λσ' H2=>σ'=[some (.ref t),some (.int Y),some (.str x),some (.int (q.tm:Int)),some (.int q.s),some (.int q.n),some (.int q.w),some (.int q.m),some (.int q.off),some (.int (eW M)),some (.int (fX M)),some (.int (pe q (eW M) (fX M)))]/\H2=H',?c5,?_⟩
  case c5=>
   refine⟨(),rfl,(),f6 (λc=>?_) (λc=>?_)⟩
   ·exact⟨by unfold pe;rw[if_pos c];rfl,rfl⟩
   ·exact⟨by unfold pe;rw[if_neg c],rfl⟩
  rintro σ' H' ⟨rfl,rfl⟩;refine⟨λσ' H2=>σ'=[some (.ref t),some (.int Y),some (.str x),some (.int (q.tm:Int)),some (.int q.s),some (.int q.n),some (.int q.w),some (.int q.m),some (.int q.off),some (.int (eW M)),some (.int (fX M)),some (.int (ph q (eW M) (fX M)))]/\H2=H',?c6,?_⟩
  case c6=>
   refine⟨(),rfl,(),f6 (λc=>?_) (λc=>?_)⟩
   ·refine⟨(),(),(()),(()),(()),(by show (0:Int)<7;decide),(()),?_⟩;exact⟨by unfold ph;rw[if_pos c];rfl,rfl⟩
   ·exact⟨by unfold ph;rw[if_neg c],rfl⟩
  rintro σ' H' ⟨rfl,rfl⟩;refine⟨(),(),(()),(),gz (λc=>?_) (λc=>?_)⟩
  ·rw[if_pos c] at qq';exact qq'
  ·rw[if_neg c] at qq';exact⟨(),(),(()),(()),(()),.inl ⟨by decide,by decide⟩,(),(()),qq'⟩
theorem D2:Dx P w base ZZ.cr 3 (Qk K):=by
 refine ZZ.cr.dfs U6 (by trivial) ?_;rintro _ _ _ _ s H _ Q E hr⟨t,q,x,rfl,hq,qq⟩;refine⟨_,(eH (fo (eZ fZ (eK (fJ (K:=K)) Y0 eI) eI) (eH (eU 2 (eE fG Y1 (eE fW (eE fG (eE fG Y1 (eE g6 eI (eE fq (eK (fJ (K:=K)) Y0 eI) eI))) (eK (fJ (K:=K)) Y0 eI)) eI)) U6.nd) (eG (eP (gB (A2 Y2 (eE fG Y2 eI)))))) ft) (eH (eU 3 (eD (Tn ZZ) hr (A1 (eE jZ Y1 eI))) U6.nd) (eH (eU 4 (gB aN) U6.nd) (eH (eU 5 eI U6.nd) (eH (qc (eZ kB (gh (jD (K:=K)) ZZ.ae PySem.boot_len (A1 Y4)) eI) (lP (fo (eZ fZ (eK (fJ (K:=K)) Y0 eI) eI) (eG (eU 6 (eD (Cq ZZ) hr (A2 (eE (Mg (K:=K)) (eE (Mg (K:=K)) (jT (Ay (K:=K)) Y0 j5 (j9 eI)) (ic (A1 (eE fG eI (eE fW Y5 eI))))) (jT (Ay (K:=K)) Y0 (j9 eI) j5)) (eE fG Y3 (eE jZ Y5 eI)))) U6.nd)) (eG (eU 6 (eD (Cq ZZ) hr (A2 Y0 (eE fG Y3 Y5))) U6.nd))) (eH (fo (tW (rf (eZ Mu Y6 eN) (qm (eZ kG Y6 Y1)))) (eG (kO (mT Y4 Y6))) ft) (eG (eU 5 (eE fq Y5 eI) U6.nd)))) PassesOwn.never) (eG (eP Y4))))))),?_⟩
 extract_lets;obtain⟨t',xs,e',ht,tx,ok⟩:=hq;obtain rfl:t=t':=by injection e'
 refine⟨(),t,_,(()),SqT.of ht,rfl,rfl,(),f6 (λc=>?w) (λh3=>?_)⟩
 case w=>
  exact⟨(),(),(),t,_,(()),SqT.of ht,rfl,(()),(()),.inl ⟨by decide,by decide⟩,(()),(),t,_,(()),SqT.of ht,rfl,(()),(()),(by show (0:Int)<10080;decide),(()),(),(),(()),(zL 2),λl nl=>qq l _ _ _ nl (eS nl _) eJ (u9 ok c x)⟩
 refine⟨(),(()),⟨by decide,by decide⟩,x / 1440,rfl,λY y1 y2=>⟨(zL 0),λF nF=>?_⟩⟩;refine qN (λσ H2=>∃(b:Nat) (fs:List Int) (v6:Option V),σ=[some (.ref t),some (.int x),none,some (.int Y),some (.ref F),some (.int (b:Int)),v6]/\Same H H2/\H2 F=some (.lst (fs.map V.int))/\Bk q x Y b fs/\fs.length<=2) (λσ _=>(1000-(iv σ 5)).toNat) ⟨0,[],none,rfl,eS nF _,eJ,ui q x Y,bD _⟩ ?_;rintro σ H2 ⟨b,fs,v6,rfl,s2,hF,bk,hl⟩
 have ht2:=s2 _ _ ht;refine⟨(),F,(),.inl (SqL.of hF),(()),(),gz (λc=>?_) (λc=>?_)⟩
 ·rw[aQ] at c;have hb:b<972:=by
   rcases bP b 972 with z | z
   ·exact z
   ·have:=Qu ok h3 y1 bk z;omega
  refine⟨_,λ_ _ h=>h,λσ' H'=>Same H2 H'/\σ'=[some (.ref t),some (.int x),none,some (.int Y),some (.ref F),some (.int (b:Int)),some (oN q (mB q Y b))],?c4,?_⟩
  case c4=>
   refine⟨(),t,_,(()),SqT.of ht2,rfl,rfl,(),f6 (λc4=>?_) (λc4=>?_)⟩
   ·have e5:g8 (qu q xs) none (some 5)=[.str xs,.int q.tm,.int q.s,.int q.n,.int q.w]:=rfl;have e6:g8 (qu q xs) (some 6) none=[.int q.off]:=rfl;refine⟨(),(),t,(),SqT.of ht2,(λz=>absurd z.2 (by show ¬HT.sIx 7 7 (some 5)=7;decide)),λp1 n1=>?_⟩;rw[e5];have s3:=eS n1 (.tup [.str xs,.int q.tm,.int q.s,.int q.n,.int q.w]);refine⟨(),(()),(by show (0:Int)<12;decide),(()),(zL 1),λp2 n2=>?_⟩;have s4:=eS n2 (.tup [.int (12-(b:Int)%12)])
    refine⟨p1,p2,(()),SqT.of (s4 _ _ eJ),SqT.of eJ,⟨bU _ _,bU _ _⟩,(by rw[dW];show 5+1<=16777216;decide),λp3 n3=>?_⟩;have s5:=eS n3 (.tup ([.str xs,.int q.tm,.int q.s,.int q.n,.int q.w]++[.int (12-(b:Int)%12)]));have s25:=s3.trans (s4.trans s5);refine⟨(),(),t,(),SqT.of (s25 _ _ ht2),(λz=>absurd z.1 (by show ¬HT.sIx 7 0 (some 6)=0;decide)),λp4 n4=>?_⟩;rw[e6];have s6:=eS n4 (.tup [.int q.off]);refine⟨p3,p4,(()),SqT.of (s6 _ _ eJ),SqT.of eJ,⟨bU _ _,bU _ _⟩,(by rw[dW];show 6+1<=16777216;decide),λp5 n5=>?_⟩
    have s7:=s25.trans (s6.trans (eS n5 (.tup ([.str xs,.int q.tm,.int q.s,.int q.n,.int q.w]++[.int (12-(b:Int)%12)]++[.int q.off]))));refine⟨(),(),(()),⟨by decide,by decide⟩,(()),p5,xs,⟨q.s,q.n,q.w,12-(b:Int)%12,q.tm,q.off⟩,Y-(b:Int) / 12,rfl,eJ,⟨⟨ok.s.1,ok.s.2,h3⟩,by show 1<=12-(b:Int)%12;omega,by show 12-(b:Int)%12<=12;omega⟩,λH' s'=>⟨s7.trans s',?_⟩⟩;have eM:mB q Y b=12*(Y-(b:Int) / 12)+(12-(b:Int)%12)-1:=by
     unfold mB;rw[if_pos c4];omega
    rw[eM];rfl
   ·refine⟨(),(),(),(()),t,xs,q,Y-b,rfl,ht2,⟨⟨ok.s.1,ok.s.2,h3⟩,ok.m h3 c4⟩,λH' s'=>⟨s',?_⟩⟩;have eM:mB q Y b=12*(Y-(b:Int))+q.m-1:=by
     unfold mB;rw[if_neg c4]
    rw[eM];rfl
  rintro σ' H3 ⟨s3,rfl⟩;have hF3:=s3 _ _ hF;by_cases cm:fX (mB q Y b)<iS q (mB q Y b)
  ·have e:oN q (mB q Y b)=.non:=if_pos cm;rw[e];refine⟨(),rfl,(),?_⟩;rw[dZ rfl];refine fN ⟨(),(()),_,(by show (1000-((b:Int)+1)).toNat<(1000-(b:Int)).toNat;omega),rfl,b+1,fs,(),s2.trans s3,hF3,zD bk (λz=>by omega),hl⟩
  ·have e:oN q (mB q Y b)=.int (iw q (mB q Y b)):=if_neg cm;rw[e];refine⟨(),rfl,(),?_⟩;rw[d7 (λz=>by cases z)];refine gH ⟨(),(),(()),(),gz (λc2=>?_) (λc2=>?_)⟩
   ·refine⟨(),.inl ⟨rfl,_,SqL.of hF3⟩,(),F,(()),hF3,(by rw[dW,aQ];omega),?_⟩;refine⟨(),(()),_,(by show (1000-((b:Int)+1)).toNat<(1000-(b:Int)).toNat;omega),rfl,b+1,fs++[iw q (mB q Y b)],(),li nF (s2.trans s3),(by rw[bE];exact eJ),V0 ok h3 bk ⋯ c2,(by rw[aS];show fs.length+1<=2;omega)⟩
   ·exact⟨(),(()),_,(by show (1000-((b:Int)+1)).toNat<(1000-(b:Int)).toNat;omega),rfl,b+1,fs,(),s2.trans s3,hF3,zD bk (λz=>c2 z.2),hl⟩
 ·rw[aQ] at c
  match fs,hl,(show 2<=fs.length by omega),hF,bk with
  |[u1,u0],_,_,hF,bk=>exact⟨(),qq F u1 u0 H2 nF s2 hF (R7 ok h3 y2 bk)⟩
theorem sx:Dx P w base ZZ.c2 4 (Sv K):=by
 refine ZZ.c2.dfs U9 (by trivial) ?_;rintro _ _ _ _ s H _ Q E hr⟨l,qs,x,rfl,hq,qq⟩;refine⟨_,(eH (eU 2 (gB aN) U9.nd) (eH (io (i8 (K:=K) Y0) (gN 3 U9.nd) (eG (eU 2 (eE rH Y2 (kn ["_law_put_here"] [3] (i8 (K:=K) (eD (D2 ZZ) hr (A2 Y3 Y1))) (λ_ _ _ _ _ _=>jN) (λ_ _ _ _ _ _=>(ic (A2 Y0 (eK (fJ (K:=K)) Y1 eI)))))) U9.nd)) PassesOwn.never) (eH (eU 2 (gh Kr ZZ.bx PyProof.Rows.boot_sorted (A1 Y2)) U9.nd) (eG (eP (ic (A3 (eK (fJ (K:=K)) (eK (fk (K:=K)) Y2 (kW kP eI)) eI) (eK (fJ (K:=K)) (eK (fk (K:=K)) Y2 (kW kP eI)) eI) (eK (fJ (K:=K)) (eK (fk (K:=K)) Y2 (kW kP eI)) eI)))))))),?_⟩
 extract_lets;obtain⟨us,hl,hp,hf,l1,l4⟩:=hq;refine⟨(zL 0),λF nF=>?_⟩;refine⟨(),l,rfl,⟨_,SqL.of (eS nF _ _ _ hl)⟩,kE (K:=K) (a:=l) (xs:=us) (λi σ H2=>∃(G:Addr) (gs:List V) (S:List (Int×Int)) (v3:Option V),σ=[some (.ref l),some (.int x),some (.ref G),v3]/\Same H H2/\H2 G=some (.lst gs)/\Paired (gm H2) gs S/\ol x (qs.take i) S) ⟨F,[],[],(),eS nF _,eJ,.nil,um x⟩ (λi σ H2 _ ⟨_,_,_,_,_,z,_⟩=>SqL.of (z _ _ hl)) ?turn ?done⟩
 case done=>
  rintro σ H2 ⟨G,gs,S,v3,rfl,s2,hG,hS,ac⟩;rw[ie hp,bW] at ac;have len:=ac.len;refine⟨(),G,gs,S,rfl,SqL.of hG,hS,⋯,ac.nd,λD us' ps' nD hp' pm pw=>?_⟩;have lp:=pm.length_eq;have lu:=ie hp';have two:2<=us'.length:=⋯;obtain⟨xA,hxA⟩:∃v,us'[us'.length-1]? =some v:=⟨_,bH ⋯⟩;obtain⟨xB,hxB⟩:∃v,us'[us'.length-2]? =some v:=⟨_,bH ⋯⟩;obtain⟨tA,pA,rfl,htA,hpA⟩:=kr hp' hxA;obtain⟨tB,pB,rfl,htB,hpB⟩:=kr hp' hxB
  have z1:gK us' (-1)=some (.ref tA):=(vW two (bD _)).1.trans hxA;have z2:gK us' (-2)=some (.ref tB):=(vW two (bD _)).2.trans hxB;rw[lu] at hpA hpB;have tw:=M7 ac hf pm pw hpA hpB ⋯;have sD:=eS nD (.lst us');refine⟨(),(),D,_,(()),SqL.of eJ,z1,tA,_,(()),SqT.of (sD _ _ htA),rfl,(),(),D,_,(()),SqL.of eJ,z2,tB,_,(()),SqT.of (sD _ _ htB),rfl,(),(),D,_,(()),SqL.of eJ,z1,tA,_,(()),SqT.of (sD _ _ htA),rfl,(zL 3),λT nT=>?_⟩
  exact qq _ _ _ T _ (mw (s2.trans sD) nT) tw (s2.trans (sD.trans (eS nT _))) eJ
 case turn=>
  rintro i v σ H2 hv ⟨G,gs,S,v3,rfl,s2,hG,hS,ac⟩;obtain⟨q,hqi,hqv⟩:=kU hp hv;obtain⟨t,xs,rfl,ht,tx,ok⟩:=id hqv;have hq2:=hqv.keep s2;refine⟨(),(),(),t,q,x,rfl,hq2,λm u1 u0 H3 nm s3 hm l2=>?_⟩;have hm:H3 m=some (.lst ([u1,u0].map V.int)):=hm;have ht3:=s3 _ _ (s2 _ _ ht);refine⟨m,rfl,⟨_,SqL.of hm⟩,p6 (λD j w Hx=>Paired (gm (gr Hx D)) w (([u1,u0].take j).map λu=>(u,q.off))) (λD j w Hx l0 l1 hD nD h=>by rw[oo];exact h) (by rw[dW];show 2<=16777216;decide) (λD nD=>.nil) (SqL.of hm) ?st ?dn⟩
  case st=>
   intro j v' w D H4 E' F' hv' hR nD s4 hD hE hF;rw[bG] at hv';obtain⟨u,hu,rfl⟩:=dE.mp hv';refine⟨(),(),t,_,(()),SqT.of (s4 _ _ ht3),rfl,(zL 2),λT nT=>hE _ _ (eS nT _) ?_⟩;have ne:T≠D:=λe=>by rw[e,hD] at nT;cases nT
   rw[cG,hu,bE];exact lO (p:=(u,q.off)) ((gU ne).trans eJ) (jp (pG (eS nT _)) hR)
  case dn=>
   intro D H4 w hR nD s4 hD;have hR:=jp (mF (a:=D)) hR;have s34:=s3.trans s4;have tk:qs.take (i+1)=qs.take i++[q]:=by rw[cG,hqi];rfl
   have lS:=ac.len;rw[b9] at lS;have lg:=ie hS;have lw:=ie hR;have lw:w.length=2:=lw;refine⟨G,D,(()),SqL.of (s34 _ _ hG),SqL.of hD,(by rw[dW];omega),λp np=>?_⟩;have sp:=eS np (.lst (gs++w));refine⟨p,gs++w,S++[(u1,q.off),(u0,q.off)],(),s2.trans (s34.trans sp),eJ,?_,by rw[tk];exact uz ac l2 (by rw[←tk];exact V9 hf _)⟩;cases hR with
   |cons x1 r=>cases r with
    |cons x0 r=>cases r with
     |nil=>
      obtain⟨t1,rfl,h1⟩:=x1;obtain⟨t0,rfl,h0⟩:=x0;have z:=lO (p:=(u0,q.off)) (sp _ _ h0) (lO (p:=(u1,q.off)) (sp _ _ h1) (jp (s34.trans sp) hS));rw[dF,dF] at z;exact z
theorem PH:Dx P w base ZZ.dy 4 (Q4 K):=by
 refine ZZ.dy.dfs Uf (by trivial) ?_;rintro _ _ _ _ s H _ Q E hr⟨c,l,qs,b,rfl,hq,qq⟩;refine⟨_,(eH (pM (eD (rA ZZ) hr (A3 Y0 (gB (rj [2,4001,4,3001])) Y2)) (zQ (gg (gN 3 Uf.nd) (gg (gN 4 Uf.nd) (gg (gN 5 Uf.nd) (gg (gN 6 Uf.nd) j6)))))) (eH (fo (eZ fZ Y3 eI) (eG (eP (eE fG (eE fW (eE jZ Y0 eI) (eE fq (eE g6 eI (eE oG eI eI)) eI)) (eE oG eI eI)))) ft) (eH (eU 7 (eK (fk (K:=K)) (eD (D2 ZZ) hr (A2 (eK (fk (K:=K)) Y1 (eE fW Y5 (gh (jD (K:=K)) ZZ.ae PySem.boot_len (A1 Y1)))) (eE g6 eI (eD (qi ZZ) hr (A1 (eE fG Y4 eI)))))) eI) Uf.nd) (eG (eP (eE fq Y7 (eK (fk (K:=K)) (gB (A2 (eE fG Y6 eI) (eE fG (eE fW Y6 eI) eI))) (eE fW Y6 eI)))))))),?_⟩
 extract_lets;obtain⟨us,hl,hp,hf,l1,l4⟩:=hq;have e4:∀z∈([2,4001,4,3001]:List Int),0<z/\z<1073741824:=by decide +kernel
 refine⟨(),(zL 4),λls nls=>⟨(),c,ls,b,[2,4001,4,3001],rfl,SqL.of eJ,e4,(by show 4<=63;decide),λds dp H1 s1 hdp hd=>?_⟩⟩;have s1:=(eS nls _).trans s1;obtain⟨g0,g1,g2,g3,rfl,b2,b3⟩:∃g0 g1 g2 g3:Int,ds=[g0,g1,g2,g3]/\(0<=g2/\g2<4)/\0<=g3/\g3<3001:=by
  cases hd with | cons a0 h=>cases h with | cons a1 h=>cases h with | cons a2 h=>cases h with | cons a3 h=>cases h with | nil=>exact⟨_,_,_,(),a2,a3⟩
 refine⟨dp,(),SqL.of hdp,rfl,_,(),_,(),_,(),(()),?_⟩;refine⟨(),rfl,(),f6 (λc0=>?_) (λc0=>?_)⟩
 ·exact⟨(),(()),⟨by decide,by decide⟩,(()),⟨by decide,by decide,by decide⟩,(()),.inl ⟨by decide,by decide⟩,(()),(()),(by decide +kernel),(()),⟨by decide,by decide,by decide⟩,(()),qq _ _ s1⟩
 have hl1:=s1 _ _ hl;have lu:=ie hp;have u0:0<(us.length:Int):=⋯;have m0:=cW g2 (Int.ne_of_gt u0);have m1:=dJ g2 u0;obtain⟨v,hv⟩:∃v,us[(g2%(us.length:Int)).toNat]? =some v:=⟨_,bH ⋯⟩;obtain⟨q,_,hqv⟩:=kU hp hv;obtain⟨t,xs,rfl,ht,tx,ok⟩:=id hqv;have hv:=lV hv;rw[bQ m0] at hv;obtain⟨z,hz⟩:∃z,gK [V.int (g3-1500),V.int (g3%5-2)] (g3%2)=some (.int z):=by
  rcases (show g3%2=0∨g3%2=1 by omega) with e | e<;>(rw[e];exact⟨()⟩)
 refine⟨(),(),(),l,(),.inl (SqL.of hl1),(()),u0,l,_,(()),SqL.of hl1,hv,(),(()),g1-1000,rfl,(()),.inl ⟨by decide,by decide⟩,t,q,(),hqv.keep s1,λm u1 u0 H2 nm s2 hm l2=>?_⟩;refine⟨m,_,(()),SqL.of hm,rfl,?_⟩;refine⟨(),(),(()),(),(()),(by show (0:Int)<5;decide),(()),(zL 2),λl2 n2=>⟨(),(()),(by show (0:Int)<2;decide),l2,_,(()),SqL.of eJ,hz,(()),qq _ _ (s1.trans (s2.trans (eS n2 _)))⟩⟩
theorem R0:Dx P w base ZZ.dd 5 (NS K):=by
 refine ZZ.dd.dfs Oi (by trivial) ?_;rintro _ _ _ _ s H _ Q E hr⟨l,qs,x,rfl,hq,q⟩;refine⟨_,(eG (eP (eE fq Y1 (eK (fJ (K:=K)) (eD (sx ZZ) hr (A2 Y0 Y1)) eI)))),?_⟩;exact⟨(),(),(),l,qs,x,rfl,hq,λa b c t H' nt two s' ht=>⟨t,_,(()),SqT.of ht,rfl,(()),q a b c H' two s'⟩⟩
theorem Wp:Dx P w base ZZ.eg 5 (Ou K):=by
 refine ZZ.eg.dfs Ue (by trivial) ?_;rintro _ _ _ _ s H _ Q E hr⟨l,qs,x,rfl,hq,q⟩;refine⟨_,(eH (pM (eD (sx ZZ) hr (A2 Y0 Y1)) (k7 (K:=K) (gg (gN 2 Ue.nd) (gg (gN 3 Ue.nd) (gg (gN 4 Ue.nd) j6))))) (eG (eP (gh Jw ZZ.d5 PyProof.Rows.boot_max (A2 (eE fq Y1 Y4) (eE fq (eE fG Y2 eI) Y3)))))),?_⟩;extract_lets;refine⟨(),(),l,qs,x,rfl,hq,λa b c t H' nt two s' ht=>⟨t,(),SqT.of ht,rfl,_,(),_,(),(()),?_⟩⟩
 have em:max (x+c) (a-1+b)=if a-1+b>x+c then a-1+b else x+c:=by split<;>omega
 have e:=q a b c H' two s';rw[em] at e;exact⟨(),(),(()),(),(()),(),(()),_,(),e⟩
theorem OD:Dx P w base ZZ.de 12 (Os K):=by
 refine ZZ.de.dfs Ra (by trivial) ?_;rintro _ _ _ _ s H _ Q E hr⟨l,qs,rfl,hq,q⟩;refine⟨_,(eG (eP (kS ZZ.af (Nl ZZ) hr (A1 (kn [] [] (i8 (K:=K) Y0) (λ_ _ _ _ _ _=>jN) (λ_ _ _ _ _ _=>(ic (A2 (Sj (Rr ZZ) hr (A1 (eK (fJ (K:=K)) Y0 eI))) (eK (fJ (K:=K)) Y0 eI))))))))),?_⟩;obtain⟨us,hl,hp,hf,n1,n4⟩:=hq;have lps:=ie hp;refine⟨(),l,rfl,⟨_,SqL.of hl⟩,p6 (λD j w Hx=>∃Ps:List gc,Paired (PutX (gr Hx D)) w Ps/\Paired PQ Ps (qs.take j)) (λD j w Hx l0 l1 hD nD h=>by rw[oo];exact h) (by rw[dW];omega) (λD nD=>⟨[],.nil,.nil⟩) (SqL.of hl) ?sr ?dr⟩
 case sr=>
  rintro j v w D H6 E' F' hv ⟨Ps,hPs,hPq⟩ nD s6 hD hE hF;obtain⟨q1,hq1,t,xt,rfl,ht,tx,ok⟩:=kU hp hv;have ne:l≠D:=λe=>by rw[←e,hl] at nD;cases nD
  have hl6:=s6 _ _ hl;have ht6:=s6 _ _ ht;obtain⟨w0,w1,w2,w3,w4,m0,m1,m3,kd,kw,rfl,f0,f1,f3,d2,d4,hb,etm,hbit⟩:=tx;refine⟨(),t,_,(()),SqT.of ht6,rfl,l,D,us,w,hl6,hD,ne,?_⟩;refine⟨w0,w1,w2,w3,w4,m0,m1,m3,kd,kw,rfl,f0,f1,f3,d2,d4,hb,λx dx dv wv tm H7 htm s7 hx hdv hwv nL7 nD7=>?_⟩;subst htm;have sl:=Q8 hl6 hD ne s7;refine⟨(),t,_,(()),SqT.of (sl _ _ ht6),rfl,(zL 2),λT nT=>hE _ _ (sl.trans (eS nT _)) ?_⟩
  have hR:RowR gS aA H7 x m0 m1 m3 (gO false kd) (gO true kw):=⟨dx,dv,wv,hx,⟨f0.nn,f1.nn,f3.nn⟩,⟨hb.2,hb.1⟩,hdv,hwv⟩;have neT:T≠D:=λe=>by
   rw[e,sl _ _ hD] at nT;cases nT
  have sR:Same H7 (gr (upd (jY H7 l D us w) T (.tup [.ref x,.int q1.off])) D):=λb o hb=>by
   rw[gU (λe=>by rw[e,nD7] at hb;cases hb)];exact ((Oz (xs:=us) (ys:=w) nL7 nD7).trans (eS nT (.tup [.ref x,.int q1.off]))) b o hb
  obtain⟨pq,nv⟩:=W3 (m0:=m0) (m1:=m1) ok d2 d4 hbit (pW hdv) (pW hwv);have sn:∀{xs:List gc} {ys:List LQ},Paired PQ xs ys->Paired PQ (xs++[⟨m0,m1,m3,gO false kd,gO true kw,q1.tm,q1.off⟩]) (ys++[q1]):=λh=>by
   induction h with
   |nil=>exact .cons pq .nil
   |cons x r ih=>exact .cons x ih
  refine⟨Ps++[⟨m0,m1,m3,gO false kd,gO true kw,q1.tm,q1.off⟩],?_,by rw[cG,hq1];exact sn hPq⟩;have h1:PutX (gr (upd (jY H7 l D us w) T (.tup [.ref x,.int q1.off])) D) (.ref T) ⟨m0,m1,m3,gO false kd,gO true kw,q1.tm,q1.off⟩:=⟨T,x,rfl,(gU neT).trans eJ,RowR.keepN (nV sR) hR,etm,nv,ok.off⟩;have h2:Paired (PutX (gr (upd (jY H7 l D us w) T (.tup [.ref x,.int q1.off])) D)) w Ps:=Paired.mapP hPs λ_ _ z=>PutX.keep (pG (sl.trans (eS nT _))) z
  exact sg h1 h2
 case dr=>
  rintro D H6 w ⟨Ps,hPs,hPq⟩ nD s6 hD;rw[lps,bW] at hPq;have hX:Paired (PutX H6) w Ps:=Paired.mapP hPs λ_ _ z=>PutX.keep mF z;refine λp dx np ndx nex=>?_;have np2:upd H6 dx (.own p) p=none:=(fh nex.symm).trans np;have sd:Same H6 (upd (upd H6 dx (.own p)) p (.ins aB dx [])):=(eS ndx _).trans (eS np2 _);have hpi:=eJ (H:=upd H6 dx (.own p)) (a:=p) (o:=.ins aB dx []);generalize upd (upd H6 dx (.own p)) p (.ins aB dx [])=H7 at sd hpi ⊢
  have sE:Same H6 (gr H7 p):=λb o hb=>by
   rw[gU (λe=>by rw[e,np] at hb;cases hb)];exact sd b o hb
  have hY:Paired (PutY (gr H7 p) H7) w Ps:=Paired.mapP hX λ_ _ ⟨t,x,e,ht,hR,z⟩=>⟨t,x,e,sd _ _ ht,RowR.keepN (nV sE) hR,z⟩;have lPs:=ie hPq;refine⟨p,dx,D,w,Ps,qs,rfl,hpi,sd _ _ hD,hY,hPq,⟨⋯,⋯⟩,wO hp,hf,λT H8 hck hev kp=>?_⟩;have s68:Same H6 H8:=λb o hb=>kp b o (sd b o hb) (λe=>by rw[e,np] at hb;cases hb);exact⟨rfl,q p _ (s6.trans s68) ⟨T,hck,hev⟩⟩
theorem Rw:Dx P w base ZZ.df 6 (Q6 K):=by
 refine ZZ.df.dfs Uc (by trivial) ?_;rintro _ _ _ _ s H _ Q E hr⟨p,l,qs,x,rfl,hc,hq,q⟩;refine⟨_,(eH (eU 3 (eD (rF ZZ) hr (A2 Y0 Y2)) Uc.nd) (eH (fo (tW (jv (jt (g9 (eD (RS ZZ) hr (A1 Y3)))) (jJ (eZ kB (eD (R0 ZZ) hr (A2 Y1 Y3)) Y2)))) (eG (eP eB)) ft) (eG (eP (mS (iU kB (eD (Wp ZZ) hr (A2 Y1 (eE fG Y3 eI))) Y2) (ka (iU AX (eD (rF ZZ) hr (A2 Y0 (eE fq Y2 eI))) Y3))))))),?_⟩
 extract_lets;obtain⟨T,hT,eT⟩:=hc;have ok:=WY hq.choose_spec.2.2.1 (wO hq.choose_spec.2.1);refine⟨(),(),p,x,rfl,.inl ⟨T,hT,λa b c H1 two s1=>?_⟩⟩;have two:=FO eT two;refine⟨(),(),(),fN ⟨(),(),l,qs,(),hq.keep s1,λa1 b1 c1 H2 two1 s2=>?_⟩⟩;have s12:=s1.trans s2;refine⟨(),(()),(),gz (λk=>?_) (λ_=>?_)⟩
 ·exfalso;have o:=my ok two;have o1:=my ok two1;have ax:a<=x+720:=two.choose_spec.2.2.2.1;have hle:iO x a b c<=x+720:=by unfold iO;split<;>omega
  have t1:=pN ok two two1 hle;unfold iO at t1 k;by_cases kk:x-b<a
  ·rw[if_pos kk] at t1 k;have z1:=t1.2 kk ⋯;omega
  ·rw[if_neg kk] at t1 k;have z1:=t1.1 ⋯;omega
 refine⟨(),(),(()),l,qs,(),hq.keep s12,λa2 b2 c2 H3 two2 s3=>?_⟩;have rk:=VP ok two two1 two2;have s13:=s12.trans s3;refine⟨(),(()),(),gz (λ_=>?_) (λn=>absurd rk.2 n)⟩;refine⟨(),(),(()),p,x+1,rfl,.inl ⟨T,hT.keep s13,λa3 b3 c3 H4 two3 s4=>⟨(),(()),?_⟩⟩⟩;rw[dZ (Rq ok two (FO eT two3))];exact q _ (s13.trans s4)
theorem Nn{fL:Addr}{fdL:FuncData}(F:Fun K "law" "law" (top 141) fL fdL):fR P w K mg base iQ 13 fL fdL ["_law_script"] (qV K):=by
 refine F.oks Uo (by trivial) ?_;rintro _ _ _ s H _ Q E hr⟨a,ns,rfl,hS,hlen,q⟩;refine⟨_,(eH (eU 1 (iU fZ (eE fW (eD (pS ZZ) hr (A2 Y0 eI)) eI) eI) Uo.nd) (eH (eU 2 (eD (Vk ZZ) hr (A2 (kn ["_law_script"] [0] (lZ ZZ.ad (A1 eI)) (λ_ _ _ _ _ _=>jN) (λ_ _ _ _ _ _=>(eD (pS ZZ) hr (A2 Y1 (eE fq eI Y0))))) Y1)) Uo.nd) (eH (eU 3 (eD (OD ZZ) hr (A1 Y2)) Uo.nd) (eH (eU 4 (eE fG (eE fW (eD (pS ZZ) hr (A2 Y0 eI)) eI) eI) Uo.nd) (eH (io (lZ ZZ.ad (A1 eI)) (gN 5 Uo.nd) (eH (eU 6 (eD (PH ZZ) hr (A3 (eD (pS ZZ) hr (A2 Y0 (eE fq eI Y5))) Y2 Y1)) Uo.nd) (eH (eU 7 (eD (sx ZZ) hr (A2 Y2 Y6)) Uo.nd) (eH (io (i8 (K:=K) (gB (A3 (eE fq Y6 (eK (fJ (K:=K)) Y7 eI)) (eE fq Y6 (eK (fJ (K:=K)) Y7 eI)) Y6))) (gN 8 Uo.nd) (eG (fo (jt (g9 (eD (Rw ZZ) hr (A3 Y3 Y2 Y8)))) (eG (eP eB)) ft)) PassesOwn.never) (eG (fo (eZ lr (eD (rF ZZ) hr (A2 (kS ZZ.aq (RB ZZ).dfm hr (A1 Y4)) Y6)) (eE fG Y6 Y4)) (eG (eP eB)) ft))))) PassesOwn.never) (eG (eP eB))))))),?_⟩
 extract_lets;refine⟨(),a,(),⟨ns,hS⟩,⟨by decide,by decide⟩,λc0=>⟨(()),(by show (0:Int)<2;decide),rfl,?_⟩⟩;obtain⟨bm,ebm⟩:∃bm,bm=decide (V.int (c0%2)=V.int 1):=⟨()⟩;show jG 1 (V.bl (decide (V.int (c0%2)=V.int 1))) _ _ _;rw[←ebm];have sq:∀{H':Hp},Same H H'->∃ns:List Int,SqL K H' a (ns.map V.int):=λs=>⟨ns,s.seq hS⟩;refine⟨(),by decide,by decide,pQ (λi z=>∃cs:List Int,cs.length=i/\z=cs.map V.int) (zL 5) ⟨[],rfl,rfl⟩ ?st ?dn⟩
 case st=>
  rintro j z D H3 E' F' hj ⟨cs,hl,rfl⟩ hD s3 hz hE hF;have hj':j<5:=hj;exact⟨(),(),(()),a,(),sq s3,⟨⋯,⋯⟩,λc=>hE _ _ (Same.refl _) ⟨cs++[c],by rw[aS,hl];rfl,by rw[bE];rfl⟩⟩
 case dn=>
  rintro C H3 z ⟨cs,hcl,rfl⟩ hC s3 hz;refine⟨(),C,cs,bm,rfl,hz,hcl,λt qs H4 s4 nt hpu=>?_⟩;refine⟨(),t,qs,rfl,hpu,λp H5 s5 hck=>?_⟩;have sA:=s3.trans (s4.trans s5);have hpu:=hpu.keep s5;refine⟨(),a,(),sq sA,⟨by decide,by decide⟩,λc1=>⟨(()),(by show (0:Int)<1441;decide),(()),?_⟩⟩;refine⟨(),by decide,by decide,pJ (λi σ H6=>∃v5 v6 v7 v8:Option V,σ=[some (.ref a),some (.bl bm),some (.ref t),some (.ref p),some (.int (c1%1441-720)),v5,v6,v7,v8]/\Same H5 H6) ⟨_,_,_,(),Same.refl _⟩ ?tn ?dn2⟩
  case dn2=>
   rintro σ H6 ⟨v5,v6,v7,v8,rfl,s6⟩;exact q _
  case tn=>
   rintro i σ H6 hi ⟨v5,v6,v7,v8,rfl,s6⟩;have hi5:i<5:=hi;refine⟨(),(),(()),a,(),sq (sA.trans s6),⟨⋯,⋯⟩,λc2=>⟨(),(),c2,t,qs,bm,rfl,hpu.keep s6,λx H7 s7=>?_⟩⟩;have s57:=s6.trans s7;refine⟨(),(),t,qs,x,rfl,hpu.keep s57,λa1 b1 c1' t1 H8 nt1 two s8 ht1=>?_⟩;have s58:=s57.trans s8;refine⟨(),(),t1,_,(()),SqT.of ht1,rfl,(()),(),(),t1,_,(()),SqT.of ht1,rfl,(()),(),(zL 3),λl3 n3=>?_⟩;have s59:=s58.trans (eS n3 (.lst (([x+b1,x+c1',x]:List Int).map V.int)))
   have hl3:upd H8 l3 (.lst [V.int (x+b1),V.int (x+c1'),V.int x]) l3=some (.lst (([x+b1,x+c1',x]:List Int).map V.int)):=eJ;refine⟨l3,rfl,⟨_,SqL.of hl3⟩,kE (K:=K) (a:=l3) (xs:=([x+b1,x+c1',x]:List Int).map V.int) (λj σ H10=>∃v8:Option V,σ=[some (.ref a),some (.bl bm),some (.ref t),some (.ref p),some (.int (c1%1441-720)),some (.int (0+(i:Int))),some (.int x),some (.ref t1),v8]/\Same (upd H8 l3 (.lst [V.int (x+b1),V.int (x+c1'),V.int x])) H10) ⟨(),Same.refl _⟩ (λj σ H10 _ ⟨_,_,z⟩=>SqL.of (z _ _ hl3)) ?tk ?dk⟩
   case tk=>
    rintro j v σ H10 hv ⟨v8,rfl,s10⟩;rw[bG] at hv;obtain⟨z,_,rfl⟩:=dE.mp hv;have s510:=s59.trans s10;exact⟨(),(),(),p,t,qs,z,rfl,hck.keep s510,hpu.keep s510,λH11 s11=>⟨(),fN ⟨(),s10.trans s11⟩⟩⟩
   case dk=>
    rintro σ H10 ⟨v8,rfl,s10⟩;have s510:=s59.trans s10;refine⟨(),λp2 dx2 np2 ndx2 ne2=>⟨p2,dx2,(),eJ,⟨⋯,⋯⟩,rfl,(),p2,x,rfl,.inr ⟨dx2,_,eJ,(),(),(()),rfl,(),qJ (λn=>absurd rfl n) (λ_=>?_)⟩⟩⟩;exact⟨_,_,_,(),s510.trans (li np2 ((eS ndx2 _).trans (eS ((fh ne2.symm).trans np2) _)))⟩
end
theorem all_mk{l:PySem.W.OpenLaw}{w:World}{K:FG}{h:Heap}{mg:Str->Option Value}{fa f:Addr}{aL aK a_MONTH_LASTS a_BOUNDS a_BOUNDS_0 a_BOUNDS_1 a_BOUNDS_3:Addr}{t_ROUND_DAYS t_ROUND_YEARS t_LONG_PLACE t_DAY_MINUTES t_HOUR_MINUTES t_FIGURES t_MOST_STRIDE t_MOST_SIGNS t_MOST_ITEMS t_SATURDAY t_SUNDAY t_MOST_BACK t_MOST_DAY t_SUNDAY_TOO t_MOST_NTH t_MOST_MARKS t_ALL_WEEKDAYS t_LONG_LAST t_SHORT_YEAR t_MINUTE t_HOUR t_DAY t_MONTH t_WEEKDAY t_MOST_ROW_SIGNS t_NO_PLACE t_KINDS t_LEAST_BETWEEN t_ROUND t_MOST_OFFSET t_MOST_PUTS:Tok}{oc kV dc pm cd ct:Value}{od an:Option Addr}{sl:Array (Option Value)}(X:K.In h)(G:h.Ns mainGlobals mg)(hfa:mg "law"=some (.ref fa))(ZZ:Fs K mg aL aK a_MONTH_LASTS a_BOUNDS a_BOUNDS_0 a_BOUNDS_1 a_BOUNDS_3 t_ROUND_DAYS t_ROUND_YEARS t_LONG_PLACE t_DAY_MINUTES t_HOUR_MINUTES t_FIGURES t_MOST_STRIDE t_MOST_SIGNS t_MOST_ITEMS t_SATURDAY t_SUNDAY t_MOST_BACK t_MOST_DAY t_SUNDAY_TOO t_MOST_NTH t_MOST_MARKS t_ALL_WEEKDAYS t_LONG_LAST t_SHORT_YEAR t_MINUTE t_HOUR t_DAY t_MONTH t_WEEKDAY t_MOST_ROW_SIGNS t_NO_PLACE t_KINDS t_LEAST_BETWEEN t_ROUND t_MOST_OFFSET t_MOST_PUTS)
  (a:PySem.W.nsIn K mainGlobals "law"=some (some (.ref f))) (lk:K.lookup f=some ⟨oc,od,.func (PySem.W.fnOf "law" "law" (i9 (top 141)) (iD (top 141)) (eQ (top 141)) .none kV dc pm an cd ct),sl⟩) (c:PySem.W.codeIn K cd "law"=true) (k:PySem.W.keepIn K (.ref f)=true):
  ∃fd:FuncData,(∀(s:Shared) (v:Value),BindsTo s fd ⟨[v],[]⟩ [("_law_script",v)])/\∀base:Heap,K.In base->base.Ns mainGlobals mg->fR l.prog w K mg base iQ 13 fa fd ["_law_script"] (qV K):=by
 cases hfa.symm.trans (PySem.W.mg_of X G a);exact⟨_,λs v=>.of_eq rfl,λbase _ _=>Nn ZZ (wW (st:=(top 141)) lk c k)⟩
theorem walk{l:PySem.W.OpenLaw}{q:Program}{loose:List Str}{XP:(Str->Option Value)->Heap->Prop}{YP:World->Heap->Prop}{d:DefRec}{K:Params->FG}(hn:l.most=some 63)(hdf:d.params.defaults=[])
  (hY:∀(w:World) (h:Heap),YP w h->(K w.params).In h)
  (F:∀(w:World) (mg:Str->Option Value) (fa:Addr) (h:Heap),(K w.params).In h->h.Ns mainGlobals mg->mg d.name=some (.ref fa)->
   ∃fd:FuncData,(∀(s:Shared) (u:Value),BindsTo s fd ⟨[u],[]⟩ [("_law_script",u)])/\∀base:Heap,(K w.params).In base->base.Ns mainGlobals mg->fR l.prog w (K w.params) mg base iQ 13 fa fd ["_law_script"] (qV (K w.params))):
  PySem.W.WalkO q loose XP YP l.row.toRowW d [] (λf vs=>PySem.call f vs):=
 L2.walk_of (n:=63) (k:=13) (x:="_law_script") (CX:=λ_=>iQ) (sp:=λw=>qV (K w.params)) hn (by decide) hdf ⟨rfl,by decide,by decide⟩ hY F (λ_ _ a ns hl _ hS=>⟨a,ns,rfl,hS,hl,λ_=>rfl⟩) λ_ _ _ _ _ z=>z
end K84
open PySem PySem.W PyProof.Rows L2
set_option maxRecDepth 100000 in
set_option maxHeartbeats 0 in
theorem PySem.Challenge.cw_fivefields_k84_ring_of_holds : PySem.Challenge.rw_fivefields_k84_ring_of.Holds := by
 w_on;refine holds_law Hd.ws fun said=>?_;refine Hd.lst said ?hw ?hc;(case hw=>w_witness2)
 k_fill
 refine K84.walk (l:=PySem.Challenge.rw_fivefields_k84_ring_of) rfl Hd.h4 (fun w h Y=>PySem.W.kIn_of Y) ?F
 case F=>
  intro w mg fa h KX G hmg
  rw[Hd.h5] at hmg
  refine' K84.all_mk KX G hmg ⟨
   ⟨PySem.W.mg_of KX G ?_,⟨?_,?_,?_,?_⟩,?_,?_⟩,?_,⟨PySem.W.mg_of KX G ?_,⟨?_,?_,?_,?_⟩,?_,?_⟩,?_,⟨PySem.W.mg_of KX G ?_,⟨?_,?_,?_,?_⟩,?_,?_⟩,?_,⟨PySem.W.mg_of KX G ?_,⟨?_,?_,?_,?_⟩,?_,?_⟩,?_,⟨PySem.W.mg_of KX G ?_,⟨?_,?_,?_,?_⟩,?_,?_⟩,?_,⟨PySem.W.mg_of KX G ?_,⟨?_,?_,?_,?_⟩,?_,?_⟩,?_,⟨PySem.W.mg_of KX G ?_,⟨?_,?_,?_,?_⟩,?_,?_⟩,?_,?_,⟨PySem.W.mg_of KX G ?_,⟨?_,?_,?_,?_⟩,?_,?_⟩,?_,⟨PySem.W.mg_of KX G ?_,⟨?_,?_,?_,?_⟩,?_,?_⟩,?_,?_,?_,?_,?_,?_,⟨PySem.W.mg_of KX G ?_,⟨?_,?_,?_,?_⟩,?_,?_⟩,?_,⟨PySem.W.mg_of KX G ?_,⟨?_,?_,?_,?_⟩,?_,?_⟩,?_,?_,PySem.W.mg_of KX G ?_,PySem.W.mg_of KX G ?_,⟨?_,?_,?_,?_⟩,?rkr_Row,PySem.W.mg_of KX G ?_,K84.q_MONTH_LASTS ?_,PySem.W.mg_of KX G ?_,PySem.W.mg_of KX G ?_,PySem.W.mg_of KX G ?_,PySem.W.mg_of KX G ?_,PySem.W.mg_of KX G ?_,K84.mg_tx (x:="0123456789") KX G (by decide +kernel) ?_,PySem.W.mg_of KX G ?_,PySem.W.mg_of KX G ?_,PySem.W.mg_of KX G ?_,PySem.W.mg_of KX G ?_,PySem.W.mg_of KX G ?_,PySem.W.mg_of KX G ?_,PySem.W.mg_of KX G ?_,PySem.W.mg_of KX G ?_,PySem.W.mg_of KX G ?_,PySem.W.mg_of KX G ?_,PySem.W.mg_of KX G ?_,PySem.W.mg_of KX G ?_,PySem.W.mg_of KX G ?_,PySem.W.mg_of KX G ?_,PySem.W.mg_of KX G ?_,PySem.W.mg_of KX G ?_,PySem.W.mg_of KX G ?_,PySem.W.mg_of KX G ?_,PySem.W.mg_of KX G ?_,K84.q_BOUNDS ?_,K84.q_BOUNDS_0 ?_,K84.q_BOUNDS_1 ?_,K84.q_BOUNDS_3 ?_,PySem.W.mg_of KX G ?_,PySem.W.mg_of KX G ?_,PySem.W.mg_of KX G ?_,PySem.W.mg_of KX G ?_,PySem.W.mg_of KX G ?_,PySem.W.mg_of KX G ?_,PySem.W.mg_of KX G ?_,PySem.W.mg_none_of KX G ?_,PySem.W.mg_none_of KX G ?_,PySem.W.mg_none_of KX G ?_,PySem.W.mg_none_of KX G ?_,PySem.W.mg_none_of KX G ?_,PySem.W.mg_none_of KX G ?_,PySem.W.mg_none_of KX G ?_,PySem.W.mg_none_of KX G ?_,PySem.W.mg_none_of KX G ?_,PySem.W.mg_none_of KX G ?_,PySem.W.mg_none_of KX G ?_,PySem.W.mg_none_of KX G ?_,PySem.W.mg_none_of KX G ?_,PySem.W.mg_none_of KX G ?_,PySem.W.mg_none_of KX G ?_,fm KX G ?_ ?_ ?_ ?_ ?_,fm KX G ?_ ?_ ?_ ?_ ?_,fm KX G ?_ ?_ ?_ ?_ ?_,fm KX G ?_ ?_ ?_ ?_ ?_,fm KX G ?_ ?_ ?_ ?_ ?_,fm KX G ?_ ?_ ?_ ?_ ?_,fm KX G ?_ ?_ ?_ ?_ ?_,fm KX G ?_ ?_ ?_ ?_ ?_,fm KX G ?_ ?_ ?_ ?_ ?_,fm KX G ?_ ?_ ?_ ?_ ?_,fm KX G ?_ ?_ ?_ ?_ ?_,fm KX G ?_ ?_ ?_ ?_ ?_,fm KX G ?_ ?_ ?_ ?_ ?_,fm KX G ?_ ?_ ?_ ?_ ?_,fm KX G ?_ ?_ ?_ ?_ ?_,fm KX G ?_ ?_ ?_ ?_ ?_,fm KX G ?_ ?_ ?_ ?_ ?_,fm KX G ?_ ?_ ?_ ?_ ?_,fm KX G ?_ ?_ ?_ ?_ ?_,fm KX G ?_ ?_ ?_ ?_ ?_,fm KX G ?_ ?_ ?_ ?_ ?_,fm KX G ?_ ?_ ?_ ?_ ?_,fm KX G ?_ ?_ ?_ ?_ ?_,fm KX G ?_ ?_ ?_ ?_ ?_,fm KX G ?_ ?_ ?_ ?_ ?_,fm KX G ?_ ?_ ?_ ?_ ?_,fm KX G ?_ ?_ ?_ ?_ ?_,fm KX G ?_ ?_ ?_ ?_ ?_,gP ?_ ?_ ?_ ?_ ?_ ?_,gP ?_ ?_ ?_ ?_ ?_ ?_,gP ?_ ?_ ?_ ?_ ?_ ?_,K84.md_Last___init__ ?_ ?_ ?_ ?_ ?_ ?_,gP ?_ ?_ ?_ ?_ ?_ ?_,gP ?_ ?_ ?_ ?_ ?_ ?_,gP ?_ ?_ ?_ ?_ ?_ ?_,gP ?_ ?_ ?_ ?_ ?_ ?_,gP ?_ ?_ ?_ ?_ ?_ ?_,gP ?_ ?_ ?_ ?_ ?_ ?_,gP ?_ ?_ ?_ ?_ ?_ ?_,gP ?_ ?_ ?_ ?_ ?_ ?_,gP ?_ ?_ ?_ ?_ ?_ ?_,gP ?_ ?_ ?_ ?_ ?_ ?_,fm KX G ?_ ?_ ?_ ?_ ?_,fm KX G ?_ ?_ ?_ ?_ ?_,fm KX G ?_ ?_ ?_ ?_ ?_,fm KX G ?_ ?_ ?_ ?_ ?_,fm KX G ?_ ?_ ?_ ?_ ?_,fm KX G ?_ ?_ ?_ ?_ ?_,
   fm KX G ?_ ?_ ?_ ?_ ?_,fm KX G ?_ ?_ ?_ ?_ ?_,fm KX G ?_ ?_ ?_ ?_ ?_,fm KX G ?_ ?_ ?_ ?_ ?_,gP ?_ ?_ ?_ ?_ ?_ ?_,gP ?_ ?_ ?_ ?_ ?_ ?_,fm KX G ?_ ?_ ?_ ?_ ?_,fm KX G ?_ ?_ ?_ ?_ ?_,fm KX G ?_ ?_ ?_ ?_ ?_,gP ?_ ?_ ?_ ?_ ?_ ?_,fm KX G ?_ ?_ ?_ ?_ ?_,fm KX G ?_ ?_ ?_ ?_ ?_,fm KX G ?_ ?_ ?_ ?_ ?_,fm KX G ?_ ?_ ?_ ?_ ?_,fm KX G ?_ ?_ ?_ ?_ ?_,fm KX G ?_ ?_ ?_ ?_ ?_,fm KX G ?_ ?_ ?_ ?_ ?_,fm KX G ?_ ?_ ?_ ?_ ?_,fm KX G ?_ ?_ ?_ ?_ ?_,fm KX G ?_ ?_ ?_ ?_ ?_,fm KX G ?_ ?_ ?_ ?_ ?_,fm KX G ?_ ?_ ?_ ?_ ?_,fm KX G ?_ ?_ ?_ ?_ ?_,fm KX G ?_ ?_ ?_ ?_ ?_,K84.md_Clock___init__ ?_ ?_ ?_ ?_ ?_ ?_,gP ?_ ?_ ?_ ?_ ?_ ?_,gP ?_ ?_ ?_ ?_ ?_ ?_,gP ?_ ?_ ?_ ?_ ?_ ?_,gP ?_ ?_ ?_ ?_ ?_ ?_,gP ?_ ?_ ?_ ?_ ?_ ?_,gP ?_ ?_ ?_ ?_ ?_ ?_,gP ?_ ?_ ?_ ?_ ?_ ?_,fm KX G ?_ ?_ ?_ ?_ ?_,fm KX G ?_ ?_ ?_ ?_ ?_,fm KX G ?_ ?_ ?_ ?_ ?_,fm KX G ?_ ?_ ?_ ?_ ?_,fm KX G ?_ ?_ ?_ ?_ ?_,fm KX G ?_ ?_ ?_ ?_ ?_,fm KX G ?_ ?_ ?_ ?_ ?_,fm KX G ?_ ?_ ?_ ?_ ?_,fm KX G ?_ ?_ ?_ ?_ ?_,fm KX G ?_ ?_ ?_ ?_ ?_,fm KX G ?_ ?_ ?_ ?_ ?_,fm KX G ?_ ?_ ?_ ?_ ?_,fm KX G ?_ ?_ ?_ ?_ ?_,fm KX G ?_ ?_ ?_ ?_ ?_,fm KX G ?_ ?_ ?_ ?_ ?_,fm KX G ?_ ?_ ?_ ?_ ?_,fm KX G ?_ ?_ ?_ ?_ ?_⟩ ?_ ?_ ?_ ?_
  (case rkr_Row=>kernel_rfl)
  all_goals try (intro _ _ _ _ _ _ us hl;first | (obtain⟨rfl⟩:=vg hl;rfl) | (obtain⟨_,rfl⟩:=GL hl;rfl) | (obtain⟨_,_,rfl⟩:=xJ hl;rfl) | (obtain⟨_,_,_,rfl⟩:=G2 hl;rfl) | (obtain⟨_,_,_,_,rfl⟩:=uB hl;rfl))
  all_goals try (as_aux_lemma=>k_is)
