import PyProof.Rows.All
import Wide.All
import OpenK.AllK
import Wide.FinOn
import KE.KLam
import Lean
import PyProof.EqAt
import PyProof.EqKinds
import PyProof.TupleCall
import PySem.Challenge.RW_fivefields_k83_readings
local macro_rules
  | `(tactic| omega) => `(tactic| lia)
set_option maxHeartbeats 4000000
set_option compiler.extract_closed false
namespace Hd
open PySem PySem.W PySem.Calls PyProof.Rows
section
set_option maxHeartbeats 0
set_option maxRecDepth 100000
set_option linter.all false
theorem ws:OpenLaw.wellSaid PySem.Challenge.rw_fivefields_k83_readings=true:=by
 delta OpenLaw.wellSaid
 with_reducible refine look_both (look_both (look_both (look_both (look_both (look_both (look_both (look_both (look_both (look_both (look_both (look_both (look_both (look_both (look_both (look_both (look_both (look_both ?_ ?_) ?_) ?_) ?_) ?_) ?_) ?_) ?_) ?_) ?_) ?_) ?_) ?_) ?_) ?_) ?_) ?_) ?_
 ·delta OpenRow.wellSaid
  with_reducible refine look_both (look_both ?_ ?_) ?_
  ·delta OpenRow.partSaid
   with_reducible refine look_both (look_both (look_both (look_both (look_both (look_both (look_both (look_both (look_both (look_both (look_both (look_both ?_ ?_) ?_) ?_) ?_) ?_) ?_) ?_) ?_) ?_) ?_) ?_) ?_
   ·delta looksOpen
    with_reducible refine look_both (look_both (look_both (look_both (look_both ?_ ?_) ?_) ?_) ?_) ?_
    all_goals decide +kernel
   all_goals decide +kernel
  all_goals decide +kernel
 all_goals decide +kernel
noncomputable section
noncomputable abbrev pw:Program:=PySem.Challenge.pw_fivefields_k83_readings
noncomputable abbrev bi:List Stmt:=behindTheImports pw
noncomputable def nth:List Stmt->Nat->Stmt
 |s::_,0=>s
 |_::r,n+1=>nth r n
 |[],_=>.Pass default
noncomputable def tp(i:Nat):Stmt:=nth pw.main.body i
noncomputable def bd:Stmt->List Stmt
 |.FunctionDef _ _ b _ _ _ _ _ _ _=>b
 |.ClassDef _ _ _ b _ _ _ _ _ _ _=>b
 |_=>[]
noncomputable def ag:Stmt->Arguments
 |.FunctionDef _ a _ _ _ _ _ _ _ _=>a
 |_=>⟨[],[],none,[],[],none,[]⟩
noncomputable def sc:Stmt->Scope
 |.FunctionDef _ _ _ _ _ _ s _ _ _=>s
 |.ClassDef _ _ _ _ _ _ s _ _ _ _=>s
 |_=>pw.main.scope
noncomputable def r(a:Addr):Value:=.ref a
noncomputable def i(n:Int):Value:=.int n 0
noncomputable def de(P:Params)(k:Str)(t:Tok)(v:Value):DictEntry:=⟨PyData.keyHash P k,.str k t,v⟩
noncomputable def tu(l:List Value):Obj:=⟨.type "tuple",none,.seq l.toArray 0,#[]⟩
noncomputable def di(l:List DictEntry)(n:Nat):Obj:=⟨.type "dict",none,.dict l.toArray n,#[]⟩
noncomputable def co(l:List Value):Obj:=⟨.type "code",none,.fields l.toArray,#[]⟩
noncomputable def fd(l:List Value):Obj:=⟨.none,none,.fields l.toArray,#[]⟩
noncomputable def lf(x:Obj):BT:=.node x .nil .nil
noncomputable abbrev nd:Obj->BT->BT->BT:=BT.node
noncomputable def sf(t:Tok):Value:=.str "/claim/cut.py" t
noncomputable def fz(n q:Str)(s:Stmt):Obj:=⟨.none,none,.func ⟨n,q,ag s,.stmts (bd s),sc s,0,[],.none,.none,.none,.none,none,.none,.none,0⟩,#[]⟩
noncomputable def fn(n q:Str)(s:Stmt)(g:Addr)(c:List (Str×Addr))(d k o m:Value)(a:Option Addr)(x y:Value)(b:Addr):Obj:=⟨.type "function",none,.func ⟨n,q,ag s,.stmts (bd s),sc s,g,c,d,k,o,m,a,x,y,b⟩,#[]⟩
noncomputable def ib(s:Stmt)(i:Nat):Stmt:=nth (bd s) i
noncomputable def ev:Env:={scope:=pw.main.scope,locals:=mainNs,globals:=mainNs,cells:=[],code:=(r 13),frame:=some 14}
noncomputable def cd:Code:=.body bi ev
noncomputable abbrev an:Option Value:=(some (r 6))
noncomputable abbrev bk:List Frame:=[topFrame ⟨0,0,0,0⟩]
def cO(n q:Str)(t l c x a u:Nat):Obj:=co [.str n t,.str q (t+1),sf (t+2),i (Int.ofNat l),i (Int.ofNat c),i 0,i 0,i (Int.ofNat x),r a,.bool true,i 181,r (a+1),.none,r (a+2),r (a+3),r (a+4),i (Int.ofNat u),i (Int.ofNat l),sf (u+1)]
def cP(n:Str)(t l c x a u:Nat):Obj:=cO n n t l c x a u
def cK(n q:Str)(t l a u:Nat):Obj:=co [.str n t,.str q (t+1),sf (t+2),i (Int.ofNat l),i 0,i 0,i 0,i 0,r a,.bool false,i 181,r (a+1),.none,.none,.none,.none,i (Int.ofNat u),i (Int.ofNat l),sf (u+1)]
def fQ(n q:Str)(s:Stmt)(m:Value)(a:Addr):Obj:=fn n q s 3 [] .none .none .none m none (r a) .none 0
def fP(n:Str)(k:Nat)(m:Value)(a:Addr):Obj:=fQ n n (tp k) m a
def fY(n:Str)(k:Nat):Obj:=fz n n (tp k)
def fS(n q:Str)(s z:Stmt)(m:Value)(a:Addr):Obj:=⟨(.type "function"),none,(.func ⟨n,q,ag s,.stmts (bd s),sc z,3,[],.none,.none,.none,m,none,r a,.none,0⟩),#[]⟩
def fT(n q:Str)(s z:Stmt):Obj:=⟨.none,none,(.func ⟨n,q,ag s,.stmts (bd s),sc z,0,[],.none,.none,.none,.none,none,.none,.none,0⟩),#[]⟩
def ss:List Str->Nat->List Value
 |[],_=>[]
 |x::l,n=>.str x n::ss l (n+1)
def tS(n:Nat)(l:List Str):Obj:=tu (ss l n)
def dr(P:Params)(k:Str)(t:Tok)(a:Addr):DictEntry:=de P k t (r a)
def f3(k:Nat):List (Nat×Nat)->List Value
 |[]=>[]
 |(a,b)::l=>i (Int.ofNat a)::i (Int.ofNat k)::r b::f3 k l
def fD(k:Nat)(l:List (Nat×Nat)):Obj:=fd (f3 k l)
def fr(a b:Addr)(m:Value):Obj:=⟨(.type "frame"),none,.plain,#[some (r a),some (r 3),some (r b),none,some m,none,some (r 0)]⟩
def bm(s:String)(v:Value):Obj:=⟨(.type "builtin_function_or_method"),none,(.fields #[.builtin s,v]),#[]⟩
def zJ(l:List Obj):List Obj×List Obj:=List.rec ([],[]) (fun x _ p=>(x::p.2,p.1)) l
def oG:Nat->List Obj->BT
 |0,_=>.nil
 |_+1,[]=>.nil
 |n+1,x::l=>.node x (oG n (zJ l).1) (oG n (zJ l).2)
def su(a b c:Addr):Obj:=⟨(.type "super"),none,(.fields #[r a,r b,r c]),#[]⟩
def fZ:Value:=.str "fivefields.marks" 622
def jb:Value:=.str "fivefields.errors" 194
def ku:Value:=.str "fivefields.days" 305
def sm:Value:=.str "fivefields.months" 426
def ny:Value:=.str "fivefields.ranges" 476
def mH:Value:=.str "fivefields.fields" 528
def ie:Value:=.str "law_fivefields_k83_readings" 1427
def iY:Value:=.str "fivefields.rows" 1065
def iq:Value:=.str "fivefields.clocks" 1243
def o0:=tu []
def o1:=fd []
def o2:=cK "<module>" "<module>" 182 1 11 185
def o3:Obj:=⟨(.type "frame"),none,.plain,#[(some (r 13)),(some (r 3)),(some (r 3)),none,(some (.str "__main__" 164)),none,(some (r 0))]⟩
def hA(P:Params):Heap:=⟨⟨[(boot_o_0 P),(boot_o_1 P),(boot_o_2 P),(boot_o_3 P),(boot_o_4 P),(boot_o_5 P),(boot_o_6 P),(boot_o_7 P),(boot_o_8 P),(boot_o_9 P),(boot_o_10 P),o0,o1,o2,o3]⟩,⟨[],[],[],0,[],[],false,#[],[],0,false,false,false,0,[2000,10,10],false,0,true,[],[],0,false⟩⟩
def sA(w:World)(os:OsState):Shared:=⟨hA w.params,#[],⟨0,0,0,0⟩,187,os⟩
theorem pre(w:World)(os:OsState):
  topGo treeTable pw w 11 an 12 ⟨boot_heap w.params,⟨[]⟩,boot_drawn,boot_toks,os⟩ (topStub pw) =
  some (sA w os,⟨denote treeTable cd,cd,⟨0,0,0,0⟩,bk⟩):=by kernel_rfl
def t0(P:Params):BT:=oG 5 [(boot_o_0 P),(boot_o_1 P),(boot_o_2 P),(boot_o_3 P),(boot_o_4 P),(boot_o_5 P),(boot_o_6 P),(boot_o_7 P),(boot_o_8 P),(boot_o_9 P),(boot_o_10 P),o0,o1,o2,o3]
def s0(w:World)(os:OsState):SharedT:=⟨t0 w.params,15,⟨[],[],[],0,[],[],false,#[],[],0,false,false,false,0,[2000,10,10],false,0,true,[],[],0,false⟩,#[],⟨0,0,0,0⟩,187,os⟩
theorem Zy(w:World)(os:OsState):
  segRun treeTable pw w 11 an 1 1 (sA w os) (blockOf bi ev cd ⟨0,0,0,0⟩ bk) =
  some (.next,(s0 w os).abs,cd,⟨0,0,0,0⟩):=by kernel_rfl
def o4(P:Params):=di [de P "__name__" 165 fZ,de P "__doc__" 166 .none,de P "__package__" 167 .none,de P "__loader__" 168 (.builtin "__main__.__loader__#opaque"),de P "__spec__" 169 .none,dr P "__annotations__" 170 6,dr P "__builtins__" 171 4,de P "__file__" 173 (sf 172),de P "__cached__" 174 .none,dr P "_wall" 193 21,dr P "FieldError" 213 31,dr P "NoDay" 229 44,dr P "NoField" 254 63,dr P "NoRow" 279 82,dr P "NoClock" 295 94,dr P "is_whole" 304 103,dr P "MONTH_LASTS" 319 104,de P "ROUND_YEARS" 321 (.int 400 320),de P "ROUND_DAYS" 323 (.int 146097 322),dr P "is_long" 330 111,dr P "multiples_before" 338 118,dr P "days_before" 346 125,dr P "last_of" 354 132,dr P "is_date" 363 139,dr P "day_of" 369 144,dr P "year_of" 377 151,dr P "date_of" 387 158,dr P "weekday" 394 165,de P "FIGURES" 398 (.str "0123456789" 397),dr P "all_figures" 404 170,dr P "is_written" 411 177,de P "DAY_MINUTES" 415 (.int 1440 414),de P "HOUR_MINUTES" 417 (.int 60 416),dr P "parted" 425 184,de P "KINDS" 429 (.int 91 428),de P "LONG_PLACE" 431 (.int 12 430),de P "LONG_LAST" 433 (.int 29 432),de P "SHORT_YEAR" 435 (.int 1 434),dr P "kind_from" 445 191,dr P "kind_of" 453 198,dr P "month_at" 462 205,dr P "months_of_round" 473 212,de P "ROUND" 475 (.int 210379680 474),dr P "has" 485 219,dr P "lowest" 492 226,dr P "starts_of" 498 231,dr P "end_from" 507 238,dr P "ranges_of" 513 243,dr P "shown_range" 521 250,dr P "shown_ranges" 527 255,de P "MOST_SIGNS" 531 (.int 300 530),de P "MOST_ITEMS" 533 (.int 40 532),de P "MOST_STRIDE" 535 (.int 99 534),dr P "mask_of" 544 262,dr P "numbers_in" 550 267,dr P "run_mask" 559 274,dr P "read_number" 569 281,dr P "read_run" 575 286,dr P "read_strided" 588 293,dr P "read_item" 599 300,dr P "read_field" 613 307,dr P "never" 621 312,de P "MOST_MARKS" 625 (.int 20 624),de P "MOST_DAY" 627 (.int 31 626),de P "MOST_BACK" 629 (.int 30 628),de P "MOST_NTH" 631 (.int 5 630),de P "SUNDAY" 633 (.int 0 632),de P "SATURDAY" 635 (.int 6 634),de P "SUNDAY_TOO" 637 (.int 7 636),de P "ALL_WEEKDAYS" 639 (.int 127 638),dr P "weekday_at" 647 319,dr P "all_days" 654 326,dr P "nearest_work" 664 333,dr P "first_one" 672 340,dr P "Mark" 708 364,dr P "Numbers" 749 399,dr P "Last" 791 433] 77
def o5:=fD 0 [(1,20),(5,27),(7,40),(9,52),(13,71),(17,90),(20,102),(26,110),(28,117),(30,124),(33,131),(37,138),(41,143),(46,150),(51,157),(59,164),(63,169),(65,176),(70,183),(78,190),(81,197),(83,204),(89,211),(100,218),(102,225),(104,230),(107,237),(112,242),(114,249),(118,254),(124,261),(129,266),(131,273),(133,280),(140,285),(147,292),(154,299),(162,306),(176,311),(187,318),(189,325),(191,332),(198,339),(200,346),(207,374),(217,407)]
def o6:=tS 190 ["k"]
def o7:=fY "_wall" 0
def o8:=cP "_wall" 187 1 1 3 15 191
def o9:=fn "_wall" "_wall" (tp 0) 3 [] .none .none .none (.str "__main__" 164) none (r 20) .none 0
def G2:=tu [(.type "ValueError")]
def gD:=bm "type.__prepare__" (.type "type")
def IQ(P:Params):=di [de P "__module__" 203 jb,de P "__qualname__" 205 (.str "FieldError" 204),de P "__firstlineno__" 207 (.int 5 206),dr P "__static_attributes__" 208 29] 4
def La:=cK "FieldError" "FieldError" 198 5 25 201
def Lc:=fr 27 24 jb
def Ju(P:Params):=di [de P "__module__" 203 jb,de P "__firstlineno__" 207 (.int 5 206),dr P "__static_attributes__" 208 29,dr P "__weakref__" 210 32,de P "__doc__" 211 .none] 3
def Kf:Obj:=⟨(.type "type"),none,(.cls ⟨"FieldError",[(.type "ValueError")],[(r 31),(.type "ValueError"),(.type "Exception"),(.type "BaseException"),(.type "object")],30,"FieldError",true,[],[(r 44),(r 63),(r 82),(r 94)],false,none,false⟩),#[(some (r 22)),none,(some (.str "FieldError" 196)),(some (.str "FieldError" 204)),(some (.builtin "ValueError.__new__")),(some (.bool true))]⟩
def Hq:Obj:=⟨(.type "getset_descriptor"),none,(.fields #[(.str "__weakref__" 209),(r 31),(.builtin "ExceptionGroup.__weakref__"),.none]),#[]⟩
def Ly:=su 31 31 31
def GC:=bm "object.__init_subclass__" (r 31)
def mx:=tu [(r 31)]
def zt(P:Params):=di [de P "__module__" 221 jb,de P "__qualname__" 223 (.str "NoDay" 222),de P "__firstlineno__" 225 (.int 7 224),dr P "__static_attributes__" 226 42] 4
def Ep:=cK "NoDay" "NoDay" 216 7 38 219
def Fv:=fr 40 37 jb
def HM(P:Params):=di [de P "__module__" 221 jb,de P "__firstlineno__" 225 (.int 7 224),dr P "__static_attributes__" 226 42,de P "__doc__" 227 .none] 2
def KZ:Obj:=⟨(.type "type"),none,(.cls ⟨"NoDay",[(r 31)],[(r 44),(r 31),(.type "ValueError"),(.type "Exception"),(.type "BaseException"),(.type "object")],43,"NoDay",true,[],[],false,none,false⟩),#[(some (r 35)),none,(some (.str "NoDay" 214)),(some (.str "NoDay" 222)),(some (.builtin "ValueError.__new__")),(some (.bool true))]⟩
def Hr:=su 44 44 44
def zf:=bm "object.__init_subclass__" (r 44)
def CD(P:Params):=di [de P "__module__" 237 jb,de P "__qualname__" 239 (.str "NoField" 238),de P "__firstlineno__" 241 (.int 9 240),dr P "__init__" 249 60,dr P "__static_attributes__" 251 61] 5
def Ej:=fD 4 [(11,59)]
def KC:=cK "NoField" "NoField" 232 9 50 235
def GV:=fr 52 49 jb
def yQ:=tS 245 ["self","at"]
def NE:=fz "__init__" "NoField.__init__" (ib (tp 4) 0)
def EH:=cO "__init__" "NoField.__init__" 242 11 2 3 54 247
def Jm:=fQ "__init__" "NoField.__init__" (ib (tp 4) 0) jb 59
def M1:=tS 250 ["at"]
def Ba(P:Params):=di [de P "__module__" 237 jb,de P "__firstlineno__" 241 (.int 9 240),dr P "__init__" 249 60,dr P "__static_attributes__" 251 61,de P "__doc__" 252 .none] 2
def D8:Obj:=⟨(.type "type"),none,(.cls ⟨"NoField",[(r 31)],[(r 63),(r 31),(.type "ValueError"),(.type "Exception"),(.type "BaseException"),(.type "object")],62,"NoField",true,[],[],false,none,false⟩),#[(some (r 47)),none,(some (.str "NoField" 230)),(some (.str "NoField" 238)),(some (.builtin "ValueError.__new__")),(some (.bool true))]⟩
def H0:=su 63 63 63
def Kw:=bm "object.__init_subclass__" (r 63)
def Gc(P:Params):=di [de P "__module__" 262 jb,de P "__qualname__" 264 (.str "NoRow" 263),de P "__firstlineno__" 266 (.int 13 265),dr P "__init__" 274 79,dr P "__static_attributes__" 276 80] 5
def N5:=fD 4 [(15,78)]
def Em:=cK "NoRow" "NoRow" 257 13 69 260
def JP:=fr 71 68 jb
def Ey:=tS 270 ["self","place"]
def CJ:=fz "__init__" "NoRow.__init__" (ib (tp 5) 0)
def Ay:=cO "__init__" "NoRow.__init__" 267 15 2 3 73 272
def Jj:=fQ "__init__" "NoRow.__init__" (ib (tp 5) 0) jb 78
def L3:=tS 275 ["place"]
def Ht(P:Params):=di [de P "__module__" 262 jb,de P "__firstlineno__" 266 (.int 13 265),dr P "__init__" 274 79,dr P "__static_attributes__" 276 80,de P "__doc__" 277 .none] 2
def DG:Obj:=⟨(.type "type"),none,(.cls ⟨"NoRow",[(r 31)],[(r 82),(r 31),(.type "ValueError"),(.type "Exception"),(.type "BaseException"),(.type "object")],81,"NoRow",true,[],[],false,none,false⟩),#[(some (r 66)),none,(some (.str "NoRow" 255)),(some (.str "NoRow" 263)),(some (.builtin "ValueError.__new__")),(some (.bool true))]⟩
def CV:=su 82 82 82
def Dh:=bm "object.__init_subclass__" (r 82)
def BU(P:Params):=di [de P "__module__" 287 jb,de P "__qualname__" 289 (.str "NoClock" 288),de P "__firstlineno__" 291 (.int 17 290),dr P "__static_attributes__" 292 92] 4
def KY:=cK "NoClock" "NoClock" 282 17 88 285
def Am:=fr 90 87 jb
def Gj(P:Params):=di [de P "__module__" 287 jb,de P "__firstlineno__" 291 (.int 17 290),dr P "__static_attributes__" 292 92,de P "__doc__" 293 .none] 2
def Ip:Obj:=⟨(.type "type"),none,(.cls ⟨"NoClock",[(r 31)],[(r 94),(r 31),(.type "ValueError"),(.type "Exception"),(.type "BaseException"),(.type "object")],93,"NoClock",true,[],[],false,none,false⟩),#[(some (r 85)),none,(some (.str "NoClock" 280)),(some (.str "NoClock" 288)),(some (.builtin "ValueError.__new__")),(some (.bool true))]⟩
def Hm:=su 94 94 94
def GW:=bm "object.__init_subclass__" (r 94)
def Iw:=tS 301 ["thing"]
def zv:=fY "is_whole" 8
def IW:=cP "is_whole" 298 20 1 3 97 302
def Ke:=fn "is_whole" "is_whole" (tp 8) 3 [] .none .none .none (.str "fivefields.wholes" 296) none (r 102) .none 0
def Oc:=tu [(.int 31 307),(.int 28 308),(.int 31 309),(.int 30 310),(.int 31 311),(.int 30 312),(.int 31 313),(.int 31 314),(.int 30 315),(.int 31 316),(.int 30 317),(.int 31 318)]
def Az:=tS 327 ["year"]
def FD:=fY "is_long" 13
def KR:=cP "is_long" 324 26 1 3 105 328
def DU:=fP "is_long" 13 ku 110
def Iu:=tS 334 ["year","step"]
def Cq:=fY "multiples_before" 14
def DM:=cP "multiples_before" 331 28 2 3 112 336
def NJ:=fP "multiples_before" 14 ku 117
def IL:=tS 342 ["year","longs"]
def He:=fY "days_before" 15
def II:=cP "days_before" 339 30 1 3 119 344
def Nx:=fP "days_before" 15 ku 124
def BJ:=tS 350 ["year","month"]
def Co:=fY "last_of" 16
def IT:=cP "last_of" 347 33 2 3 126 352
def AR:=fP "last_of" 16 ku 131
def Fp:=tS 358 ["year","month","day"]
def Ga:=fY "is_date" 17
def Ih:=cP "is_date" 355 37 3 3 133 361
def yo:=fP "is_date" 17 ku 138
def GQ:=fY "day_of" 18
def KS:=co [(.str "day_of" 364),(.str "day_of" 365),(sf 366),(i 41),(i 3),(i 0),(i 0),(i 3),(r 140),(.bool true),(i 181),(r 141),.none,.none,.none,(r 142),(i 367),(i 41),(sf 368)]
def Ld:=fP "day_of" 18 ku 143
def GF:=tS 373 ["day","year"]
def CW:=fY "year_of" 19
def AC:=cP "year_of" 370 46 1 3 145 375
def Jg:=fP "year_of" 19 ku 150
def Cc:=tS 381 ["day","year","month","rest"]
def Ia:=fY "date_of" 20
def zl:=cP "date_of" 378 51 1 3 152 385
def GO:=fP "date_of" 20 ku 157
def Jt:=tS 391 ["day"]
def Bh:=fY "weekday" 21
def Bq:=cP "weekday" 388 59 1 3 159 392
def Km:=fP "weekday" 21 ku 164
def yu:=fY "all_figures" 24
def Oe:=co [(.str "all_figures" 399),(.str "all_figures" 400),(sf 401),(i 63),(i 1),(i 0),(i 0),(i 3),(r 166),(.bool true),(i 181),(r 167),.none,.none,.none,(r 168),(i 402),(i 63),(sf 403)]
def NR:=fn "all_figures" "all_figures" (tp 24) 3 [] .none .none .none (.str "fivefields.figures" 395) none (r 169) .none 0
def MK:=tS 408 ["text"]
def EY:=fY "is_written" 25
def Bc:=cP "is_written" 405 65 1 3 171 409
def yX:=fn "is_written" "is_written" (tp 25) 3 [] .none .none .none (.str "fivefields.figures" 395) none (r 176) .none 0
def FB:=tS 421 ["moment","time"]
def Do:=fY "parted" 29
def JC:=cP "parted" 418 70 1 3 178 423
def Ge:=fn "parted" "parted" (tp 29) 3 [] .none .none .none (.str "fivefields.moments" 412) none (r 183) .none 0
def HZ:=tS 439 ["year","month","day","place"]
def LU:=fY "kind_from" 35
def ED:=cP "kind_from" 436 78 3 3 185 443
def Ks:=fP "kind_from" 35 sm 190
def Ik:=tS 449 ["year","month"]
def B3:=fY "kind_of" 36
def Cv:=cP "kind_of" 446 81 2 3 192 451
def Mz:=fP "kind_of" 36 sm 197
def yB:=tS 457 ["kind","place","first"]
def FQ:=fY "month_at" 37
def yM:=cP "month_at" 454 83 1 3 199 460
def Nl:=fP "month_at" 37 sm 204
def C9:=tS 466 ["found","day","year","month","kind"]
def NC:=fY "months_of_round" 38
def LC:=cP "months_of_round" 463 89 0 3 206 471
def Er:=fP "months_of_round" 38 sm 211
def Cy:=tS 481 ["mask","number"]
def Na:=fY "has" 41
def Ac:=cP "has" 478 100 2 3 213 483
def Eb:=fP "has" 41 ny 218
def zr:=tS 489 ["mask"]
def CC:=fY "lowest" 42
def EI:=cP "lowest" 486 102 1 3 220 490
def BV:=fP "lowest" 42 ny 225
def Mr:=fY "starts_of" 43
def Eo:=co [(.str "starts_of" 493),(.str "starts_of" 494),(sf 495),(i 104),(i 1),(i 0),(i 0),(i 3),(r 227),(.bool true),(i 181),(r 228),.none,.none,.none,(r 229),(i 496),(i 104),(sf 497)]
def Ew:=fP "starts_of" 43 ny 230
def GJ:=tS 502 ["mask","start","end"]
def zE:=fY "end_from" 44
def KU:=cP "end_from" 499 107 2 3 232 505
def Be:=fP "end_from" 44 ny 237
def Lo:=fY "ranges_of" 45
def AM:=co [(.str "ranges_of" 508),(.str "ranges_of" 509),(sf 510),(i 112),(i 1),(i 0),(i 0),(i 3),(r 239),(.bool true),(i 181),(r 240),.none,.none,.none,(r 241),(i 511),(i 112),(sf 512)]
def A0:=fP "ranges_of" 45 ny 242
def Lg:=tS 517 ["first","last"]
def Ee:=fY "shown_range" 46
def JH:=cP "shown_range" 514 114 2 3 244 519
def L9:=fP "shown_range" 46 ny 249
def zB:=fY "shown_ranges" 47
def F2:=co [(.str "shown_ranges" 522),(.str "shown_ranges" 523),(sf 524),(i 118),(i 1),(i 0),(i 0),(i 3),(r 251),(.bool true),(i 181),(r 252),.none,.none,.none,(r 253),(i 525),(i 118),(sf 526)]
def ER:=fP "shown_ranges" 47 ny 254
def Ij:=tS 539 ["numbers","mask","number"]
def MU:=fY "mask_of" 52
def FH:=cP "mask_of" 536 124 1 3 256 542
def Fk:=fP "mask_of" 52 mH 261
def KN:=fY "numbers_in" 53
def Iz:=co [(.str "numbers_in" 545),(.str "numbers_in" 546),(sf 547),(i 129),(i 1),(i 0),(i 0),(i 3),(r 263),(.bool true),(i 181),(r 264),.none,.none,.none,(r 265),(i 548),(i 129),(sf 549)]
def C7:=fP "numbers_in" 53 mH 266
def CZ:=tS 554 ["first","last","stride"]
def N3:=fY "run_mask" 54
def DS:=cP "run_mask" 551 131 3 3 268 557
def DP:=fP "run_mask" 54 mH 273
def ze:=tS 563 ["text","low","high","number"]
def LA:=fY "read_number" 55
def Av:=cP "read_number" 560 133 3 3 275 567
def CP:=fP "read_number" 55 mH 280
def HU:=fY "read_run" 56
def NF:=co [(.str "read_run" 570),(.str "read_run" 571),(sf 572),(i 140),(i 3),(i 0),(i 0),(i 3),(r 282),(.bool true),(i 181),(r 283),.none,.none,.none,(r 284),(i 573),(i 140),(sf 574)]
def AL:=fP "read_run" 56 mH 285
def Bb:=tS 579 ["run_text","stride_text","low","high","run","stride","last"]
def Jz:=fY "read_strided" 57
def yU:=cP "read_strided" 576 147 4 3 287 586
def Hl:=fP "read_strided" 57 mH 292
def B2:=tS 592 ["item","low","high","parts","run"]
def EU:=fY "read_item" 58
def Ll:=cP "read_item" 589 154 3 3 294 597
def A6:=fP "read_item" 58 mH 299
def zO:=tS 603 ["text","low","high","items","mask","place","item","told"]
def BE:=fY "read_field" 59
def JU:=cP "read_field" 600 162 3 3 301 611
def Jw:=fP "read_field" 59 mH 306
def yw:=fY "never" 61
def zW:=co [(.str "never" 616),(.str "never" 617),(sf 618),(i 176),(i 1),(i 0),(i 0),(i 3),(r 308),(.bool true),(i 181),(r 309),.none,.none,.none,(r 310),(i 619),(i 176),(sf 620)]
def yz:=fn "never" "never" (tp 61) 3 [] .none .none .none (.str "fivefields.leaps" 614) none (r 311) .none 0
def zY:=tS 643 ["day","first"]
def Mw:=fY "weekday_at" 71
def Ad:=cP "weekday_at" 640 187 2 3 313 645
def JX:=fP "weekday_at" 71 fZ 318
def EE:=tS 651 ["last"]
def MB:=fY "all_days" 72
def FO:=cP "all_days" 648 189 1 3 320 652
def yY:=fP "all_days" 72 fZ 325
def Kt:=tS 658 ["day","last","first","of_week"]
def Fy:=fY "nearest_work" 73
def BM:=cP "nearest_work" 655 191 3 3 327 662
def F0:=fP "nearest_work" 73 fZ 332
def Nz:=tS 668 ["weekday","first"]
def Dw:=fY "first_one" 74
def HP:=cP "first_one" 665 198 2 3 334 670
def Fx:=fP "first_one" 74 fZ 339
def yE(P:Params):=di [de P "__module__" 680 fZ,de P "__qualname__" 682 (.str "Mark" 681),de P "__firstlineno__" 684 (.int 200 683),dr P "days" 693 354,dr P "told" 700 361,dr P "__static_attributes__" 701 362] 6
def LL:=fD 4 [(202,353),(205,360)]
def Ji:=cK "Mark" "Mark" 675 200 344 678
def Aq:=fr 346 343 fZ
def Lw:=tS 688 ["self","last","first"]
def Bp:=fz "days" "Mark.days" (ib (tp 75) 0)
def Dz:=cO "days" "Mark.days" 685 202 3 3 348 691
def Fw:=fQ "days" "Mark.days" (ib (tp 75) 0) fZ 353
def BC:=tS 697 ["self"]
def ym:=fz "told" "Mark.told" (ib (tp 75) 1)
def JR:=cO "told" "Mark.told" 694 205 1 3 355 698
def C3:=fQ "told" "Mark.told" (ib (tp 75) 1) fZ 360
def IA(P:Params):=di [de P "__module__" 680 fZ,de P "__firstlineno__" 684 (.int 200 683),dr P "days" 693 354,dr P "told" 700 361,dr P "__static_attributes__" 701 362,dr P "__dict__" 703 365,dr P "__weakref__" 705 366,de P "__doc__" 706 .none] 4
def vP:Obj:=⟨(.type "type"),none,(.cls ⟨"Mark",[(.type "object")],[(r 364),(.type "object")],363,"Mark",true,[],[(r 399),(r 433)],false,none,false⟩),#[none,none,(some (.str "Mark" 673)),(some (.str "Mark" 681)),(some (.builtin "object.__new__")),(some (.bool true))]⟩
def M7:Obj:=⟨(.type "getset_descriptor"),none,(.fields #[(.str "__dict__" 702),(r 364),(.builtin "function.__dict__"),(.builtin "function.__dict__#set")]),#[]⟩
def Kz:Obj:=⟨(.type "getset_descriptor"),none,(.fields #[(.str "__weakref__" 704),(r 364),(.builtin "ExceptionGroup.__weakref__"),.none]),#[]⟩
def KA:=su 364 364 364
def BA:=bm "object.__init_subclass__" (r 364)
def jD:=tu [(r 364)]
def B6(P:Params):=di [de P "__module__" 716 fZ,de P "__qualname__" 718 (.str "Numbers" 717),de P "__firstlineno__" 720 (.int 207 719),dr P "__init__" 728 382,dr P "days" 737 389,dr P "told" 744 396,dr P "__static_attributes__" 746 397] 7
def JI:=fD 4 [(209,381),(212,388),(215,395)]
def Hw:=cK "Numbers" "Numbers" 711 207 372 714
def KH:=fr 374 371 fZ
def LH:=tS 724 ["self","mask"]
def MZ:=fz "__init__" "Numbers.__init__" (ib (tp 76) 0)
def DD:=cO "__init__" "Numbers.__init__" 721 209 2 3 376 726
def Om:=fQ "__init__" "Numbers.__init__" (ib (tp 76) 0) fZ 381
def IF:=tS 732 ["self","last","first"]
def FW:=fz "days" "Numbers.days" (ib (tp 76) 1)
def BR:=cO "days" "Numbers.days" 729 212 3 3 383 735
def N4:=fQ "days" "Numbers.days" (ib (tp 76) 1) fZ 388
def L0:=tS 741 ["self"]
def E4:=fz "told" "Numbers.told" (ib (tp 76) 2)
def Ka:=cO "told" "Numbers.told" 738 215 1 3 390 742
def IH:=fQ "told" "Numbers.told" (ib (tp 76) 2) fZ 395
def Io:=tS 745 ["mask"]
def Ag(P:Params):=di [de P "__module__" 716 fZ,de P "__firstlineno__" 720 (.int 207 719),dr P "__init__" 728 382,dr P "days" 737 389,dr P "told" 744 396,dr P "__static_attributes__" 746 397,de P "__doc__" 747 .none] 2
def IG:Obj:=⟨(.type "type"),none,(.cls ⟨"Numbers",[(r 364)],[(r 399),(r 364),(.type "object")],398,"Numbers",true,[],[],false,none,false⟩),#[(some (r 369)),none,(some (.str "Numbers" 709)),(some (.str "Numbers" 717)),(some (.builtin "object.__new__")),(some (.bool true))]⟩
def C5:=su 399 399 399
def Dl:=bm "object.__init_subclass__" (r 399)
def NB(P:Params):=di [de P "__module__" 757 fZ,de P "__qualname__" 759 (.str "Last" 758),de P "__firstlineno__" 761 (.int 217 760),dr P "__init__" 770 416,dr P "days" 779 423,dr P "told" 786 430,dr P "__static_attributes__" 788 431] 7
def BZ:=fD 4 [(219,415),(222,422),(227,429)]
def AS:=cK "Last" "Last" 752 217 405 755
def MV:=fr 407 404 fZ
def Nr:=tu [(.int 0 762)]
def BQ:=tS 766 ["self","back"]
def Bd:=fz "__init__" "Last.__init__" (ib (tp 77) 0)
def Hz:=cO "__init__" "Last.__init__" 763 219 2 3 410 768
def G1:=fn "__init__" "Last.__init__" (ib (tp 77) 0) 3 [] (r 409) .none .none fZ none (r 415) .none 0
def BO:=tS 774 ["self","last","first"]
def NA:=fT "days" "Last.days" (ib (tp 77) 1) (ib (tp 75) 0)
def D4:=cO "days" "Last.days" 771 222 3 3 417 777
def Ao:=fS "days" "Last.days" (ib (tp 77) 1) (ib (tp 75) 0) fZ 422
def JF:=tS 783 ["self"]
def GH:=fz "told" "Last.told" (ib (tp 77) 2)
def KO:=cO "told" "Last.told" 780 227 1 3 424 784
def zR:=fQ "told" "Last.told" (ib (tp 77) 2) fZ 429
def KJ:=tS 787 ["back"]
def yj(P:Params):=di [de P "__module__" 757 fZ,de P "__firstlineno__" 761 (.int 217 760),dr P "__init__" 770 416,dr P "days" 779 423,dr P "told" 786 430,dr P "__static_attributes__" 788 431,de P "__doc__" 789 .none] 2
def Ab:Obj:=⟨(.type "type"),none,(.cls ⟨"Last",[(r 364)],[(r 433),(r 364),(.type "object")],432,"Last",true,[],[],false,none,false⟩),#[(some (r 402)),none,(some (.str "Last" 750)),(some (.str "Last" 758)),(some (.builtin "object.__new__")),(some (.bool true))]⟩
def Mn:=su 433 433 433
def Gg:=bm "object.__init_subclass__" (r 433)
def lM(P:Params)(x0 x1 x2:Obj):List Obj:=[(boot_o_0 P),(boot_o_1 P),(boot_o_2 P),x0,(boot_o_4 P),(boot_o_5 P),(boot_o_6 P),(boot_o_7 P),(boot_o_8 P),(boot_o_9 P),(boot_o_10 P),o0,x1,o2,o3,o0,o1,o6,o0,o7,o8,o9,G2,gD,(IQ P),o0,o1,La,Lc,o0,(Ju P),Kf,Hq,Ly,GC,mx,gD,(zt P),o0,o1,Ep,Fv,o0,(HM P),KZ,Hr,zf,mx,gD,(CD P),o0,Ej,KC,GV,o0,o1,yQ,o0,NE,EH,Jm,M1,(Ba P),D8,H0,Kw,mx,gD,(Gc P),o0,N5,Em,JP,o0,o1,Ey,o0,CJ,Ay,Jj,L3,(Ht P),DG,CV,Dh,mx,gD,(BU P),o0,o1,KY,Am,o0,(Gj P),Ip,Hm,GW,o0,o1,Iw,o0,zv,IW,Ke,Oc,o0,o1,Az,o0,FD,KR,DU,o0,o1,Iu,o0,Cq,DM,NJ,o0,o1,IL,o0,He,II,Nx,o0,o1,BJ,o0,Co,IT,AR,o0,o1,Fp,o0,Ga,Ih,yo,o0,o1,GQ,KS,Ld,o0,o1,GF,o0,CW,AC,Jg,o0,o1,Cc,o0,Ia,zl,GO,o0,o1,Jt,o0,Bh,Bq,Km,o0,o1,yu,Oe,NR,o0,o1,MK,o0,EY,Bc,yX,o0,o1,FB,o0,Do,JC,Ge,o0,o1,HZ,o0,LU,ED,Ks,o0,o1,Ik,o0,B3,Cv,Mz,o0,o1,yB,o0,FQ,yM,Nl,o0,o1,C9,o0,NC,LC,Er,o0,o1,Cy,o0,Na,Ac,Eb,o0,o1,zr,o0,CC,EI,BV,o0,o1,Mr,Eo,Ew,o0,o1,GJ,o0,zE,KU,Be,o0,o1,Lo,AM,A0,o0,o1,Lg,o0,Ee,JH,L9,o0,o1,zB,F2,ER,o0,o1,Ij,o0,MU,FH,Fk,o0,o1,KN,Iz,C7,o0,o1,CZ,o0,N3,DS,DP,o0,o1,ze,o0,LA,Av,CP,o0,o1,HU,NF,AL,o0,o1,Bb,o0,Jz,yU,Hl,o0,o1,B2,o0,EU,Ll,A6,o0,o1,zO,o0,BE,JU,Jw,o0,o1,yw,zW,yz,o0,o1,zY,o0,Mw,Ad,JX,o0,o1,EE,o0,MB,FO,yY,o0,o1,Kt,o0,Fy,BM,F0,o0,o1,Nz,o0,Dw,HP,Fx,o0,gD,(yE P),o0,LL,Ji,Aq,o0,o1,Lw,o0,Bp,Dz,Fw,o0,o1,BC,o0,ym,JR,C3,o0,(IA P),x2,M7,Kz,KA,BA,jD,gD,(B6 P),o0,JI,Hw,KH,o0,o1,LH,o0,MZ,DD,Om,o0,o1,IF,o0,FW,BR,N4,o0,o1,L0,o0,E4,Ka,IH,Io,(Ag P),IG,C5,Dl,jD,gD,(NB P),o0,BZ,AS,MV,Nr,o0,o1,BQ,o0,Bd,Hz,G1,o0,o1,BO,o0,NA,D4,Ao,o0,o1,JF,o0,GH,KO,zR,KJ,(yj P),Ab,Mn,Gg]
def t1(P:Params):BT:=oG 10 (lM P (o4 P) o5 vP)
def s1(w:World)(os:OsState):SharedT:=⟨t1 w.params,436,⟨[],[],[],0,[],[],false,#[],[],0,false,false,false,0,[2000,10,10],false,0,true,[],[],0,false⟩,#[],⟨0,0,0,0⟩,792,os⟩
def l0:List Stmt:=(bi.drop 0).take 78
theorem r0(w:World)(os:OsState):
  segRunT treeTable pw w 11 an 1 3408 (s0 w os) (piecesOf l0 ev cd ⟨0,0,0,0⟩ bk) =
  some (.next,s1 w os,cd,⟨217,0,230,36⟩):=by kernel_rfl
def mq(P:Params):List DictEntry:=[de P "__doc__" 166 .none,de P "__package__" 167 .none,de P "__loader__" 168 (.builtin "__main__.__loader__#opaque"),de P "__spec__" 169 .none,dr P "__annotations__" 170 6,dr P "__builtins__" 171 4,de P "__file__" 173 (sf 172),de P "__cached__" 174 .none,dr P "_wall" 193 21,dr P "FieldError" 213 31,dr P "NoDay" 229 44,dr P "NoField" 254 63,dr P "NoRow" 279 82,dr P "NoClock" 295 94,dr P "is_whole" 304 103,dr P "MONTH_LASTS" 319 104,de P "ROUND_YEARS" 321 (.int 400 320),de P "ROUND_DAYS" 323 (.int 146097 322),dr P "is_long" 330 111,dr P "multiples_before" 338 118,dr P "days_before" 346 125,dr P "last_of" 354 132,dr P "is_date" 363 139,dr P "day_of" 369 144,dr P "year_of" 377 151,dr P "date_of" 387 158,dr P "weekday" 394 165,de P "FIGURES" 398 (.str "0123456789" 397),dr P "all_figures" 404 170,dr P "is_written" 411 177,de P "DAY_MINUTES" 415 (.int 1440 414),de P "HOUR_MINUTES" 417 (.int 60 416),dr P "parted" 425 184,de P "KINDS" 429 (.int 91 428),de P "LONG_PLACE" 431 (.int 12 430),de P "LONG_LAST" 433 (.int 29 432),de P "SHORT_YEAR" 435 (.int 1 434),dr P "kind_from" 445 191,dr P "kind_of" 453 198,dr P "month_at" 462 205,dr P "months_of_round" 473 212,de P "ROUND" 475 (.int 210379680 474),dr P "has" 485 219,dr P "lowest" 492 226,dr P "starts_of" 498 231,dr P "end_from" 507 238,dr P "ranges_of" 513 243,dr P "shown_range" 521 250,dr P "shown_ranges" 527 255,de P "MOST_SIGNS" 531 (.int 300 530),de P "MOST_ITEMS" 533 (.int 40 532),de P "MOST_STRIDE" 535 (.int 99 534),dr P "mask_of" 544 262,dr P "numbers_in" 550 267,dr P "run_mask" 559 274,dr P "read_number" 569 281,dr P "read_run" 575 286,dr P "read_strided" 588 293,dr P "read_item" 599 300,dr P "read_field" 613 307,dr P "never" 621 312,de P "MOST_MARKS" 625 (.int 20 624),de P "MOST_DAY" 627 (.int 31 626),de P "MOST_BACK" 629 (.int 30 628),de P "MOST_NTH" 631 (.int 5 630),de P "SUNDAY" 633 (.int 0 632),de P "SATURDAY" 635 (.int 6 634),de P "SUNDAY_TOO" 637 (.int 7 636),de P "ALL_WEEKDAYS" 639 (.int 127 638),dr P "weekday_at" 647 319,dr P "all_days" 654 326,dr P "nearest_work" 664 333,dr P "first_one" 672 340,dr P "Mark" 708 364,dr P "Numbers" 749 399,dr P "Last" 791 433,dr P "Near" 832 466,dr P "LastWork" 864 492,dr P "Weekdays" 907 525,dr P "Nth" 951 558,dr P "LastOne" 992 591,dr P "any_days" 1003 600,dr P "read_day_mark" 1012 607,dr P "read_weekday" 1020 614,dr P "read_weekday_mark" 1030 621,dr P "read_items" 1047 628,dr P "read_days" 1055 635,dr P "read_weekdays" 1064 642,de P "MOST_ROW_SIGNS" 1068 (.int 1600 1067),de P "MINUTE" 1070 (.int 0 1069),de P "HOUR" 1072 (.int 1 1071),de P "DAY" 1074 (.int 2 1073),de P "MONTH" 1076 (.int 3 1075),de P "WEEKDAY" 1078 (.int 4 1077),de P "NO_PLACE" 1080 (.int 5 1079),dr P "BOUNDS" 1093 643,dr P "times_of" 1103 653,dr P "days_by" 1115 660,dr P "Row" 1219 740,dr P "read_word" 1228 751,dr P "read_at" 1236 758,dr P "read_row" 1242 763,de P "MOST_OFFSET" 1246 (.int 720 1245),de P "MOST_PUTS" 1248 (.int 4 1247),de P "LEAST_BETWEEN" 1250 (.int 4320 1249),dr P "checked_offset" 1257 770,dr P "checked_put" 1265 777,dr P "checked_puts" 1271 782,dr P "check_between" 1280 789,dr P "puts_in" 1293 796,dr P "puts_of_round" 1299 801,dr P "place_up_to" 1310 808,dr P "Clock" 1364 847,dr P "Shifted" 1418 889,dr P "readings" 1426 896,dr P "_law_cell_at" 1436 903,dr P "_law_stir" 1445 910,dr P "_law_digits" 1456 917]
def vg(P:Params):=di (de P "__name__" 165 ie::mq P) 119
def x9:=fD 0 [(1,20),(5,27),(7,40),(9,52),(13,71),(17,90),(20,102),(26,110),(28,117),(30,124),(33,131),(37,138),(41,143),(46,150),(51,157),(59,164),(63,169),(65,176),(70,183),(78,190),(81,197),(83,204),(89,211),(100,218),(102,225),(104,230),(107,237),(112,242),(114,249),(118,254),(124,261),(129,266),(131,273),(133,280),(140,285),(147,292),(154,299),(162,306),(176,311),(187,318),(189,325),(191,332),(198,339),(200,346),(207,374),(217,407),(231,441),(243,474),(250,500),(263,533),(277,566),(287,599),(292,606),(304,613),(307,620),(319,627),(337,634),(344,641),(361,652),(366,659),(374,666),(423,750),(430,757),(435,762),(446,769),(450,776),(461,781),(465,788),(469,795),(476,800),(486,807),(496,814),(509,857),(528,895),(532,902),(536,909),(540,916)]
def Cj:Obj:=⟨(.type "type"),none,(.cls ⟨"Mark",[(.type "object")],[(r 364),(.type "object")],363,"Mark",true,[],[(r 399),(r 433),(r 466),(r 492),(r 525),(r 558),(r 591)],false,none,false⟩),#[none,none,(some (.str "Mark" 673)),(some (.str "Mark" 681)),(some (.builtin "object.__new__")),(some (.bool true))]⟩
def HB(P:Params):=di [de P "__module__" 799 fZ,de P "__qualname__" 801 (.str "Near" 800),de P "__firstlineno__" 803 (.int 231 802),dr P "__init__" 811 449,dr P "days" 820 456,dr P "told" 827 463,dr P "__static_attributes__" 829 464] 7
def DF:=fD 4 [(233,448),(236,455),(241,462)]
def Lz:=cK "Near" "Near" 794 231 439 797
def Gq:=fr 441 438 fZ
def zu:=tS 807 ["self","day"]
def K3:=fz "__init__" "Near.__init__" (ib (tp 78) 0)
def AW:=cO "__init__" "Near.__init__" 804 233 2 3 443 809
def Bt:=fQ "__init__" "Near.__init__" (ib (tp 78) 0) fZ 448
def Bi:=tS 815 ["self","last","first"]
def yi:=fz "days" "Near.days" (ib (tp 78) 1)
def JN:=cO "days" "Near.days" 812 236 3 3 450 818
def Jv:=fQ "days" "Near.days" (ib (tp 78) 1) fZ 455
def AX:=tS 824 ["self"]
def MS:=fT "told" "Near.told" (ib (tp 78) 2) (ib (tp 77) 2)
def Jo:=cO "told" "Near.told" 821 241 1 3 457 825
def EC:=fS "told" "Near.told" (ib (tp 78) 2) (ib (tp 77) 2) fZ 462
def LJ:=tS 828 ["day"]
def Cb(P:Params):=di [de P "__module__" 799 fZ,de P "__firstlineno__" 803 (.int 231 802),dr P "__init__" 811 449,dr P "days" 820 456,dr P "told" 827 463,dr P "__static_attributes__" 829 464,de P "__doc__" 830 .none] 2
def CB:Obj:=⟨(.type "type"),none,(.cls ⟨"Near",[(r 364)],[(r 466),(r 364),(.type "object")],465,"Near",true,[],[],false,none,false⟩),#[(some (r 436)),none,(some (.str "Near" 792)),(some (.str "Near" 800)),(some (.builtin "object.__new__")),(some (.bool true))]⟩
def Nm:=su 466 466 466
def JQ:=bm "object.__init_subclass__" (r 466)
def C0(P:Params):=di [de P "__module__" 840 fZ,de P "__qualname__" 842 (.str "LastWork" 841),de P "__firstlineno__" 844 (.int 243 843),dr P "days" 853 482,dr P "told" 860 489,dr P "__static_attributes__" 861 490] 6
def Lx:=fD 4 [(245,481),(248,488)]
def Nu:=cK "LastWork" "LastWork" 835 243 472 838
def JZ:=fr 474 471 fZ
def Kx:=tS 848 ["self","last","first"]
def MW:=fT "days" "LastWork.days" (ib (tp 79) 0) (ib (tp 78) 1)
def B5:=cO "days" "LastWork.days" 845 245 3 3 476 851
def yV:=fS "days" "LastWork.days" (ib (tp 79) 0) (ib (tp 78) 1) fZ 481
def Ez:=tS 857 ["self"]
def Fo:=fT "told" "LastWork.told" (ib (tp 79) 1) (ib (tp 75) 1)
def Kk:=cO "told" "LastWork.told" 854 248 1 3 483 858
def HC:=fS "told" "LastWork.told" (ib (tp 79) 1) (ib (tp 75) 1) fZ 488
def BG(P:Params):=di [de P "__module__" 840 fZ,de P "__firstlineno__" 844 (.int 243 843),dr P "days" 853 482,dr P "told" 860 489,dr P "__static_attributes__" 861 490,de P "__doc__" 862 .none] 2
def IK:Obj:=⟨(.type "type"),none,(.cls ⟨"LastWork",[(r 364)],[(r 492),(r 364),(.type "object")],491,"LastWork",true,[],[],false,none,false⟩),#[(some (r 469)),none,(some (.str "LastWork" 833)),(some (.str "LastWork" 841)),(some (.builtin "object.__new__")),(some (.bool true))]⟩
def Mo:=su 492 492 492
def AQ:=bm "object.__init_subclass__" (r 492)
def zK(P:Params):=di [de P "__module__" 872 fZ,de P "__qualname__" 874 (.str "Weekdays" 873),de P "__firstlineno__" 876 (.int 250 875),dr P "__init__" 884 508,dr P "days" 895 515,dr P "told" 902 522,dr P "__static_attributes__" 904 523] 7
def L6:=fD 4 [(252,507),(255,514),(261,521)]
def Du:=cK "Weekdays" "Weekdays" 867 250 498 870
def Nk:=fr 500 497 fZ
def zD:=tS 880 ["self","mask"]
def Ek:=fT "__init__" "Weekdays.__init__" (ib (tp 80) 0) (ib (tp 76) 0)
def zh:=cO "__init__" "Weekdays.__init__" 877 252 2 3 502 882
def Lb:=fS "__init__" "Weekdays.__init__" (ib (tp 80) 0) (ib (tp 76) 0) fZ 507
def M6:=tS 888 ["self","last","first","weeks","week"]
def K9:=fz "days" "Weekdays.days" (ib (tp 80) 1)
def Fl:=cO "days" "Weekdays.days" 885 255 3 3 509 893
def Ms:=fQ "days" "Weekdays.days" (ib (tp 80) 1) fZ 514
def DO:=tS 899 ["self"]
def HH:=fT "told" "Weekdays.told" (ib (tp 80) 2) (ib (tp 76) 2)
def F7:=cO "told" "Weekdays.told" 896 261 1 3 516 900
def Jb:=fS "told" "Weekdays.told" (ib (tp 80) 2) (ib (tp 76) 2) fZ 521
def Dc:=tS 903 ["mask"]
def Al(P:Params):=di [de P "__module__" 872 fZ,de P "__firstlineno__" 876 (.int 250 875),dr P "__init__" 884 508,dr P "days" 895 515,dr P "told" 902 522,dr P "__static_attributes__" 904 523,de P "__doc__" 905 .none] 2
def Nd:Obj:=⟨(.type "type"),none,(.cls ⟨"Weekdays",[(r 364)],[(r 525),(r 364),(.type "object")],524,"Weekdays",true,[],[],false,none,false⟩),#[(some (r 495)),none,(some (.str "Weekdays" 865)),(some (.str "Weekdays" 873)),(some (.builtin "object.__new__")),(some (.bool true))]⟩
def MR:=su 525 525 525
def NV:=bm "object.__init_subclass__" (r 525)
def Hc(P:Params):=di [de P "__module__" 915 fZ,de P "__qualname__" 917 (.str "Nth" 916),de P "__firstlineno__" 919 (.int 263 918),dr P "__init__" 928 541,dr P "days" 938 548,dr P "told" 945 555,dr P "__static_attributes__" 948 556] 7
def IB:=fD 4 [(265,540),(269,547),(275,554)]
def Cw:=cK "Nth" "Nth" 910 263 531 913
def NM:=fr 533 530 fZ
def Hv:=tS 923 ["self","weekday","many"]
def M2:=fz "__init__" "Nth.__init__" (ib (tp 81) 0)
def AN:=cO "__init__" "Nth.__init__" 920 265 3 3 535 926
def Ni:=fQ "__init__" "Nth.__init__" (ib (tp 81) 0) fZ 540
def zX:=tS 932 ["self","last","first","day"]
def Hf:=fz "days" "Nth.days" (ib (tp 81) 1)
def FU:=cO "days" "Nth.days" 929 269 3 3 542 936
def B0:=fQ "days" "Nth.days" (ib (tp 81) 1) fZ 547
def KW:=tS 942 ["self"]
def KQ:=fT "told" "Nth.told" (ib (tp 81) 2) (ib (tp 77) 2)
def zT:=cO "told" "Nth.told" 939 275 1 3 549 943
def LZ:=fS "told" "Nth.told" (ib (tp 81) 2) (ib (tp 77) 2) fZ 554
def Ib:=tS 946 ["many","weekday"]
def yP(P:Params):=di [de P "__module__" 915 fZ,de P "__firstlineno__" 919 (.int 263 918),dr P "__init__" 928 541,dr P "days" 938 548,dr P "told" 945 555,dr P "__static_attributes__" 948 556,de P "__doc__" 949 .none] 2
def DZ:Obj:=⟨(.type "type"),none,(.cls ⟨"Nth",[(r 364)],[(r 558),(r 364),(.type "object")],557,"Nth",true,[],[],false,none,false⟩),#[(some (r 528)),none,(some (.str "Nth" 908)),(some (.str "Nth" 916)),(some (.builtin "object.__new__")),(some (.bool true))]⟩
def Bv:=su 558 558 558
def yq:=bm "object.__init_subclass__" (r 558)
def NO(P:Params):=di [de P "__module__" 959 fZ,de P "__qualname__" 961 (.str "LastOne" 960),de P "__firstlineno__" 963 (.int 277 962),dr P "__init__" 971 574,dr P "days" 980 581,dr P "told" 987 588,dr P "__static_attributes__" 989 589] 7
def Ja:=fD 4 [(279,573),(282,580),(285,587)]
def Np:=cK "LastOne" "LastOne" 954 277 564 957
def Lh:=fr 566 563 fZ
def Et:=tS 967 ["self","weekday"]
def Ea:=fz "__init__" "LastOne.__init__" (ib (tp 82) 0)
def EX:=cO "__init__" "LastOne.__init__" 964 279 2 3 568 969
def EF:=fQ "__init__" "LastOne.__init__" (ib (tp 82) 0) fZ 573
def AZ:=tS 975 ["self","last","first"]
def FM:=fz "days" "LastOne.days" (ib (tp 82) 1)
def AV:=cO "days" "LastOne.days" 972 282 3 3 575 978
def yg:=fQ "days" "LastOne.days" (ib (tp 82) 1) fZ 580
def NX:=tS 984 ["self"]
def Mx:=fT "told" "LastOne.told" (ib (tp 82) 2) (ib (tp 77) 2)
def Ah:=cO "told" "LastOne.told" 981 285 1 3 582 985
def Dt:=fS "told" "LastOne.told" (ib (tp 82) 2) (ib (tp 77) 2) fZ 587
def Jp:=tS 988 ["weekday"]
def B1(P:Params):=di [de P "__module__" 959 fZ,de P "__firstlineno__" 963 (.int 277 962),dr P "__init__" 971 574,dr P "days" 980 581,dr P "told" 987 588,dr P "__static_attributes__" 989 589,de P "__doc__" 990 .none] 2
def D0:Obj:=⟨(.type "type"),none,(.cls ⟨"LastOne",[(r 364)],[(r 591),(r 364),(.type "object")],590,"LastOne",true,[],[],false,none,false⟩),#[(some (r 561)),none,(some (.str "LastOne" 952)),(some (.str "LastOne" 960)),(some (.builtin "object.__new__")),(some (.bool true))]⟩
def yO:=su 591 591 591
def Fh:=bm "object.__init_subclass__" (r 591)
def LB:=tS 996 ["marks","last","first","mask","mark"]
def zP:=fY "any_days" 83
def GK:=cP "any_days" 993 287 3 3 594 1001
def zi:=fP "any_days" 83 fZ 599
def Ma:=tS 1007 ["item","back","day"]
def yJ:=fY "read_day_mark" 84
def Ol:=cP "read_day_mark" 1004 292 1 3 601 1010
def M9:=fP "read_day_mark" 84 fZ 606
def MO:=tS 1016 ["text","number"]
def Ny:=fY "read_weekday" 85
def yR:=cP "read_weekday" 1013 304 1 3 608 1018
def Kp:=fP "read_weekday" 85 fZ 613
def Lv:=tS 1024 ["item","weekday","parts","many"]
def Aw:=fY "read_weekday_mark" 86
def EK:=cP "read_weekday_mark" 1021 307 1 3 615 1028
def Oa:=fP "read_weekday_mark" 86 fZ 620
def IR:=tS 1034 ["text","low","high","read_mark","items","mask","marks","place","item","plain","mark"]
def AJ:=fY "read_items" 87
def Hs:=cP "read_items" 1031 319 4 3 622 1045
def LW:=fP "read_items" 87 fZ 627
def EL:=tS 1051 ["text","read"]
def Ku:=fY "read_days" 88
def F4:=cP "read_days" 1048 337 1 3 629 1053
def An:=fP "read_days" 88 fZ 634
def Oj:=tS 1059 ["text","read","mask"]
def AH:=fY "read_weekdays" 89
def Dp:=cP "read_weekdays" 1056 344 1 3 636 1062
def Mh:=fP "read_weekdays" 89 fZ 641
def MI:=di [⟨0,(.int 0 1081),(r 644)⟩,⟨1,(.int 1 1084),(r 645)⟩,⟨3,(.int 3 1087),(r 646)⟩] 3
def E8:=tu [(.int 0 1082),(.int 59 1083)]
def Gv:=tu [(.int 0 1085),(.int 23 1086)]
def Da:=tu [(.int 1 1088),(.int 12 1089)]
def K7:=tS 1097 ["hours","minutes","times","hour"]
def DE:=fY "times_of" 99
def N1:=cP "times_of" 1094 361 2 3 647 1101
def yn:=fP "times_of" 99 iY 652
def Dg:=tS 1107 ["days","weekdays","last","first","mask","marks"]
def NS:=fY "days_by" 100
def Cm:=cP "days_by" 1104 366 4 3 654 1113
def N8:=fP "days_by" 100 iY 659
def Aa(P:Params):=di [de P "__module__" 1123 iY,de P "__qualname__" 1125 (.str "Row" 1124),de P "__firstlineno__" 1127 (.int 374 1126),dr P "__init__" 1135 674,dr P "minutes" 1142 681,dr P "hours" 1149 688,dr P "months" 1156 695,dr P "times" 1163 702,dr P "days_in" 1172 709,dr P "on_days" 1180 716,dr P "holds" 1188 723,dr P "shut_by" 1198 730,dr P "shown" 1205 737,dr P "__static_attributes__" 1212 738] 14
def Bl:=fD 4 [(376,673),(384,680),(387,687),(390,694),(393,701),(396,708),(402,715),(405,722),(408,729),(421,736)]
def De:=cK "Row" "Row" 1118 374 664 1121
def G7:=fr 666 663 iY
def Jl:=tS 1131 ["self","fields"]
def Aj:=fz "__init__" "Row.__init__" (ib (tp 101) 0)
def Fe:=cO "__init__" "Row.__init__" 1128 376 2 3 668 1133
def Jc:=fQ "__init__" "Row.__init__" (ib (tp 101) 0) iY 673
def MJ:=tS 1139 ["self"]
def EJ:=fT "minutes" "Row.minutes" (ib (tp 101) 1) (ib (tp 75) 1)
def Mp:=cO "minutes" "Row.minutes" 1136 384 1 3 675 1140
def E5:=fS "minutes" "Row.minutes" (ib (tp 101) 1) (ib (tp 75) 1) iY 680
def AA:=tS 1146 ["self"]
def HK:=fT "hours" "Row.hours" (ib (tp 101) 2) (ib (tp 75) 1)
def On:=cO "hours" "Row.hours" 1143 387 1 3 682 1147
def zS:=fS "hours" "Row.hours" (ib (tp 101) 2) (ib (tp 75) 1) iY 687
def Hn:=tS 1153 ["self"]
def KL:=fT "months" "Row.months" (ib (tp 101) 3) (ib (tp 75) 1)
def Mi:=cO "months" "Row.months" 1150 390 1 3 689 1154
def Me:=fS "months" "Row.months" (ib (tp 101) 3) (ib (tp 75) 1) iY 694
def CO:=tS 1160 ["self"]
def Gy:=fT "times" "Row.times" (ib (tp 101) 4) (ib (tp 75) 1)
def yS:=cO "times" "Row.times" 1157 393 1 3 696 1161
def C1:=fS "times" "Row.times" (ib (tp 101) 4) (ib (tp 75) 1) iY 701
def zU:=tS 1167 ["self","kind","month"]
def JY:=fz "days_in" "Row.days_in" (ib (tp 101) 5)
def IP:=cO "days_in" "Row.days_in" 1164 396 2 3 703 1170
def HR:=fQ "days_in" "Row.days_in" (ib (tp 101) 5) iY 708
def zG:=tS 1176 ["self","kind"]
def K6:=fz "on_days" "Row.on_days" (ib (tp 101) 6)
def Mb:=cO "on_days" "Row.on_days" 1173 402 2 3 710 1178
def Lu:=fQ "on_days" "Row.on_days" (ib (tp 101) 6) iY 715
def FK:=tS 1184 ["self","moment"]
def DX:=fz "holds" "Row.holds" (ib (tp 101) 7)
def zH:=cO "holds" "Row.holds" 1181 405 2 3 717 1186
def IU:=fQ "holds" "Row.holds" (ib (tp 101) 7) iY 722
def Gb:=tS 1192 ["self","moment","parts","date"]
def Ir:=fz "shut_by" "Row.shut_by" (ib (tp 101) 8)
def CK:=cO "shut_by" "Row.shut_by" 1189 408 2 3 724 1196
def J2:=fQ "shut_by" "Row.shut_by" (ib (tp 101) 8) iY 729
def DQ:=tS 1202 ["self"]
def Hy:=fz "shown" "Row.shown" (ib (tp 101) 9)
def HA:=cO "shown" "Row.shown" 1199 421 1 3 731 1203
def zg:=fQ "shown" "Row.shown" (ib (tp 101) 9) iY 736
def Lj:=tS 1206 ["day_marks","hour_mask","minute_mask","month_mask","time_mask","weekday_marks"]
def MA(P:Params):=di [de P "__module__" 1123 iY,de P "__firstlineno__" 1127 (.int 374 1126),dr P "__init__" 1135 674,dr P "minutes" 1142 681,dr P "hours" 1149 688,dr P "months" 1156 695,dr P "times" 1163 702,dr P "days_in" 1172 709,dr P "on_days" 1180 716,dr P "holds" 1188 723,dr P "shut_by" 1198 730,dr P "shown" 1205 737,dr P "__static_attributes__" 1212 738,dr P "__dict__" 1214 741,dr P "__weakref__" 1216 742,de P "__doc__" 1217 .none] 4
def D5:Obj:=⟨(.type "type"),none,(.cls ⟨"Row",[(.type "object")],[(r 740),(.type "object")],739,"Row",true,[],[],false,none,false⟩),#[none,none,(some (.str "Row" 1116)),(some (.str "Row" 1124)),(some (.builtin "object.__new__")),(some (.bool true))]⟩
def KE:Obj:=⟨(.type "getset_descriptor"),none,(.fields #[(.str "__dict__" 1213),(r 740),(.builtin "function.__dict__"),(.builtin "function.__dict__#set")]),#[]⟩
def IX:Obj:=⟨(.type "getset_descriptor"),none,(.fields #[(.str "__weakref__" 1215),(r 740),(.builtin "ExceptionGroup.__weakref__"),.none]),#[]⟩
def GX:=su 740 740 740
def zq:=bm "object.__init_subclass__" (r 740)
def Hk:=tS 1223 ["word","place","bounds"]
def Bs:=fY "read_word" 102
def NH:=cP "read_word" 1220 423 2 3 745 1226
def HL:=fP "read_word" 102 iY 750
def LG:=tS 1232 ["word","place"]
def Gk:=fY "read_at" 103
def Ae:=cP "read_at" 1229 430 2 3 752 1234
def ET:=fP "read_at" 103 iY 757
def HD:=fY "read_row" 104
def Dj:=co [(.str "read_row" 1237),(.str "read_row" 1238),(sf 1239),(i 435),(i 1),(i 0),(i 0),(i 3),(r 759),(.bool true),(i 181),(r 760),.none,.none,.none,(r 761),(i 1240),(i 435),(sf 1241)]
def Dy:=fP "read_row" 104 iY 762
def CS:=tS 1254 ["offset"]
def BL:=fY "checked_offset" 109
def M8:=cP "checked_offset" 1251 446 1 3 764 1255
def Kv:=fP "checked_offset" 109 iq 769
def Ky:=tS 1261 ["put","times"]
def Nb:=fY "checked_put" 110
def Li:=cP "checked_put" 1258 450 1 3 771 1263
def Lk:=fP "checked_put" 110 iq 776
def JK:=fY "checked_puts" 111
def Ax:=co [(.str "checked_puts" 1266),(.str "checked_puts" 1267),(sf 1268),(i 461),(i 1),(i 0),(i 0),(i 3),(r 778),(.bool true),(i 181),(r 779),.none,.none,.none,(r 780),(i 1269),(i 461),(sf 1270)]
def Mg:=fP "checked_puts" 111 iq 781
def FE:=tS 1275 ["table","earlier","later"]
def Bf:=fY "check_between" 112
def Fi:=cP "check_between" 1272 465 1 3 783 1278
def CI:=fP "check_between" 112 iq 788
def IY:=tS 1284 ["puts","kind","found","row","offset","time","day"]
def IZ:=fY "puts_in" 113
def Cf:=cP "puts_in" 1281 469 2 3 790 1291
def EM:=fP "puts_in" 113 iq 795
def KP:=fY "puts_of_round" 114
def DY:=co [(.str "puts_of_round" 1294),(.str "puts_of_round" 1295),(sf 1296),(i 476),(i 1),(i 0),(i 0),(i 3),(r 797),(.bool true),(i 181),(r 798),.none,.none,.none,(r 799),(i 1297),(i 476),(sf 1298)]
def MC:=fP "puts_of_round" 114 iq 800
def Gu:=tS 1303 ["table","moment","low","high","middle"]
def BN:=fY "place_up_to" 115
def CU:=cP "place_up_to" 1300 486 2 3 802 1308
def G5:=fP "place_up_to" 115 iq 807
def Fg(P:Params):=di [de P "__module__" 1318 iq,de P "__qualname__" 1320 (.str "Clock" 1319),de P "__firstlineno__" 1322 (.int 496 1321),dr P "__init__" 1331 823,dr P "offset_at" 1339 830,dr P "local" 1347 837,dr P "put_at" 1355 844,dr P "__static_attributes__" 1357 845] 8
def GM:=fD 4 [(498,822),(501,829),(504,836),(507,843)]
def zV:=cK "Clock" "Clock" 1313 496 812 1316
def E9:=fr 814 811 iq
def Ls:=tu [(.int 0 1323)]
def LP:=tS 1327 ["self","base"]
def Ai:=fz "__init__" "Clock.__init__" (ib (tp 116) 0)
def Mt:=cO "__init__" "Clock.__init__" 1324 498 2 3 817 1329
def HN:=fn "__init__" "Clock.__init__" (ib (tp 116) 0) 3 [] (r 816) .none .none iq none (r 822) .none 0
def CQ:=tS 1335 ["self","true"]
def Ie:=fz "offset_at" "Clock.offset_at" (ib (tp 116) 1)
def DB:=cO "offset_at" "Clock.offset_at" 1332 501 2 3 824 1337
def K0:=fQ "offset_at" "Clock.offset_at" (ib (tp 116) 1) iq 829
def Fj:=tS 1343 ["self","true"]
def IS:=fT "local" "Clock.local" (ib (tp 116) 2) (ib (tp 116) 1)
def IM:=cO "local" "Clock.local" 1340 504 2 3 831 1345
def Le:=fS "local" "Clock.local" (ib (tp 116) 2) (ib (tp 116) 1) iq 836
def yp:=tS 1351 ["self","true"]
def zQ:=fT "put_at" "Clock.put_at" (ib (tp 116) 3) (ib (tp 116) 1)
def FL:=cO "put_at" "Clock.put_at" 1348 507 2 3 838 1353
def JW:=fS "put_at" "Clock.put_at" (ib (tp 116) 3) (ib (tp 116) 1) iq 843
def Mc:=tS 1356 ["base"]
def Nw(P:Params):=di [de P "__module__" 1318 iq,de P "__firstlineno__" 1322 (.int 496 1321),dr P "__init__" 1331 823,dr P "offset_at" 1339 830,dr P "local" 1347 837,dr P "put_at" 1355 844,dr P "__static_attributes__" 1357 845,dr P "__dict__" 1359 848,dr P "__weakref__" 1361 849,de P "__doc__" 1362 .none] 4
def AO:Obj:=⟨(.type "type"),none,(.cls ⟨"Clock",[(.type "object")],[(r 847),(.type "object")],846,"Clock",true,[],[(r 889)],false,none,false⟩),#[none,none,(some (.str "Clock" 1311)),(some (.str "Clock" 1319)),(some (.builtin "object.__new__")),(some (.bool true))]⟩
def y9:Obj:=⟨(.type "getset_descriptor"),none,(.fields #[(.str "__dict__" 1358),(r 847),(.builtin "function.__dict__"),(.builtin "function.__dict__#set")]),#[]⟩
def JS:Obj:=⟨(.type "getset_descriptor"),none,(.fields #[(.str "__weakref__" 1360),(r 847),(.builtin "ExceptionGroup.__weakref__"),.none]),#[]⟩
def Ln:=su 847 847 847
def Hh:=bm "object.__init_subclass__" (r 847)
def CM:=tu [(r 847)]
def C2(P:Params):=di [de P "__module__" 1372 iq,de P "__qualname__" 1374 (.str "Shifted" 1373),de P "__firstlineno__" 1376 (.int 509 1375),dr P "__init__" 1384 865,dr P "offset_at" 1392 872,dr P "local" 1400 879,dr P "put_at" 1412 886,dr P "__static_attributes__" 1415 887] 8
def yy:=fD 4 [(511,864),(515,871),(518,878),(521,885)]
def Bn:=cK "Shifted" "Shifted" 1367 509 855 1370
def MT:=fr 857 854 iq
def Ce:=tS 1380 ["self","puts"]
def N6:=fz "__init__" "Shifted.__init__" (ib (tp 117) 0)
def yL:=cO "__init__" "Shifted.__init__" 1377 511 2 3 859 1382
def Ca:=fQ "__init__" "Shifted.__init__" (ib (tp 117) 0) iq 864
def LM:=tS 1388 ["self","true"]
def E7:=fT "offset_at" "Shifted.offset_at" (ib (tp 117) 1) (ib (tp 116) 1)
def yv:=cO "offset_at" "Shifted.offset_at" 1385 515 2 3 866 1390
def JV:=fS "offset_at" "Shifted.offset_at" (ib (tp 117) 1) (ib (tp 116) 1) iq 871
def NT:=tS 1396 ["self","true"]
def Iy:=fT "local" "Shifted.local" (ib (tp 117) 2) (ib (tp 116) 1)
def Kn:=cO "local" "Shifted.local" 1393 518 2 3 873 1398
def FN:=fS "local" "Shifted.local" (ib (tp 117) 2) (ib (tp 116) 1) iq 878
def D6:=tS 1404 ["self","true","passed","place","start","put"]
def Dk:=fz "put_at" "Shifted.put_at" (ib (tp 117) 3)
def Ml:=cO "put_at" "Shifted.put_at" 1401 521 2 3 880 1410
def yC:=fQ "put_at" "Shifted.put_at" (ib (tp 117) 3) iq 885
def Bm:=tS 1413 ["puts","table"]
def NZ(P:Params):=di [de P "__module__" 1372 iq,de P "__firstlineno__" 1376 (.int 509 1375),dr P "__init__" 1384 865,dr P "offset_at" 1392 872,dr P "local" 1400 879,dr P "put_at" 1412 886,dr P "__static_attributes__" 1415 887,de P "__doc__" 1416 .none] 2
def IE:Obj:=⟨(.type "type"),none,(.cls ⟨"Shifted",[(r 847)],[(r 889),(r 847),(.type "object")],888,"Shifted",true,[],[],false,none,false⟩),#[(some (r 852)),none,(some (.str "Shifted" 1365)),(some (.str "Shifted" 1373)),(some (.builtin "object.__new__")),(some (.bool true))]⟩
def HE:=su 889 889 889
def Mf:=bm "object.__init_subclass__" (r 889)
def NW:=fY "readings" 119
def BF:=co [(.str "readings" 1421),(.str "readings" 1422),(sf 1423),(i 528),(i 2),(i 0),(i 0),(i 3),(r 892),(.bool true),(i 181),(r 893),.none,.none,.none,(r 894),(i 1424),(i 528),(sf 1425)]
def Hi:=fn "readings" "readings" (tp 119) 3 [] .none .none .none (.str "fivefields.rings" 1419) none (r 895) .none 0
def Jk:=tS 1432 ["_law_script","_law_k"]
def E2:=fY "_law_cell_at" 121
def Gx:=cP "_law_cell_at" 1429 532 2 3 897 1434
def Gn:=fP "_law_cell_at" 121 ie 902
def Cn:=tS 1440 ["_law_number","_law_first","_law_second"]
def Mj:=fY "_law_stir" 122
def A5:=cP "_law_stir" 1437 536 1 3 904 1443
def GB:=fP "_law_stir" 122 ie 909
def Ha:=tS 1449 ["_law_cell","_law_sizes","_law_mixed","_law_found","_law_size"]
def EA:=fY "_law_digits" 123
def FC:=cP "_law_digits" 1446 540 3 3 911 1454
def Dv:=fP "_law_digits" 123 ie 916
def t2(P:Params):BT:=oG 11 [(boot_o_0 P),(boot_o_1 P),(boot_o_2 P),(vg P),(boot_o_4 P),(boot_o_5 P),(boot_o_6 P),(boot_o_7 P),(boot_o_8 P),(boot_o_9 P),(boot_o_10 P),o0,x9,o2,o3,o0,o1,o6,o0,o7,o8,o9,G2,gD,(IQ P),o0,o1,La,Lc,o0,(Ju P),Kf,Hq,Ly,GC,mx,gD,(zt P),o0,o1,Ep,Fv,o0,(HM P),KZ,Hr,zf,mx,gD,(CD P),o0,Ej,KC,GV,o0,o1,yQ,o0,NE,EH,Jm,M1,(Ba P),D8,H0,Kw,mx,gD,(Gc P),o0,N5,Em,JP,o0,o1,Ey,o0,CJ,Ay,Jj,L3,(Ht P),DG,CV,Dh,mx,gD,(BU P),o0,o1,KY,Am,o0,(Gj P),Ip,Hm,GW,o0,o1,Iw,o0,zv,IW,Ke,Oc,o0,o1,Az,o0,FD,KR,DU,o0,o1,Iu,o0,Cq,DM,NJ,o0,o1,IL,o0,He,II,Nx,o0,o1,BJ,o0,Co,IT,AR,o0,o1,Fp,o0,Ga,Ih,yo,o0,o1,GQ,KS,Ld,o0,o1,GF,o0,CW,AC,Jg,o0,o1,Cc,o0,Ia,zl,GO,o0,o1,Jt,o0,Bh,Bq,Km,o0,o1,yu,Oe,NR,o0,o1,MK,o0,EY,Bc,yX,o0,o1,FB,o0,Do,JC,Ge,o0,o1,HZ,o0,LU,ED,Ks,o0,o1,Ik,o0,B3,Cv,Mz,o0,o1,yB,o0,FQ,yM,Nl,o0,o1,C9,o0,NC,LC,Er,o0,o1,Cy,o0,Na,Ac,Eb,o0,o1,zr,o0,CC,EI,BV,o0,o1,Mr,Eo,Ew,o0,o1,GJ,o0,zE,KU,Be,o0,o1,Lo,AM,A0,o0,o1,Lg,o0,Ee,JH,L9,o0,o1,zB,F2,ER,o0,o1,Ij,o0,MU,FH,Fk,o0,o1,KN,Iz,C7,o0,o1,CZ,o0,N3,DS,DP,o0,o1,ze,o0,LA,Av,CP,o0,o1,HU,NF,AL,o0,o1,Bb,o0,Jz,yU,Hl,o0,o1,B2,o0,EU,Ll,A6,o0,o1,zO,o0,BE,JU,Jw,o0,o1,yw,zW,yz,o0,o1,zY,o0,Mw,Ad,JX,o0,o1,EE,o0,MB,FO,yY,o0,o1,Kt,o0,Fy,BM,F0,o0,o1,Nz,o0,Dw,HP,Fx,o0,gD,(yE P),o0,LL,Ji,Aq,o0,o1,Lw,o0,Bp,Dz,Fw,o0,o1,BC,o0,ym,JR,C3,o0,(IA P),Cj,M7,Kz,KA,BA,jD,gD,(B6 P),o0,JI,Hw,KH,o0,o1,LH,o0,MZ,DD,Om,o0,o1,IF,o0,FW,BR,N4,o0,o1,L0,o0,E4,Ka,IH,Io,(Ag P),IG,C5,Dl,jD,gD,(NB P),o0,BZ,AS,MV,Nr,o0,o1,BQ,o0,Bd,Hz,G1,o0,o1,BO,o0,NA,D4,Ao,o0,o1,JF,o0,GH,KO,zR,KJ,(yj P),Ab,Mn,Gg,jD,gD,(HB P),o0,DF,Lz,Gq,o0,o1,zu,o0,K3,AW,Bt,o0,o1,Bi,o0,yi,JN,Jv,o0,o1,AX,o0,MS,Jo,EC,LJ,(Cb P),CB,Nm,JQ,jD,gD,(C0 P),o0,Lx,Nu,JZ,o0,o1,Kx,o0,MW,B5,yV,o0,o1,Ez,o0,Fo,Kk,HC,o0,(BG P),IK,Mo,AQ,jD,gD,(zK P),o0,L6,Du,Nk,o0,o1,zD,o0,Ek,zh,Lb,o0,o1,M6,o0,K9,Fl,Ms,o0,o1,DO,o0,HH,F7,Jb,Dc,(Al P),Nd,MR,NV,jD,gD,(Hc P),o0,IB,Cw,NM,o0,o1,Hv,o0,M2,AN,Ni,o0,o1,zX,o0,Hf,FU,B0,o0,o1,KW,o0,KQ,zT,LZ,Ib,(yP P),DZ,Bv,yq,jD,gD,(NO P),o0,Ja,Np,Lh,o0,o1,Et,o0,Ea,EX,EF,o0,o1,AZ,o0,FM,AV,yg,o0,o1,NX,o0,Mx,Ah,Dt,Jp,(B1 P),D0,yO,Fh,o0,o1,LB,o0,zP,GK,zi,o0,o1,Ma,o0,yJ,Ol,M9,o0,o1,MO,o0,Ny,yR,Kp,o0,o1,Lv,o0,Aw,EK,Oa,o0,o1,IR,o0,AJ,Hs,LW,o0,o1,EL,o0,Ku,F4,An,o0,o1,Oj,o0,AH,Dp,Mh,MI,E8,Gv,Da,o0,o1,K7,o0,DE,N1,yn,o0,o1,Dg,o0,NS,Cm,N8,o0,gD,(Aa P),o0,Bl,De,G7,o0,o1,Jl,o0,Aj,Fe,Jc,o0,o1,MJ,o0,EJ,Mp,E5,o0,o1,AA,o0,HK,On,zS,o0,o1,Hn,o0,KL,Mi,Me,o0,o1,CO,o0,Gy,yS,C1,o0,o1,zU,o0,JY,IP,HR,o0,o1,zG,o0,K6,Mb,Lu,o0,o1,FK,o0,DX,zH,IU,o0,o1,Gb,o0,Ir,CK,J2,o0,o1,DQ,o0,Hy,HA,zg,Lj,(MA P),D5,KE,IX,GX,zq,o0,o1,Hk,o0,Bs,NH,HL,o0,o1,LG,o0,Gk,Ae,ET,o0,o1,HD,Dj,Dy,o0,o1,CS,o0,BL,M8,Kv,o0,o1,Ky,o0,Nb,Li,Lk,o0,o1,JK,Ax,Mg,o0,o1,FE,o0,Bf,Fi,CI,o0,o1,IY,o0,IZ,Cf,EM,o0,o1,KP,DY,MC,o0,o1,Gu,o0,BN,CU,G5,o0,gD,(Fg P),o0,GM,zV,E9,Ls,o0,o1,LP,o0,Ai,Mt,HN,o0,o1,CQ,o0,Ie,DB,K0,o0,o1,Fj,o0,IS,IM,Le,o0,o1,yp,o0,zQ,FL,JW,Mc,(Nw P),AO,y9,JS,Ln,Hh,CM,gD,(C2 P),o0,yy,Bn,MT,o0,o1,Ce,o0,N6,yL,Ca,o0,o1,LM,o0,E7,yv,JV,o0,o1,NT,o0,Iy,Kn,FN,o0,o1,D6,o0,Dk,Ml,yC,Bm,(NZ P),IE,HE,Mf,o0,o1,NW,BF,Hi,o0,o1,Jk,o0,E2,Gx,Gn,o0,o1,Cn,o0,Mj,A5,GB,o0,o1,Ha,o0,EA,FC,Dv]
def s2(w:World)(os:OsState):SharedT:=⟨t2 w.params,918,⟨[],[],[],0,[],[],false,#[],[],0,false,false,false,0,[2000,10,10],false,0,true,[],[],0,false⟩,#[],⟨0,0,0,0⟩,1457,os⟩
def l1:List Stmt:=(bi.drop 78).take 46
theorem r1(w:World)(os:OsState):
  segRunT treeTable pw w 11 an 1 3590 (s1 w os) (piecesOf l1 ev cd ⟨217,0,230,36⟩ bk) =
  some (.next,s2 w os,cd,⟨540,0,550,21⟩):=
 byRow2 "special-get-raises" (P:=fun w=>segRunT treeTable pw w 11 an 1 3590 (s1 w os) (piecesOf l1 ev cd ⟨217,0,230,36⟩ bk)=some (.next,s2 w os,cd,⟨540,0,550,21⟩)) (fun w=>by kernel_rfl) (fun w=>by kernel_rfl) w
def wy(P:Params):=di (de P "__name__" 165 ie::(mq P++[dr P "_law_whole" 1463 924,dr P "_law_start" 1470 931,dr P "_law_last" 1478 938,dr P "_law_year" 1486 945,dr P "_law_put" 1504 952,dr P "_law_weekly" 1513 959,dr P "_law_monthly" 1522 966,dr P "_law_rare" 1530 973,dr P "_law_puts" 1536 978,dr P "_law_in_year" 1542 983,dr P "_law_moments" 1555 990,dr P "_law_put_at" 1561 995,dr P "_law_local" 1569 1002,dr P "_law_true" 1583 1009,dr P "_law_clock" 1589 1014,dr P "_law_due" 1595 1019,dr P "_law_right" 1607 1026,dr P "law" 1613 1031])) 137
def wX:=fD 0 [(1,20),(5,27),(7,40),(9,52),(13,71),(17,90),(20,102),(26,110),(28,117),(30,124),(33,131),(37,138),(41,143),(46,150),(51,157),(59,164),(63,169),(65,176),(70,183),(78,190),(81,197),(83,204),(89,211),(100,218),(102,225),(104,230),(107,237),(112,242),(114,249),(118,254),(124,261),(129,266),(131,273),(133,280),(140,285),(147,292),(154,299),(162,306),(176,311),(187,318),(189,325),(191,332),(198,339),(200,346),(207,374),(217,407),(231,441),(243,474),(250,500),(263,533),(277,566),(287,599),(292,606),(304,613),(307,620),(319,627),(337,634),(344,641),(361,652),(366,659),(374,666),(423,750),(430,757),(435,762),(446,769),(450,776),(461,781),(465,788),(469,795),(476,800),(486,807),(496,814),(509,857),(528,895),(532,902),(536,909),(540,916),(551,923),(553,930),(555,937),(559,944),(566,951),(578,958),(581,965),(584,972),(587,977),(600,982),(616,989),(632,994),(638,1001),(640,1008),(646,1013),(648,1018),(654,1025),(664,1030)]
def tX:=tS 1460 ["_law_found"]
def uO:=fY "_law_whole" 124
def xE:=cP "_law_whole" 1457 551 1 3 918 1461
def xJ:=fP "_law_whole" 124 ie 923
def vh:=tS 1467 ["_law_year_here"]
def yd:=fY "_law_start" 125
def vD:=cP "_law_start" 1464 553 1 3 925 1468
def tE:=fP "_law_start" 125 ie 930
def vk:=tS 1474 ["_law_year_here","_law_month"]
def vZ:=fY "_law_last" 126
def xF:=cP "_law_last" 1471 555 2 3 932 1476
def xx:=fP "_law_last" 126 ie 937
def xf:=tS 1482 ["_law_number","_law_year_here"]
def uN:=fY "_law_year" 127
def xK:=cP "_law_year" 1479 559 1 3 939 1484
def vI:=fP "_law_year" 127 ie 944
def uE:=tS 1490 ["_law_parts","_law_month","_law_minute","_law_hour","_law_sort","_law_day","_law_named","_law_number","_law_on","_law_days","_law_names","_law_text"]
def wA:=fY "_law_put" 128
def vw:=cP "_law_put" 1487 566 2 3 946 1502
def tR:=fP "_law_put" 128 ie 951
def sO:=tS 1508 ["_law_parts","_law_named","_law_text"]
def wY:=fY "_law_weekly" 129
def xY:=cP "_law_weekly" 1505 578 2 3 953 1511
def xa:=fP "_law_weekly" 129 ie 958
def ux:=tS 1517 ["_law_parts","_law_day","_law_text"]
def sZ:=fY "_law_monthly" 130
def wK:=cP "_law_monthly" 1514 581 2 3 960 1520
def xb:=fP "_law_monthly" 130 ie 965
def xM:=tS 1526 ["_law_parts","_law_text"]
def wO:=fY "_law_rare" 131
def vT:=cP "_law_rare" 1523 584 1 3 967 1528
def ui:=fP "_law_rare" 131 ie 972
def u5:=fY "_law_puts" 132
def uq:=co [(.str "_law_puts" 1531),(.str "_law_puts" 1532),(sf 1533),(i 587),(i 2),(i 0),(i 0),(i 3),(r 974),(.bool true),(i 181),(r 975),.none,.none,.none,(r 976),(i 1534),(i 587),(sf 1535)]
def yf:=fP "_law_puts" 132 ie 977
def vU:=fY "_law_in_year" 133
def yc:=co [(.str "_law_in_year" 1537),(.str "_law_in_year" 1538),(sf 1539),(i 600),(i 2),(i 0),(i 0),(i 3),(r 979),(.bool true),(i 181),(r 980),.none,.none,.none,(r 981),(i 1540),(i 600),(sf 1541)]
def wu:=fP "_law_in_year" 133 ie 982
def wG:=tS 1546 ["_law_put_here","_law_true_here","_law_last_here","_law_year_here","_law_found","_law_back","_law_moment"]
def wJ:=fY "_law_moments" 134
def wU:=cP "_law_moments" 1543 616 2 3 984 1553
def vm:=fP "_law_moments" 134 ie 989
def ut:=fY "_law_put_at" 135
def xN:=co [(.str "_law_put_at" 1556),(.str "_law_put_at" 1557),(sf 1558),(i 632),(i 2),(i 0),(i 0),(i 3),(r 991),(.bool true),(i 181),(r 992),.none,.none,.none,(r 993),(i 1559),(i 632),(sf 1560)]
def uD:=fP "_law_put_at" 135 ie 994
def vQ:=tS 1565 ["_law_puts_here","_law_true_here"]
def tH:=fY "_law_local" 136
def x6:=cP "_law_local" 1562 638 2 3 996 1567
def xy:=fP "_law_local" 136 ie 1001
def vX:=tS 1573 ["_law_cell","_law_puts_here","_law_mixed","_law_near","_law_year_here","_law_at","_law_on","_law_moment"]
def x5:=fY "_law_true" 137
def ua:=cP "_law_true" 1570 640 3 3 1003 1581
def uf:=fP "_law_true" 137 ie 1008
def ve:=fY "_law_clock" 138
def wW:=co [(.str "_law_clock" 1584),(.str "_law_clock" 1585),(sf 1586),(i 646),(i 1),(i 0),(i 0),(i 3),(r 1010),(.bool true),(i 181),(r 1011),.none,.none,.none,(r 1012),(i 1587),(i 646),(sf 1588)]
def tN:=fP "_law_clock" 138 ie 1013
def xq:=fY "_law_due" 139
def xP:=co [(.str "_law_due" 1590),(.str "_law_due" 1591),(sf 1592),(i 648),(i 2),(i 0),(i 0),(i 3),(r 1015),(.bool true),(i 181),(r 1016),.none,.none,.none,(r 1017),(i 1593),(i 648),(sf 1594)]
def uR:=fP "_law_due" 139 ie 1018
def wC:=tS 1599 ["_law_clock_here","_law_puts_here","_law_local_here","_law_found","_law_due_here","_law_one"]
def tL:=fY "_law_right" 140
def uF:=cP "_law_right" 1596 654 3 3 1020 1605
def xW:=fP "_law_right" 140 ie 1025
def sM:=fY "law" 141
def uM:=co [(.str "law" 1608),(.str "law" 1609),(sf 1610),(i 664),(i 1),(i 0),(i 0),(i 3),(r 1027),(.bool true),(i 181),(r 1028),.none,.none,.none,(r 1029),(i 1611),(i 664),(sf 1612)]
def ur:=fP "law" 141 ie 1030
def hL(P:Params):List Obj:=lM P (wy P) wX Cj++[jD,gD,(HB P),o0,DF,Lz,Gq,o0,o1,zu,o0,K3,AW,Bt,o0,o1,Bi,o0,yi,JN,Jv,o0,o1,AX,o0,MS,Jo,EC,LJ,(Cb P),CB,Nm,JQ,jD,gD,(C0 P),o0,Lx,Nu,JZ,o0,o1,Kx,o0,MW,B5,yV,o0,o1,Ez,o0,Fo,Kk,HC,o0,(BG P),IK,Mo,AQ,jD,gD,(zK P),o0,L6,Du,Nk,o0,o1,zD,o0,Ek,zh,Lb,o0,o1,M6,o0,K9,Fl,Ms,o0,o1,DO,o0,HH,F7,Jb,Dc,(Al P),Nd,MR,NV,jD,gD,(Hc P),o0,IB,Cw,NM,o0,o1,Hv,o0,M2,AN,Ni,o0,o1,zX,o0,Hf,FU,B0,o0,o1,KW,o0,KQ,zT,LZ,Ib,(yP P),DZ,Bv,yq,jD,gD,(NO P),o0,Ja,Np,Lh,o0,o1,Et,o0,Ea,EX,EF,o0,o1,AZ,o0,FM,AV,yg,o0,o1,NX,o0,Mx,Ah,Dt,Jp,(B1 P),D0,yO,Fh,o0,o1,LB,o0,zP,GK,zi,o0,o1,Ma,o0,yJ,Ol,M9,o0,o1,MO,o0,Ny,yR,Kp,o0,o1,Lv,o0,Aw,EK,Oa,o0,o1,IR,o0,AJ,Hs,LW,o0,o1,EL,o0,Ku,F4,An,o0,o1,Oj,o0,AH,Dp,Mh,MI,E8,Gv,Da,o0,o1,K7,o0,DE,N1,yn,o0,o1,Dg,o0,NS,Cm,N8,o0,gD,(Aa P),o0,Bl,De,G7,o0,o1,Jl,o0,Aj,Fe,Jc,o0,o1,MJ,o0,EJ,Mp,E5,o0,o1,AA,o0,HK,On,zS,o0,o1,Hn,o0,KL,Mi,Me,o0,o1,CO,o0,Gy,yS,C1,o0,o1,zU,o0,JY,IP,HR,o0,o1,zG,o0,K6,Mb,Lu,o0,o1,FK,o0,DX,zH,IU,o0,o1,Gb,o0,Ir,CK,J2,o0,o1,DQ,o0,Hy,HA,zg,Lj,(MA P),D5,KE,IX,GX,zq,o0,o1,Hk,o0,Bs,NH,HL,o0,o1,LG,o0,Gk,Ae,ET,o0,o1,HD,Dj,Dy,o0,o1,CS,o0,BL,M8,Kv,o0,o1,Ky,o0,Nb,Li,Lk,o0,o1,JK,Ax,Mg,o0,o1,FE,o0,Bf,Fi,CI,o0,o1,IY,o0,IZ,Cf,EM,o0,o1,KP,DY,MC,o0,o1,Gu,o0,BN,CU,G5,o0,gD,(Fg P),o0,GM,zV,E9,Ls,o0,o1,LP,o0,Ai,Mt,HN,o0,o1,CQ,o0,Ie,DB,K0,o0,o1,Fj,o0,IS,IM,Le,o0,o1,yp,o0,zQ,FL,JW,Mc,(Nw P),AO,y9,JS,Ln,Hh,CM,gD,(C2 P),o0,yy,Bn,MT,o0,o1,Ce,o0,N6,yL,Ca,o0,o1,LM,o0,E7,yv,JV,o0,o1,NT,o0,Iy,Kn,FN,o0,o1,D6,o0,Dk,Ml,yC,Bm,(NZ P),IE,HE,Mf,o0,o1,NW,BF,Hi,o0,o1,Jk,o0,E2,Gx,Gn,o0,o1,Cn,o0,Mj,A5,GB,o0,o1,Ha,o0,EA,FC,Dv,o0,o1,tX,o0,uO,xE,xJ,o0,o1,vh,o0,yd,vD,tE,o0,o1,vk,o0,vZ,xF,xx,o0,o1,xf,o0,uN,xK,vI,o0,o1,uE,o0,wA,vw,tR,o0,o1,sO,o0,wY,xY,xa,o0,o1,ux,o0,sZ,wK,xb,o0,o1,xM,o0,wO,vT,ui,o0,o1,u5,uq,yf,o0,o1,vU,yc,wu,o0,o1,wG,o0,wJ,wU,vm,o0,o1,ut,xN,uD,o0,o1,vQ,o0,tH,x6,xy,o0,o1,vX,o0,x5,ua,uf,o0,o1,ve,wW,tN,o0,o1,xq,xP,uR,o0,o1,wC,o0,tL,uF,xW,o0,o1,sM,uM,ur]
def t3(P:Params):BT:=oG 12 (hL P)
def s3(w:World)(os:OsState):SharedT:=⟨t3 w.params,1032,⟨[],[],[],0,[],[],false,#[],[],0,false,false,false,0,[2000,10,10],false,0,true,[],[],0,false⟩,#[],⟨0,0,0,0⟩,1614,os⟩
def l2:List Stmt:=(bi.drop 124).take 18
theorem r2(w:World)(os:OsState):
  segRunT treeTable pw w 11 an 1 542 (s2 w os) (piecesOf l2 ev cd ⟨540,0,550,21⟩ bk) =
  some (.next,s3 w os,cd,⟨664,0,677,15⟩):=by kernel_rfl
def hF(P:Params):Heap:=⟨⟨hL P⟩,⟨[],[],[],0,[],[],false,#[],[],0,false,false,false,0,[2000,10,10],false,0,true,[],[],0,false⟩⟩
def sF(w:World)(os:OsState):Shared:=⟨hF w.params,#[],⟨0,0,0,0⟩,1614,os⟩
theorem fU(w:World)(os:OsState):
  topRun treeTable pw w 11 an 2 (s3 w os).abs (restOf [] ev cd ⟨664,0,677,15⟩ bk) =
  some (sF w os):=by kernel_rfl
theorem VJ:bi=(l0++(l1++(l2++[]))):=by kernel_rfl
theorem run(w:World)(os:OsState):topRun treeTable pw w 11 an (12+(1+(3408+(3590+(542+(2)))))) ⟨boot_heap w.params,⟨[]⟩,boot_drawn,boot_toks,os⟩ (topStub pw)=some (sF w os):=by
 refine go_top (pre w os) (piece_block (Zy w os) ?_)
 rw[VJ]
 exact (piece_app (segRun_of (r0 w os)) (piece_app (segRun_of (r1 w os)) (piece_app (segRun_of (r2 w os)) (fU w os))))
theorem RF:∀w:World,(fencedOpening treeTable pw w 15200).map (fun s=>(s.heap,s.gens,s.drawn,s.toks))=some (boot_heap w.params,⟨[]⟩,boot_drawn,boot_toks):=
 boot_open (by kernel_rfl) rfl (fun s=>by kernel_rfl)
theorem siz(w:World):((boot_heap w.params).isNs mainGlobals&&(⟨[]⟩:Array GenState).size==0,(boot_heap w.params).objs.size,(boot_heap w.params).nsMap mainGlobals "__annotations__")=(true,11,an):=by kernel_rfl
end
end
theorem Sy{q:Program}{loose mods:List Str}{Xt:Shared->Bool}{s:Shared}
  (e1:seen ((recsOf q).map (·.name)) (ownsOf q) [] {s with gens:= #[]}=expectedOf q) (e2:s.heap.bltView=bltViewBooted)
  (a1:s.heap.keysOk (looseW q loose) ((recsOf q).map (·.name)) ((litsOf q).map (·.1)) ((clssOf q (looseW q loose)).map (·.name))=true)
  (a2:s.heap.accountedOkI mods=true) (a3:s.heap.isNs mainGlobals=true) (a4:s.heap.isNs builtinsNs=true)
  (a5:tablesOk q s.heap=true) (a6:Xt s=true) (a7:(s.gens.size==0)=true) (e4:tabsOk q s=true)
  (e5:pinSeenD q (drecsOf q) s=pinGoodD (drecsOf q)) (e6:plainSeenE q (looseW q loose) s=plainGoodE q (looseW q loose))
  (e7:plainSeenD q loose s=plainGoodD q loose) (e8:wideSeen q s=wideGood q) (e9:clsSeenW q loose s=clsGoodW q loose):
  openSeen q loose mods Xt true s=openGood q loose:=by
 unfold openSeen openGood
 rw[e1,e2,a1,a2,a3,a4,a5,a6,if_pos rfl,a7,e4,e5,e6,e7,e8,e9];rfl
noncomputable def tA{α:Type}(n:Nat):List α->List α:=Nat.rec (fun _=>[]) (fun _ ih l=>List.rec [] (fun a as _=>a::ih as) l) n
noncomputable def tB{α:Type}(n:Nat):List α->List α:=Nat.rec (fun _=>[]) (fun _ ih l=>List.rec [] (fun a as _=>a::ih as) l) n
noncomputable def dA{α:Type}(n:Nat):List α->List α:=Nat.rec (fun l=>l) (fun _ ih l=>List.rec [] (fun _ as _=>ih as) l) n
noncomputable def dB{α:Type}(n:Nat):List α->List α:=Nat.rec (fun l=>l) (fun _ ih l=>List.rec [] (fun _ as _=>ih as) l) n
theorem qo{α:Type}:∀(n:Nat) {l r:List α},tA n l=tB n r->dA n l=dB n r->l=r
 |0,_,_,_,h=>h
 |n+1,l,r,h1,h2=>by
  cases l with
  |nil=>
   cases r with
   |nil=>rfl
   |cons b s=>cases h1
  |cons a l=>
   cases r with
   |nil=>cases h1
   |cons b s=>
    injection h1 with e1 e2
    rw[e1,qo n e2 h2]
noncomputable def gv:Program:=view PySem.Challenge.pw_fivefields_k83_readings [0,2,3,4,5,6,8,10,11,12,13,14,15,16,17,18,19,20,21,23,24,25,27,28,29,31,32,33,34,35,36,37,38,39,41,42,43,44,45,46,47,49,50,51,52,53,54,55,56,57,58,59,61,63,64,65,66,67,68,69,70,71,72,73,74,75,76,77,78,79,80,81,82,83,84,85,86,87,88,89,91,92,93,94,95,96,97,98,99,100,101,102,103,104,106,107,108,109,110,111,112,113,114,115,116,117,119,121,122,123,124,125,126,127,128,129,130,131,132,133,134,135,136,137,138,139,140,141]
noncomputable def free:List Str:=[Str.ofString "Last",Str.ofString "BOUNDS"]
noncomputable def read:List (Str×WData):=[]
section
set_option maxHeartbeats 0
set_option maxRecDepth 100000
noncomputable section
def XT:Shared->Bool:=fun z=>xlAt gv read z&&recOk (RowW.records (OpenRow.toRowW (OpenLaw.row PySem.Challenge.rw_fivefields_k83_readings))) z
abbrev SE(w:World)(os:OsState):=openSeen gv free (importedModules pw.main.body) XT true (sF w os)
section
variable(w:World)(os:OsState)
theorem z1:seen ((recsOf gv).map (·.name)) (ownsOf gv) [] {sF w os with gens:= #[]}=expectedOf gv:=by kernel_rfl
theorem z2:(sF w os).heap.bltView=bltViewBooted:=by kernel_rfl
theorem y1:(sF w os).heap.keysOk (looseW gv free) ((recsOf gv).map (·.name)) ((litsOf gv).map (·.1)) ((clssOf gv (looseW gv free)).map (·.name))=true:=by kernel_rfl
theorem y2:(sF w os).heap.accountedOkI (importedModules pw.main.body)=true:=by kernel_rfl
theorem y3:(sF w os).heap.isNs mainGlobals=true:=by kernel_rfl
theorem y4:(sF w os).heap.isNs builtinsNs=true:=by kernel_rfl
theorem y5:tablesOk gv (sF w os).heap=true:=by kernel_rfl
theorem y6:XT (sF w os)=true:=by kernel_rfl
theorem y7:((sF w os).gens.size==0)=true:=by kernel_rfl
theorem z4:tabsOk gv (sF w os)=true:=by kernel_rfl
theorem z5:pinSeenD gv (drecsOf gv) (sF w os)=pinGoodD (drecsOf gv):=by kernel_rfl
theorem z6:plainSeenE gv (looseW gv free) (sF w os)=plainGoodE gv (looseW gv free):=by kernel_rfl
theorem z7:plainSeenD gv free (sF w os)=plainGoodD gv free:=by kernel_rfl
theorem z8:wideSeen gv (sF w os)=wideGood gv:=by kernel_rfl
theorem z9:clsSeenW gv free (sF w os)=clsGoodW gv free:=by kernel_rfl
theorem look:SE w os=openGood gv free:=Sy (q:=gv) (loose:=free) (mods:=importedModules pw.main.body) (Xt:=XT) (s:=sF w os) (z1 w os) (z2 w os) (y1 w os) (y2 w os) (y3 w os) (y4 w os) (y5 w os) (y6 w os) (y7 w os) (z4 w os) (z5 w os) (z6 w os) (z7 w os) (z8 w os) (z9 w os)
end
theorem OH(w:World)(os:OsState):(staticsOk (importedModules pw.main.body) (boot_heap w.params) (hF w.params)&&namesBound pw (hF w.params)
  &&gensDone (sF w os)&&laidKept (boot_heap w.params) (hF w.params))=true:=by kernel_rfl
section
set_option Elab.async false
local macro_rules
  | `(tactic| o_head $H) => `(tactic| (have kk := $H; assumption))
theorem d0(h:PySem.Challenge.rw_fivefields_k83_readings.row.Holds):PySem.Challenge.rw_fivefields_k83_readings.row.Holds:=by
 w_on
 k_head
end
def kL(w:World)(os:OsState):List (Option Obj):=((d0.heap_1 w.params).map fun p=>p.1).map (sF w os).heap.get?
def kR(w:World):List (Option Obj):=(d0.heap_1 w.params).map fun p=>some p.2
theorem k0(w:World)(os:OsState):tA 220 (kL w os)=tB 220 (kR w):=by kernel_rfl
theorem k1(w:World)(os:OsState):tA 220 (dA 220 (kL w os))=tB 220 (dB 220 (kR w)):=by kernel_rfl
theorem k2(w:World)(os:OsState):tA 220 (dA 220 (dA 220 (kL w os)))=tB 220 (dB 220 (dB 220 (kR w))):=by kernel_rfl
theorem k3(w:World)(os:OsState):tA 220 (dA 220 (dA 220 (dA 220 (kL w os))))=tB 220 (dB 220 (dB 220 (dB 220 (kR w)))):=by kernel_rfl
theorem k4(w:World)(os:OsState):(dA 220 (dA 220 (dA 220 (dA 220 (kL w os)))))=(dB 220 (dB 220 (dB 220 (dB 220 (kR w))))):=by kernel_rfl
theorem kk(w:World)(os:OsState):((d0.heap_1 w.params).map fun p=>p.1).map (sF w os).heap.get? =(d0.heap_1 w.params).map fun p=>some p.2:=qo 220 (k0 w os) (qo 220 (k1 w os) (qo 220 (k2 w os) (qo 220 (k3 w os) (k4 w os))))
abbrev rR:OpenRow:=OpenLaw.row PySem.Challenge.rw_fivefields_k83_readings
def as0:List Addr:=(d0.heap_1 {strHash:=fun _=>0,shareClass:=fun _=>0,mergeTok:=fun t=>t,idOf:=fun _=>0,idOfShared:=fun _ _=>0,followText:=fun _=>true,idOfImm:=fun _=>0}).map (·.1)
theorem oo(P:Params):as0=(d0.heap_1 P).map (·.1):=by kernel_rfl
theorem Tf:LeftO rR.prog gv free XT (kHook d0.heap_1 as0 oo).obs (kHook d0.heap_1 as0 oo).val 15200:=by
 refine LeftO.of_pieces RF siz run rfl ?_
 intro w
 funext os
 refine looks_pair (OH w os) (looks_pair (look w os) ?_)
 show as0.map (sF w os).heap.get? =(d0.heap_1 w.params).map fun p=>some p.2
 rw[oo w.params]
 exact kk w os
theorem dS:(defOf gv rR.name).isSome=true:=by kernel_rfl
def dL:DefRec:=((defOf gv rR.name).get dS).1
theorem h1:defOf gv rR.name=some (dL,[]):=by kernel_rfl
theorem h2:rR.prog.theDef rR.name=some (dL.params,dL.body,dL.scope):=by kernel_rfl
theorem h3:kwWritten? dL.params.kwonlyargs dL.params.kw_defaults=some []:=by kernel_rfl
theorem h4:dL.params.defaults=[]:=by kernel_rfl
theorem h5:dL.name="law":=by kernel_rfl
theorem h6:(!rR.writes||rR.records.isEmpty)=true:=by kernel_rfl
theorem h7:(chainsOk gv&&opensWell rR.prog&&(frees rR.toRowW&&rR.within.isEmpty))=true:=by decide +kernel
theorem h8:rR.prog.bare:=⟨rfl,rfl,rfl,rfl,rfl,by decide +kernel⟩
theorem lst(said:rR.wellSaid=true)(hw:rR.toRowW.promised)
  (hc:WalkO gv free (XL gv read) (kHook d0.heap_1 as0 oo).says rR.toRowW dL [] fun f vs=>PySem.call f vs):rR.Holds:=
 holds_open (q:=gv) (loose:=free) (Xt:=XT) (XP:=XL gv read) Tf (kHook d0.heap_1 as0 oo).of (kHook d0.heap_1 as0 oo).keeps
  (fun z y=>xl_of z (Bool.and_eq_true_iff.mp y).1) XL.keeps h1 h2 h3 (fun z y=>recFacts_of (Bool.and_eq_true_iff.mp y).2) h6 said h7 h8 hw hc
end
end
end Hd
local macro_rules
  | `(⟨$xs,*⟩)=>do
    let s:=xs.getElems
    if s.any (fun y=>match y with|`(())=>true|`((()))=>true|_=>false) then
      let mut z:Array (Lean.TSyntax `term):=#[]
      for y in s do
        match y with
        | `(())=>z:=(z.push (<-`(_))).push (<-`(rfl))
        | `((()))=>z:=(((z.push (<-`(_))).push (<-`(_))).push (<-`(rfl))).push (<-`(rfl))
        | _=>z:=z.push y
      `(⟨$z,*⟩)
    else Lean.Macro.throwUnsupported
local macro_rules
  | `(⋯)=>`(by omega)
local macro_rules
  | `(tactic|trivial)=>`(tactic|(intro _ _ _ _ h;first|(cases h;subst_vars;rfl)|(repeat first|(have e:=h.1;subst e;rfl)|obtain⟨_,h⟩:=h)))
set_option Elab.async false
set_option linter.all false
set_option maxRecDepth 100000
namespace L2
open PySem PySem.Spec PyProof.Rows
abbrev FG:=PySem.W.Frag
abbrev d9:=@wpAny_call_entry
abbrev eA:=@wpAny_passesOwn
abbrev eC:=@wpAny_newObj_type
abbrev eE:=@wpAny_bind
abbrev eG:=@wpAny_mono
abbrev eH:=@wpAny_setState_of
abbrev eJ:=@sizeLine_eq
abbrev eK:=@wpAny_holding
abbrev eP:=@codeAny_mono
abbrev eQ:=@of_decide_eq_true
abbrev eS:=@decide_eq_true
abbrev eU:=@decide_eq_true_eq
abbrev eV:=@decide_eq_false
abbrev eW:=@wpAny_Call_Name_kw
abbrev eX:=@wpAny_pure
abbrev eY:=@wpAny_truthy_bool
abbrev aP:=@Nat.le_refl
abbrev aQ:=@List.length_map
abbrev aR:=@Heap.lt_size
abbrev aS:=@Heap.get?_push_of_some
abbrev aT:=@List.mem_cons
abbrev aU:=@Nat.ne_of_lt
abbrev aV:=@List.length_append
abbrev aW:=@List.mem_singleton
abbrev aX:=@List.getElem?_map
abbrev aY:=@List.map_append
abbrev aZ:=@Int.le_refl
abbrev a8:=@List.mem_cons_self
abbrev a9:=@Nat.zero_le
abbrev bA:=@List.mem_of_getElem?
abbrev bB:=@List.getElem?_eq_some_iff
abbrev bC:=@List.getElem?_eq_getElem
abbrev bD:=@Heap.get?_push_size
abbrev bE:=@List.size_toArray
abbrev bF:=@Int.eq_ofNat_of_zero_le
abbrev bG:=@List.mem_map
abbrev bH:=@Option.some.inj
abbrev bI:=@Bool.false_ne_true
abbrev bJ:=@Nat.lt_of_lt_of_le
abbrev bK:=@Nat.le_trans
abbrev bL:=@Bool.and_eq_true
abbrev bM:=@List.mem_cons_of_mem
abbrev bN:=@List.length_cons
abbrev bO:=@Array.length_toList
abbrev bP:=@Int.toNat_natCast
abbrev bQ:=@List.take_length
abbrev bR:=@List.mem_append_right
abbrev bS:=@List.mem_append
abbrev bT:=@List.map_cons
abbrev bU:=@Nat.lt_or_ge
abbrev bV:=@Int.toNat_of_nonneg
abbrev bW:=@List.mem_range
abbrev bX:=@List.any_cons
abbrev bY:=@List.length_range
abbrev bZ:=@List.cons_ne_nil
abbrev b6:=@Array.getElem?_toList
abbrev b7:=@List.not_mem_nil
abbrev b8:=@List.length_singleton
abbrev b9:=@Nat.lt_succ_of_lt
abbrev cA:=@Int.le_of_lt
abbrev cB:=@List.take_add_one
abbrev cC:=@List.append_nil
abbrev cD:=@Nat.le_succ
abbrev cE:=@List.length_take
abbrev cF:=@Heap.get?_update_other
abbrev cG:=@List.all_eq_true
abbrev cH:=@List.take_succ
abbrev cI:=@Array.getElem?_eq_getElem
abbrev cJ:=@Option.map_eq_some_iff
abbrev cL:=@Nat.lt_irrefl
abbrev cM:=@List.mem_append_left
abbrev cN:=@Heap.size_push
abbrev cQ:=@Heap.get?_update_self
abbrev cR:=@Bool.eq_iff_iff
abbrev cS:=@Nat.lt_succ_self
abbrev cT:=@List.getElem?_append_right
abbrev cU:=@List.length_drop
abbrev cV:=@List.pairwise_append
abbrev cW:=@List.map_map
abbrev cX:=@List.pairwise_cons
abbrev cY:=@List.getElem?_append_left
abbrev cZ:=@Nat.lt_of_le_of_lt
abbrev c7:=@List.append_assoc
abbrev c8:=@Int.lt_or_eq_of_le
abbrev c9:=@List.getElem?_of_mem
abbrev dC:=@List.filterMap_cons
abbrev dD:=@Int.natCast_nonneg
abbrev dE:=@List.any_eq_false
abbrev dF:=@List.length_replicate
abbrev dG:=@List.lookup_cons
abbrev dH:=@List.take_of_length_le
abbrev dI:=@Int.emod_nonneg
abbrev dJ:=@Nat.lt_trichotomy
abbrev dM:=@Nat.not_lt_zero
abbrev dN:=@List.range_succ
abbrev dO:=@Bool.or_eq_true
abbrev dP:=@Nat.le_add_right
abbrev dQ:=@List.eq_nil_of_length_eq_zero
abbrev dR:=@List.find?_cons
abbrev dU:=@Heap.get?_update_ne
abbrev dW:=@Option.isSome_iff_exists
abbrev dX:=@Int.emod_lt_of_pos
abbrev dY:=@List.filterMap_append
abbrev dZ:=@List.pairwise_iff_getElem
abbrev d6:=@Int.lt_trichotomy
abbrev d7:=@List.getD_eq_getElem?_getD
abbrev d8:=@Array.getElem?_eq_none
noncomputable abbrev gi:=Sum Int Str
noncomputable def nX:gi->Value->Bool
 |.inl k,.bool b=>k==(if b then 1 else 0)
 |.inl k,v=>Value.isInt k v
 |.inr x,v=>Value.isStrOf x v
noncomputable def wz(w:World):gi->Int
 |.inl k=>hashInt k
 |.inr x=>hashStr w x
theorem lL:∀{k:gi} {v:Value},nX k v=true->(∃i t,k=Sum.inl i/\v=Value.int i t)∨(∃x t,k=Sum.inr x/\v=Value.str x t)∨(∃b:Bool,k=Sum.inl (if b then 1 else 0)/\v=Value.bool b)
 |.inl i,v,h=>by
  by_cases hb:∃b,v=.bool b
  ·obtain⟨b,rfl⟩:=hb;exact .inr (.inr ⟨b,congrArg Sum.inl (eq_of_beq (show (i==(if b then 1 else 0))=true from h)),rfl⟩)
  ·have h':Value.isInt i v=true:=by
    cases v<;>first | exact absurd ⟨_,rfl⟩ hb | exact h
   obtain⟨t,e⟩:=Value.isInt_shape (k:=i) (v:=v) h';exact .inl ⟨i,t,rfl,e⟩
 |.inr x,v,h=>by
  obtain⟨t,e⟩:=Value.isStrOf_shape (x:=x) (v:=v) h;exact .inr (.inl ⟨x,t,rfl,e⟩)
theorem ZH(i:Int)(t:Tok):nX (.inl i) (.int i t)=true:=by simp[nX,Value.isInt]
theorem RI(x:Str)(t:Tok):nX (.inr x) (.str x t)=true:=by simp[nX,Value.isStrOf]
theorem rj(a b:Int):decide ((Sum.inl a:gi)=Sum.inl b)=(a==b):=by
 by_cases e:a=b
 ·subst e;simp
 ·have h:¬(Sum.inl a:gi)=Sum.inl b:=λq=>e (Sum.inl.inj q);rw[eV h];exact (beq_eq_false_iff_ne.mpr e).symm
theorem Xf(a b:Str):decide ((Sum.inr a:gi)=Sum.inr b)=decide (a=b):=by
 by_cases e:a=b
 ·subst e;simp
 ·have h:¬(Sum.inr a:gi)=Sum.inr b:=λq=>e (Sum.inr.inj q);rw[eV h,eV e]
theorem yT(a:Int)(b:Str):decide ((Sum.inl a:gi)=Sum.inr b)=false:=eV (λq=>nomatch q)
theorem Ct(a:Str)(b:Int):decide ((Sum.inr a:gi)=Sum.inl b)=false:=eV (λq=>nomatch q)
theorem Rh{prog:Program}{w:World}{A:Around}{E:Value->Shared->Prop}{s:Shared}{b:Bool}{Q:Int->Shared->Prop}(h:Q (hashInt (if b then 1 else 0)) {s with toks:=s.toks+1}):wpAny (model prog w) A (pyHash (.bool b)) Q E s:=by
 refine PySem.W.pyHash_slot (T:="bool") rfl PySem.F.slot_bool_hash entry_int_hash (args_int_hash _) (beq_builtin_none _) (.inl rfl) ?_;cases b
 ·exact (show wpAny _ _ (do ret (←mkInt 0)) _ _ s from eE (wpAny_mkInt (eX ⟨_,(),h⟩)))
 ·exact (show wpAny _ _ (do ret (←mkInt 1)) _ _ s from eE (wpAny_mkInt (eX ⟨_,(),h⟩)))
noncomputable def mQ(prog:Program)(w:World):PySem.KeyKind prog w gi where
 is:=nX
 hash:=wz w
 inj:=λv a b ha hb=>by
  rcases lL ha with ⟨i,t,rfl,rfl⟩ | ⟨x,t,rfl,rfl⟩ | ⟨x,rfl,rfl⟩<;>rcases lL hb with ⟨j,u,rfl,e⟩ | ⟨y,u,rfl,e⟩ | ⟨y,rfl,e⟩<;>first | (injection e with e1 _;rw[e1]) | (injection e with e1;rw[e1]) | exact nomatch e
 byValue:=λk v h=>by
  rcases lL h with ⟨i,t,rfl,rfl⟩ | ⟨x,t,rfl,rfl⟩ | ⟨x,rfl,rfl⟩<;>rfl
 pyHash:=λhv h=>by
  rcases lL hv with ⟨i,t,rfl,rfl⟩ | ⟨x,t,rfl,rfl⟩ | ⟨x,rfl,rfl⟩
  ·exact wpAny_pyHash_int h
  ·exact wpAny_pyHash_str h
  ·exact Rh h
 eqBool:=λhu hv h=>by
  rcases lL hu with ⟨i,t,rfl,rfl⟩ | ⟨x,t,rfl,rfl⟩ | ⟨x,rfl,rfl⟩
  ·rcases lL hv with ⟨j,u,rfl,rfl⟩ | ⟨y,u,rfl,rfl⟩ | ⟨y,rfl,rfl⟩
   ·rw[rj] at h;exact wpAny_eqBool_int h
   ·rw[yT] at h;exact SeqAt.EqAt.int_str i t y u _ _ _ _ h
   ·rw[rj] at h;exact SeqAt.EqAt.int_bool i t y _ _ _ _ h
  ·rcases lL hv with ⟨j,u,rfl,rfl⟩ | ⟨y,u,rfl,rfl⟩ | ⟨y,rfl,rfl⟩
   ·rw[Ct] at h;exact SeqAt.EqAt.str_int x t j u _ _ _ _ h
   ·rw[Xf] at h;exact wpAny_eqBool_str h
   ·rw[Ct] at h;exact SeqAt.EqAt.str_bool x t y _ _ _ _ h
  ·rcases lL hv with ⟨j,u,rfl,rfl⟩ | ⟨y,u,rfl,rfl⟩ | ⟨y,rfl,rfl⟩
   ·rw[rj] at h;exact SeqAt.EqAt.bool_int x j u _ _ _ _ h
   ·rw[yT] at h;exact SeqAt.EqAt.bool_str x y u _ _ _ _ h
   ·rw[rj,show (((if x=true then 1 else 0:Int))==(if y=true then 1 else 0))=(x==y) by cases x<;>cases y<;>rfl] at h;exact SeqAt.EqAt.bool_bool x y _ _ _ _ h
 «strs»:=λk x t v h=>by
  rcases lL h with ⟨i,u,rfl,e⟩ | ⟨y,u,rfl,e⟩ | ⟨y,rfl,e⟩
  ·exact nomatch e
  ·injection e with e1 _;subst e1;cases v<;>rfl
  ·exact nomatch e
theorem Py(prog:Program)(w:World)(i:Int)(t:Tok):(mQ prog w).is (.inl i) (.int i t)=true:=ZH i t
theorem Sb(prog:Program)(w:World)(x:Str)(t:Tok):(mQ prog w).is (.inr x) (.str x t)=true:=RI x t
inductive V where
 |non | bl (b:Bool) | int (i:Int) | str (x:Str) | byt (b:Array UInt8) | flt (b:UInt64) | ref (a:Addr) | ty (n:String)
 deriving DecidableEq
def RelV:V->Value->Prop
 |.non,u=>u=Value.none
 |.bl b,u=>u=Value.bool b
 |.int i,u=>∃t,u=Value.int i t
 |.str x,u=>∃t,u=Value.str x t
 |.byt b,u=>∃t,u=Value.bytes b t
 |.flt b,u=>∃t,u=Value.float b t
 |.ref a,u=>u=Value.ref a
 |.ty n,u=>u=Value.type n
abbrev Vals:List V->List Value->Prop:=Paired RelV
theorem Vals.length{xs:List V}{us:List Value}(r:Vals xs us):xs.length=us.length:=Paired.length r
theorem Vals.get:∀{xs:List V} {us:List Value} {i:Nat} {x:V},Vals xs us->xs[i]? =some x->∃u,us[i]? =some u/\RelV x u
 |_,_,_,_,.nil,e=>by simp at e
 |_,_,0,_,.cons r _,e=>by simp at e;subst e;exact⟨(),r⟩
 |_,_,i+1,x,.cons _ t,e=>by
  obtain⟨u,h1,h2⟩:=Vals.get (i:=i) (x:=x) t (by simpa using e);exact⟨u,by simpa using h1,h2⟩
theorem Vals.set{x:V}{u:Value}(r:RelV x u):∀{xs:List V} {us:List Value} (i:Nat),Vals xs us->Vals (xs.set i x) (us.set i u)
 |_,_,_,.nil=>.nil
 |_,_,0,.cons _ t=>.cons r t
 |_,_,i+1,.cons q t=>.cons q (Vals.set r i t)
theorem Vals.append:∀{xs ys:List V} {us ws:List Value},Vals xs us->Vals ys ws->Vals (xs++ys) (us++ws)
 |_,_,_,_,.nil,s=>s
 |_,_,_,_,.cons r t,s=>.cons r (Vals.append t s)
theorem Vals.take:∀{xs:List V} {us:List Value} (n:Nat),Vals xs us->Vals (xs.take n) (us.take n)
 |_,_,0,_=>.nil
 |_,_,_+1,.nil=>.nil
 |_,_,n+1,.cons r t=>.cons r (Vals.take n t)
theorem Vals.drop:∀{xs:List V} {us:List Value} (n:Nat),Vals xs us->Vals (xs.drop n) (us.drop n)
 |_,_,0,r=>r
 |_,_,_+1,.nil=>.nil
 |_,_,n+1,.cons _ t=>Vals.drop n t
def RelO:Option V->Option Value->Prop
 |some v,some u=>RelV v u
 |none,none=>True
 |_,_=>False
def KV{κ:Type}:List (κ×V)->List (κ×Value)->Prop:=Paired λ(p:κ×V) (q:κ×Value)=>p.1=q.1/\RelV p.2 q.2
noncomputable def kV:gi->V
 |.inl i=>.int i
 |.inr x=>.str x
noncomputable def QT:V->Option gi
 |.int i=>some (.inl i)
 |.bl b=>some (.inl (if b then 1 else 0))
 |.str x=>some (.inr x)
 |_=>none
inductive HO where
 |lst (xs:List V)
 |tup (xs:List V)
 |dK (kvs:List (gi×V)) | dT (kvs:List (List gi×V))
 |set (S:Int->Bool) (n:Nat)
 |ins (C dx:Addr) (fs:List (Str×V))
 |own (x:Addr)
 |xd (fs:List (Str×V))
 |met (f x:Addr)
 |rng (lo hi:Int)
 |frz (o:Obj) (u:HO)
 |tbl (ps:Array Value)
 |ext (φ:Heap->Prop)
noncomputable abbrev Hp:=Addr->Option HO
noncomputable def upd(H:Hp)(a:Addr)(o:HO):Hp:=λb=>if b=a then some o else H b
theorem fk{H:Hp}{a:Addr}{o:HO}:upd H a o a=some o:=by unfold upd;rw[if_pos rfl]
theorem fG{H:Hp}{a b:Addr}{o:HO}(h:b≠a):upd H a o b=H b:=by unfold upd;rw[if_neg h]
theorem Ry{H:Hp}{a b:Addr}{o u:HO}(h:H a=some o)(h':H b=some u)(d:o≠u):a≠b:=by
 intro e;subst e;rw[h] at h';exact d (bH h')
theorem g6{H:Hp}{a b:Addr}{o:HO}(h:H a=some o)(h':H b=none):a≠b:=by
 intro e;subst e;rw[h] at h';cases h'
def TupK(H:Hp)(b:Addr)(ks:List gi):Prop:=∃ys,H b=some (.tup ys)/\ys.map QT=ks.map some
theorem TupK.keeps{H H':Hp}{b:Addr}{ks:List gi}(x:TupK H b ks)(ht:∀b xs,H b=some (.tup xs)->H' b=some (.tup xs)):TupK H' b ks:=let ⟨ys,e,r⟩:=x;⟨ys,ht _ _ e,r⟩
section
variable(P:Program)(w:World)
def ObjOk(H:Hp)(h:Heap)(a:Addr):HO->Prop
 |.lst xs=>xs.length<=sizeLine/\∃(its:List Value) (n:Nat),Vals xs its/\h.get? a=some {cls:=.type "list",data:=.seq its.toArray n}
 |.tup xs=>xs.length<=sizeLine/\∃its:List Value,Vals xs its/\IsTup h a its.toArray
 |.dK kvs=>kvs.length<=sizeLine/\(a==sysModules)=false/\∃vs,KV kvs vs/\h.DictOf (mQ P w) a vs
 |.dT kvs=>kvs.length<=sizeLine/\(a==sysModules)=false/\∃xs:List (List gi×Addr×Value),
   Paired (λ(p:List gi×V) (q:List gi×Addr×Value)=>p.1=q.1/\TupK H q.2.1 p.1/\RelV p.2 q.2.2) kvs xs/\
   ∃o es ep,h.get? a=some o/\o.ExactDict/\o.data=.dict es ep/\es.toList=xs.map (entryOfKey (tupleKind (mQ P w)))/\(xs.map (·.1)).Nodup
 |.set S n=>h.SetOf (intKind P w) a S n
 |.ins C dx fs=>H dx=some (.own a)/\fs.length<=1000/\dx≠a/\h.get? a=some (PySem.W.instObj C dx)/\
   ∃mA,h.Ns1 dx mA/\(∀f,RelO (fs.lookup f) (mA f))/\PySem.Within mA (fs.map (·.1))
 |.own _=>∃o,h.get? a=some o
 |.xd fs=>∃mA,h.Ns1 a mA/\∀f,RelO (fs.lookup f) (mA f)
 |.rng lo hi=>∃t u v,h.get? a=some {cls:=.type "range",data:=.fields #[.int lo t,.int hi u,.int 1 v]}
 |.frz o u=>h.get? a=some o/\ObjOk H h a u
 |.tbl ps=>h.get? a=some {cls:=.none,data:=.fields ps}
 |.met f x=>h.get? a=some (PySem.W.methodObj (.ref f) (.ref x))
 |.ext φ=>φ h/\(∃o,h.get? a=some o)/\∀h1 h2:Heap,φ h1->(∀o,h1.get? a=some o->h2.get? a=some o)->φ h2
def HOk(H:Hp)(h:Heap):Prop:=∀a o,H a=some o->ObjOk P w H h a o
end
section
variable{P:Program}{w:World}{H H':Hp}{h h':Heap}{a:Addr}{o:HO}
theorem ObjOk.lt(x:ObjOk P w H h a o):a<h.objs.size:=by
 cases o with
 |lst xs=>obtain⟨_,_,_,_,e⟩:=x;exact aR e
 |tup xs=>obtain⟨_,_,_,p⟩:=x;exact p.lt
 |dK kvs=>obtain⟨_,_,_,_,o,_,_,e,_⟩:=x;exact aR e
 |dT kvs=>obtain⟨_,_,_,_,o,_,_,e,_⟩:=x;exact aR e
 |set S n=>obtain⟨o,_,_,_,e,_⟩:=x;exact aR e
 |ins C dx fs=>obtain⟨_,_,_,e,_⟩:=x;exact aR e
 |own y=>obtain⟨_,e⟩:=x;exact aR e
 |xd fs=>obtain⟨_,⟨_,_,_,e,_⟩,_⟩:=x;exact aR e
 |rng lo hi=>obtain⟨_,_,_,e⟩:=x;exact aR e
 |frz ob u=>obtain⟨e,_⟩:=x;exact aR e
 |tbl ps=>exact aR (show h.get? a=some _ from x)
 |met f y=>exact aR (show h.get? a=some _ from x)
 |ext φ=>obtain⟨_,⟨_,e⟩,_⟩:=x;exact aR e
theorem Paired.mapP{α β:Type}{F G:α->β->Prop}:∀{l₁:List α} {l₂:List β},Paired F l₁ l₂->(∀a b,F a b->G a b)->Paired G l₁ l₂
 |_,_,.nil,_=>.nil
 |_,_,.cons r t,f=>.cons (f _ _ r) (Paired.mapP t f)
theorem Paired.imp'{α β:Type}{F G:α->β->Prop}(f:∀a b,F a b->G a b){l₁:List α}{l₂:List β}(r:Paired F l₁ l₂):Paired G l₁ l₂:=Paired.mapP r f
theorem ObjOk.stay(x:ObjOk P w H h a o)(k:∀b u,(b=a∨H b=some (.own a))->h.get? b=some u->h'.get? b=some u)
  (ho:∀b,H b=some (.own a)->H' b=some (.own a)) (ht:∀b xs,H b=some (.tup xs)->H' b=some (.tup xs)):ObjOk P w H' h' a o:=by
 induction o with
 |lst xs=>obtain⟨z,its,n,r,e⟩:=x;exact⟨z,its,n,r,k _ _ (.inl rfl) e⟩
 |tup xs=>obtain⟨z,its,r,ob,e,c⟩:=x;exact⟨z,its,r,ob,k _ _ (.inl rfl) e,c⟩
 |dK kvs=>obtain⟨z,y,vs,r,ob,es,ep,e,c⟩:=x;exact⟨z,y,vs,r,ob,es,ep,k _ _ (.inl rfl) e,c⟩
 |dT kvs=>
  obtain⟨z,y,xs,r,ob,es,ep,e,c⟩:=x;exact⟨z,y,xs,Paired.mapP r λp q z=>⟨z.1,z.2.1.keeps ht,z.2.2⟩,ob,es,ep,k _ _ (.inl rfl) e,c⟩
 |set S n=>obtain⟨ob,es,ep,t,e,c⟩:=x;exact⟨ob,es,ep,t,k _ _ (.inl rfl) e,c⟩
 |ins C dx fs=>
  obtain⟨d,z,ne,e,mA,⟨od,es,ep,e2,c⟩,r⟩:=x;exact⟨ho _ d,z,ne,k _ _ (.inl rfl) e,mA,⟨od,es,ep,k _ _ (.inr d) e2,c⟩,r⟩
 |own y=>obtain⟨ob,e⟩:=x;exact⟨ob,k _ _ (.inl rfl) e⟩
 |xd fs=>obtain⟨mA,⟨od,es,ep,e,c⟩,r⟩:=x;exact⟨mA,⟨od,es,ep,k _ _ (.inl rfl) e,c⟩,r⟩
 |rng lo hi=>obtain⟨t,u,v,e⟩:=x;exact⟨t,u,v,k _ _ (.inl rfl) e⟩
 |frz ob u ih=>obtain⟨e,q⟩:=x;exact⟨k _ _ (.inl rfl) e,ih q⟩
 |tbl ps=>
  have e:h.get? a=some {cls:=.none,data:=.fields ps}:=x;show h'.get? a=some {cls:=.none,data:=.fields ps};exact k a _ (.inl rfl) e
 |met f y=>
  have e:h.get? a=some (PySem.W.methodObj (.ref f) (.ref y)):=x;show h'.get? a=some (PySem.W.methodObj (.ref f) (.ref y));exact k a _ (.inl rfl) e
 |ext φ=>obtain⟨p,⟨o,e⟩,st⟩:=x;exact⟨st _ _ p λo q=>k _ _ (.inl rfl) q,⟨o,k _ _ (.inl rfl) e⟩,st⟩
theorem HOk.lt(x:HOk P w H h)(e:H a=some o):a<h.objs.size:=(x a o e).lt
theorem HOk.fresh(x:HOk P w H h)(e:h.objs.size<=a):H a=none:=by
 cases q:H a with
 |none=>rfl
 |some u=>exact absurd (bJ (x.lt q) e) (cL _)
theorem HOk.kept(x:HOk P w H h)(k:∀b u,h.get? b=some u->h'.get? b=some u):HOk P w H h':=λa o e=>
 (x a o e).stay (λb u _ q=>k b u q) (λ_ q=>q) λ_ _ q=>q
theorem HOk.laid(x:HOk P w H h)(k:∀b u,h.get? b=some u->h'.get? b=some u)(hp:h.objs.size<=a)(new:ObjOk P w (upd H a o) h' a o):HOk P w (upd H a o) h':=λb u e=>by
 have hn:=x.fresh hp;by_cases hb:b=a
 ·subst hb;rw[fk] at e;cases e;exact new
 ·rw[fG hb] at e;exact (x b u e).stay (λc v _ q=>k c v q) (λc q=>by rw[fG (g6 q hn)];exact q) λc xs q=>by rw[fG (g6 q hn)];exact q
end
def Rd(H:Hp)(a:Addr)(u:HO):Prop:=H a=some u∨∃o,H a=some (.frz o u)
theorem Rd.ok{P:Program}{w:World}{H:Hp}{h:Heap}{a:Addr}{u:HO}(r:Rd H a u)(x:HOk P w H h):ObjOk P w H h a u:=by
 rcases r with r | ⟨o,r⟩
 ·exact x a u r
 ·obtain⟨_,q⟩:=x a _ r;exact q
def rm:Option HO->Prop
 |some (.lst _)=>True
 |some (.dK _)=>True
 |some (.dT _)=>True
 |some (.set _ _)=>True
 |some (.ins _ _ _)=>True
 |some (.ext _)=>True
 |_=>False
section
variable{P:Program}{w:World}{H:Hp}{h h':Heap}{x e:Addr}{o':HO}
theorem HOk.write(ok:HOk P w H h)(mu:rm (H x))(he:e=x∨H e=some (.own x))(k:∀b u,b≠e->h.get? b=some u->h'.get? b=some u)(heo:∃u,h'.get? e=some u)
  (new:ObjOk P w (upd H x o') h' x o'):HOk P w (upd H x o') h':=λb u q=>by
 have nown:∀c y,H c=some (.own y)->c≠x:=λc y r z=>by subst z;rw[r] at mu;exact mu
 have ntup:∀c xs,H c=some (.tup xs)->c≠x:=λc xs r z=>by subst z;rw[r] at mu;exact mu
 by_cases hb:b=x
 ·subst hb;rw[fk] at q;cases q;exact new
 ·rw[fG hb] at q;by_cases hbe:b=e
  ·have q':H b=some (.own x):=by
    rcases he with z | z
    ·exact absurd (hbe.trans z) hb
    ·rw[hbe];exact z
   rw[q] at q';cases q';obtain⟨v,hv⟩:=heo;exact⟨v,by rw[hbe];exact hv⟩
  ·refine (ok b u q).stay (λc v hc r=>k c v ?_ r) (λc r=>by rw[fG (nown c b r)];exact r) λc xs r=>by rw[fG (ntup c xs r)];exact r
   rcases hc with rfl | hc
   ·exact hbe
   ·rintro rfl;rcases he with z | z
    ·exact nown c b hc z
    ·rw[hc] at z;cases z;exact hb rfl
end
structure Un(fs ex:List Addr)(H H':Hp)(h h':Heap):Prop where
 keep:∀b o,h.get? b=some o->H b=none->b∉fs->b∉ex->h'.get? b=some o
 slot:∀b o,h.get? b=some o->H b=none->b∈fs->b∉ex->∃sl,h'.get? b=some {o with slots:=sl}
 free:∀b o,h.get? b=some o->H b=none->b∉ex->H' b=none
 there:∀b o,h.get? b=some o->b∉ex->∃o',h'.get? b=some o'
 tups:∀b xs,H b=some (.tup xs)->H' b=some (.tup xs)
 frzs:∀b o u,H b=some (.frz o u)->H' b=some (.frz o u)
 tbls:∀b ps,H b=some (.tbl ps)->∃more,H' b=some (.tbl (ps++more))
section
variable{fs fs' ex ex':List Addr}{H H1 H2:Hp}{h h1 h2 h':Heap}{a x e:Addr}{o:HO}
theorem Un.any(u:Un fs ex H H1 h h1){b:Addr}{ob:Obj}(q:h.get? b=some ob)(n:H b=none)(hx:b∉ex):∃sl,h1.get? b=some {ob with slots:=sl}:=by
 by_cases hb:b∈fs
 ·exact u.slot b ob q n hb hx
 ·exact⟨ob.slots,u.keep b ob q n hb hx⟩
theorem Un.trans(a:Un fs ex H H1 h h1)(b:Un fs ex H1 H2 h1 h2):Un fs ex H H2 h h2 where
 keep:=λc ob q n hc hx=>b.keep c ob (a.keep c ob q n hc hx) (a.free c ob q n hx) hc hx
 slot:=λc ob q n hc hx=>by
  obtain⟨sl,e1⟩:=a.slot c ob q n hc hx;obtain⟨sl',e2⟩:=b.slot c _ e1 (a.free c ob q n hx) hc hx;exact⟨sl',e2⟩
 free:=λc ob q n hx=>by
  obtain⟨o',e1⟩:=a.there c ob q hx;exact b.free c o' e1 (a.free c ob q n hx) hx
 there:=λc ob q hx=>by
  obtain⟨o',e1⟩:=a.there c ob q hx;exact b.there c o' e1 hx
 tups:=λc xs q=>b.tups c xs (a.tups c xs q)
 frzs:=λc ob xs q=>b.frzs c ob xs (a.frzs c ob xs q)
 tbls:=λc ps q=>by
  obtain⟨m1,e1⟩:=a.tbls c ps q;obtain⟨m2,e2⟩:=b.tbls c _ e1;exact⟨m1++m2,by rw[e2,Array.append_assoc]⟩
theorem Un.kept(k:∀b u,h.get? b=some u->h'.get? b=some u):Un fs ex H H h h':=
 ⟨λb ob q _ _ _=>k b ob q,λb ob q _ _ _=>⟨ob.slots,k b ob q⟩,λ_ _ _ n _=>n,λb ob q _=>⟨ob,k b ob q⟩,λ_ _ q=>q,λ_ _ _ q=>q,λ_ ps q=>⟨#[],by rw[q];simp⟩⟩
theorem Un.refl:Un fs ex H H h h:=Un.kept λ_ _ q=>q
theorem Un.laid(k:∀b u,h.get? b=some u->h'.get? b=some u)(hp:h.objs.size<=a)(hn:H a=none):Un fs ex H (upd H a o) h h' where
 keep:=λb u q _ _ _=>k b u q
 slot:=λb u q _ _ _=>⟨u.slots,k b u q⟩
 free:=λb u q n _=>by rw[fG (aU (bJ (aR q) hp))];exact n
 there:=λb u q _=>⟨u,k b u q⟩
 tups:=λb xs q=>by rw[fG (g6 q hn)];exact q
 frzs:=λb u xs q=>by rw[fG (g6 q hn)];exact q
 tbls:=λb ps q=>⟨#[],by rw[fG (g6 q hn),q];simp⟩
theorem Un.write(mu:rm (H x))(he:e=x∨H e=some (.own x))(k:∀b u,b≠e->h.get? b=some u->h'.get? b=some u)(heo:∃u,h'.get? e=some u):Un fs ex H (upd H x o) h h':=by
 have hx:∀b,H b=none->b≠x:=λb n z=>by subst z;rw[n] at mu;exact mu
 have hb:∀b,H b=none->b≠e:=λb n z=>by
  subst z;rcases he with r | r
  ·exact hx b n r
  ·rw[n] at r;cases r
 have hm:∀b u,H b=some u->¬rm (some u)->b≠x:=λb u q nm z=>by subst z;rw[q] at mu;exact nm mu
 refine⟨λb u q n _ _=>k b u (hb b n) q,λb u q n _ _=>⟨u.slots,k b u (hb b n) q⟩,λb u q n _=>by rw[fG (hx b n)];exact n,λb u q _=>?_,
  λb xs q=>by rw[fG (hm b _ q λz=>z)];exact q,λb u xs q=>by rw[fG (hm b _ q λz=>z)];exact q,λb ps q=>⟨#[],by rw[fG (hm b _ q λz=>z),q];simp⟩⟩
 by_cases hbe:b=e
 ·subst hbe;exact heo
 ·exact⟨u,k b u hbe q⟩
end
noncomputable def qu(h:Heap)(H:Hp):List Addr:=(List.range h.objs.size).filter λa=>(H a).isSome
noncomputable def lX(h:Heap)(H:Hp):Heap:=PySem.W.hideAll h (qu h H)
theorem P4(h:Heap)(H:Hp):(lX h H).objs.size=h.objs.size:=PySem.W.hideAll_size _ _
theorem ZL{h:Heap}{H:Hp}{b:Addr}{o:Obj}(e:h.get? b=some o)(n:H b=none):(lX h H).get? b=some o:=
 PySem.W.hideAll_get _ e λhm=>by
  have q:(H b).isSome=true:=(List.mem_filter.mp hm).2;rw[n] at q;simp at q
theorem O8{h:Heap}{H:Hp}{b:Addr}{o:Obj}(e:(lX h H).get? b=some o):h.get? b=some o/\H b=none:=by
 have e':h.get? b=some o:=PySem.W.of_hideAll (qu h H) e;refine⟨e',?_⟩;cases q:H b with
 |none=>rfl
 |some x=>
  have hm:b∈qu h H:=List.mem_filter.mpr ⟨bW.mpr (aR e'),by simp[q]⟩;have z:(lX h H).get? b=none:=PySem.W.hideAll_none (qu h H) hm;rw[z] at e;cases e
structure Mod(K:FG)(mg:Str->Option Value)(base:Heap):Prop where
 kin:K.In base
 glob:base.Ns mainGlobals mg
 blt:∃mb,base.Ns builtinsNs mb/\∀x:Str,x≠"__name__"->mb x=bootBuiltins x
 nolimit:base.NoLimit
structure Cx where
 prog:Program
 w:World
 K:FG
 mg:Str->Option Value
 base:Heap
 A:Around
 N:List Str
 s₀:Shared
 H₀:Hp
 env:Env
 outer:List Env
 stack:List Env
 ex:List Addr
 fn:Str->Bool
 calm:Bool
 pn:List (Addr×Obj)
 xe:Value->Shared->Prop
noncomputable def jI(l:List Env):List Addr:=l.filterMap (·.frame)
noncomputable abbrev Cx.fs(X:Cx):List Addr:=jI X.outer
def rk(sc:Scope)(x:Str):Prop:=sc.names.lookup x=some .local∨sc.names.lookup x=some .cell∨sc.names.lookup x=some .free
def oX(sc:Scope)(x:Str):Prop:=sc.names.lookup x=some .local∨sc.names.lookup x=some .cell
def wg(env:Env)(h:Heap)(m:Str->Option Value)(x:Str)(u:Value):Prop:=
 (env.kindOf x=some .local/\m x=some u)∨((env.kindOf x=some .cell∨env.kindOf x=some .free)/\∃c,env.cells.lookup x=some c/\h.IsCell c (some u))
structure Cx.Ok(X:Cx):Prop where
 mod:Mod X.K X.mg X.base
 kind:X.env.scope.kind=.function
 glob:X.env.globals=mainGlobals
 blt:X.env.builtins=builtinsNs
 above:X.s₀.heap.objs.size<=X.env.locals
 inj:∀x y c,X.env.cells.lookup x=some c->X.env.cells.lookup y=some c->x=y
 has:∀x,(X.env.kindOf x=some .cell∨X.env.kindOf x=some .free)->∃c,X.env.cells.lookup x=some c
 cab:∀x c,X.fn x=true->X.env.cells.lookup x=some c->X.s₀.heap.objs.size<=c
 hd:X.calm=true->X.A.handled=none
 frames:X.A.frames=some X.stack
 stk:X.stack=X.outer∨(X.stack=X.env::X.outer/\X.env.frame=some X.env.locals)
 exf:∀b∈X.ex,b≠X.env.locals/\∀x c,X.env.cells.lookup x=some c->c≠b
 bs:∀b o,X.base.get? b=some o->X.s₀.heap.get? b=some o/\X.H₀ b=none
 bsz:X.base.objs.size<=X.s₀.heap.objs.size
 noex:∀b o,X.base.get? b=some o->b∉X.ex
 exfs:∀b∈X.ex,b∉X.fs
 funs:X.s₀.heap.FunFrames X.base X.outer
 frf:∀b∈X.fs,X.H₀ b=none
structure Inv(X:Cx)(pins:List (Addr×Obj))(σ:List (Option V))(H:Hp)(s:Shared):Prop where
 ok:X.Ok
 os:s.os=X.s₀.os
 bare:AllBare s.gens
 base:Un X.fs X.ex X.H₀ H X.s₀.heap s.heap
 loc:∃m,s.heap.Ns X.env.locals m/\∀(i:Nat) (x:Str) (v:V),X.N[i]? =some x->σ[i]? =some (some v)->rk X.env.scope x->∃u,RelV v u/\wg X.env s.heap m x u
 cell:∀x c,X.env.cells.lookup x=some c->∃v,s.heap.IsCell c v
 free:H X.env.locals=none
 freeC:∀x c,X.env.cells.lookup x=some c->H c=none
 pin:∀p∈X.pn++pins,s.heap.get? p.1=some p.2/\H p.1=none/\p.1≠X.env.locals/\p.1∉X.fs/\∀v,p.2.data≠ .cell v
 hok:HOk X.prog X.w H s.heap
 len:σ.length=X.N.length
section
variable{X:Cx}{pins:List (Addr×Obj)}{σ:List (Option V)}{H H':Hp}{s:Shared}{h':Heap}
theorem Cx.Ok.nofr(ok:X.Ok){b:Addr}{o:Obj}(e:X.base.get? b=some o):b∉X.fs:=λhb=>by
 have:=(ok.funs.mem hb).1;rw[e] at this;cases this
theorem Inv.bs(I:Inv X pins σ H s):∀b o,X.base.get? b=some o->s.heap.get? b=some o/\H b=none:=λb o e=>
 ⟨I.base.keep b o (I.ok.bs b o e).1 (I.ok.bs b o e).2 (I.ok.nofr e) (I.ok.noex b o e),I.base.free b o (I.ok.bs b o e).1 (I.ok.bs b o e).2 (I.ok.noex b o e)⟩
theorem Inv.bk(I:Inv X pins σ H s):∀b o,X.base.get? b=some o->s.heap.get? b=some o:=λb o e=>(I.bs b o e).1
theorem Inv.mod(I:Inv X pins σ H s):Mod X.K X.mg X.base:=I.ok.mod
theorem Inv.kIn(I:Inv X pins σ H s):X.K.In s.heap:=I.ok.mod.kin.keeps I.bk
theorem Inv.nolimit(I:Inv X pins σ H s):s.heap.NoLimit:=I.ok.mod.nolimit.keeps I.bk
theorem Inv.lt(I:Inv X pins σ H s):X.env.locals<s.heap.objs.size:=let ⟨_,hn,_⟩:=I.loc;hn.lt
theorem Inv.sz(I:Inv X pins σ H s):X.s₀.heap.objs.size<=s.heap.objs.size:=bK I.ok.above (Nat.le_of_lt I.lt)
theorem Inv.nofs(I:Inv X pins σ H s){a:Addr}(h:s.heap.objs.size<=a):a∉X.fs:=λhb=>by
 obtain⟨_,o,ho,_⟩:=I.ok.funs.mem hb;exact absurd (bJ (aR ho) (bK I.sz h)) (cL _)
theorem Inv.cne(I:Inv X pins σ H s):∀x c,X.env.cells.lookup x=some c->c≠X.env.locals:=λx c e z=>by
 obtain⟨v,o,ho,hd⟩:=I.cell x c e;obtain⟨m,⟨o',es,ep,ho',hd',_⟩,_⟩:=I.loc;rw[z,ho'] at ho;cases ho;rw[hd'] at hd;cases hd
theorem Inv.funs(I:Inv X pins σ H s):s.heap.FunFrames X.base X.outer:=by
 have all:∀(l:List Env),(∀b∈jI l,b∈X.fs)->X.s₀.heap.FunFrames X.base l->s.heap.FunFrames X.base l:=by
  intro l;induction l with
  |nil=>intro _ _;trivial
  |cons env r ih=>
   intro hs hl;obtain⟨hk,⟨L,o,hf,hn,ho,hd⟩,hr⟩:=hl;have hL:L∈X.fs:=hs L (by unfold jI;rw[dC,hf];exact a8);obtain⟨sl,e⟩:=I.base.slot L o ho (I.ok.frf L hL) hL λz=>I.ok.exfs L z hL;exact⟨hk,⟨L,_,hf,hn,e,hd⟩,ih (λb hb=>hs b (by unfold jI;rw[dC,hf];exact bM _ hb)) hr⟩
 exact all X.outer (λ_ hb=>hb) I.ok.funs
theorem Inv.stack(I:Inv X pins σ H s):s.heap.FunFrames X.base X.stack:=by
 rcases I.ok.stk with e | ⟨e,hf⟩
 ·rw[e];exact I.funs
 ·rw[e];obtain⟨m,hn,_⟩:=I.loc;refine .cons (by rw[I.ok.kind];decide) hf hn ?_ I.funs;exact Heap.get?_none_of_le (bK I.ok.bsz I.ok.above)
theorem Inv.stkSub(I:Inv X pins σ H s):∀b∈jI X.stack,b∈X.env.locals::X.fs:=λb hb=>by
 rcases I.ok.stk with e | ⟨e,hf⟩
 ·rw[e] at hb;exact bM _ hb
 ·rw[e] at hb;unfold jI at hb;rw[dC,hf] at hb;exact hb
theorem Inv.stkFree(I:Inv X pins σ H s):∀b∈jI X.stack,H b=none:=λb hb=>by
 rcases aT.mp (I.stkSub b hb) with e | hb
 ·rw[e];exact I.free
 ·obtain⟨_,o,ho,_⟩:=I.ok.funs.mem hb;exact I.base.free b o ho (I.ok.frf b hb) λz=>I.ok.exfs b z hb
theorem Inv.step{g':Array GenState}{t':Nat}{d':Drawn}{ch:List Addr}(I:Inv X pins σ H s)
  (hch:∀b∈ch,(b∈X.ex∨X.s₀.heap.objs.size<=b)/\b≠X.env.locals/\(∀x c,X.env.cells.lookup x=some c->c≠b)/\∀p∈X.pn++pins,p.1≠b)
  (keep:∀b o,b≠X.env.locals->b∉X.fs->b∉ch->s.heap.get? b=some o->H b=none->h'.get? b=some o)
  (slot:∀b o,b≠X.env.locals->b∈X.fs->b∉ch->s.heap.get? b=some o->H b=none->∃sl,h'.get? b=some {o with slots:=sl}) (free:∀b o,b∉ch->s.heap.get? b=some o->H b=none->H' b=none)
  (there:∀b o,b∉ch->s.heap.get? b=some o->∃o',h'.get? b=some o')
  (tups:∀b xs,H b=some (.tup xs)->H' b=some (.tup xs)) (frzs:∀b o u,H b=some (.frz o u)->H' b=some (.frz o u)) (tbls:∀b ps,H b=some (.tbl ps)->∃more,H' b=some (.tbl (ps++more)))
  (ns:∀m,s.heap.Ns X.env.locals m->h'.Ns X.env.locals m) (hok:HOk X.prog X.w H' h') (hg:AllBare g'):
  Inv X pins σ H' {s with heap:=h',gens:=g',drawn:=d',toks:=t'}:=by
 have neL:∀b o,X.s₀.heap.get? b=some o->b≠X.env.locals:=λb o e=>aU (bJ (aR e) I.ok.above);have neC:∀b o,X.s₀.heap.get? b=some o->b∉X.ex->b∉ch:=λb o e hx hb=>by
  rcases (hch b hb).1 with z | z
  ·exact hx z
  ·exact absurd (bJ (aR e) z) (cL _)
 have cellK:∀x c,X.env.cells.lookup x=some c->∀v,s.heap.IsCell c v->h'.IsCell c v:=λx c e v ⟨o,ho,hd⟩=>by
  have nch:c∉ch:=λz=>(hch c z).2.2.1 x c e rfl;by_cases hc:c∈X.fs
  ·obtain⟨sl,q⟩:=slot c o (I.cne x c e) hc nch ho (I.freeC x c e);exact⟨_,q,hd⟩
  ·exact⟨o,keep c o (I.cne x c e) hc nch ho (I.freeC x c e),hd⟩
 refine⟨I.ok,I.os,hg,⟨λb o e n hb hx=>?_,λb o e n hb hx=>?_,λb o e n hx=>?_,λb o e hx=>?_,λb xs e=>tups b xs (I.base.tups b xs e),λb o xs e=>frzs b o xs (I.base.frzs b o xs e),λb ps e=>?_⟩,?_,λx c e=>?_,?_,λx c e=>?_,λp hp=>?_,hok,I.len⟩
 ·exact keep b o (neL b o e) hb (neC b o e hx) (I.base.keep b o e n hb hx) (I.base.free b o e n hx)
 ·obtain⟨sl,e1⟩:=I.base.slot b o e n hb hx;obtain⟨sl',e2⟩:=slot b _ (neL b o e) hb (neC b o e hx) e1 (I.base.free b o e n hx);exact⟨sl',e2⟩
 ·obtain⟨o',e1⟩:=I.base.there b o e hx;exact free b o' (neC b o e hx) e1 (I.base.free b o e n hx)
 ·obtain⟨o',e1⟩:=I.base.there b o e hx;exact there b o' (neC b o e hx) e1
 ·obtain⟨m1,e1⟩:=I.base.tbls b ps e;obtain⟨m2,e2⟩:=tbls b _ e1;exact⟨m1++m2,by rw[e2,Array.append_assoc]⟩
 ·obtain⟨m,hn,hl⟩:=I.loc;refine⟨m,ns m hn,λi x v e1 e2 e3=>?_⟩;obtain⟨u,r,l⟩:=hl i x v e1 e2 e3;refine⟨u,r,?_⟩;rcases l with l | ⟨k,c,e,z⟩
  ·exact .inl l
  ·exact .inr ⟨k,c,e,cellK x c e _ z⟩
 ·obtain⟨v,z⟩:=I.cell x c e;exact⟨v,cellK x c e v z⟩
 ·obtain⟨m,⟨o,_,_,ho,_⟩,_⟩:=I.loc;exact free _ o (λz=>(hch _ z).2.1 rfl) ho I.free
 ·obtain⟨v,o,ho,hd⟩:=I.cell x c e;exact free c o (λz=>(hch c z).2.2.1 x c e rfl) ho (I.freeC x c e)
 ·obtain⟨e,n,ne,nf,d⟩:=I.pin p hp;have nch:p.1∉ch:=λz=>(hch p.1 z).2.2.2 p hp rfl;exact⟨keep p.1 p.2 ne nf nch e n,free p.1 p.2 nch e n,ne,nf,d⟩
theorem Inv.un{t':Nat}(I:Inv X pins σ H s)(u:Un X.fs [] H H' s.heap h')(hok:HOk X.prog X.w H' h'):Inv X pins σ H' {s with heap:=h',toks:=t'}:=by
 obtain⟨m,⟨o,es,ep,ho,r⟩,_⟩:=id I.loc;obtain⟨sl,hL⟩:=u.any ho I.free (by simp);exact I.step (g':=s.gens) (d':=s.drawn) (ch:=[]) (λ_ z=>nomatch z) (λb o _ hb _ e n=>u.keep b o e n hb (by simp)) (λb o _ hb _ e n=>u.slot b o e n hb (by simp)) (λb o _ e n=>u.free b o e n (by simp)) (λb o _ e=>u.there b o e (by simp)) u.tups u.frzs u.tbls (λm' hm=>by
  obtain⟨o',es',ep',ho',r'⟩:=hm;rw[ho] at ho';cases ho';exact⟨_,es',ep',hL,r'⟩) hok I.bare
theorem Inv.call{g':Array GenState}{t':Nat}{d':Drawn}{ch:List Addr}(I:Inv X pins σ H s)(u:Un (jI X.stack) ch H H' s.heap h')(hok:HOk X.prog X.w H' h')(hg:AllBare g')
  (hch:∀b∈ch,(b∈X.ex∨X.s₀.heap.objs.size<=b)/\b≠X.env.locals/\(∀x c,X.env.cells.lookup x=some c->c≠b)/\∀p∈X.pn++pins,p.1≠b):
  Inv X pins σ H' {s with heap:=h',gens:=g',drawn:=d',toks:=t'}:=by
 obtain⟨m,⟨o,es,ep,ho,r⟩,_⟩:=id I.loc;obtain⟨sl,hL⟩:=u.any ho I.free λz=>(hch _ z).2.1 rfl;exact I.step (ch:=ch) hch (λb o hL hb hc e n=>u.keep b o e n (λz=>(aT.mp (I.stkSub b z)).elim hL hb) hc) (λb o _ _ hc e n=>u.any e n hc) (λb o hc e n=>u.free b o e n hc) (λb o hc e=>u.there b o e hc) u.tups u.frzs u.tbls (λm' hm=>by
  obtain⟨o',es',ep',ho',r'⟩:=hm;rw[ho] at ho';cases ho';exact⟨_,es',ep',hL,r'⟩) hok hg
theorem Inv.turned{t':Nat}{it:Addr}(I:Inv X pins σ H s)(k:∀b o,b≠it->s.heap.get? b=some o->h'.get? b=some o)(hn:H it=none)(hL:it≠X.env.locals)
  (h1:it∈X.ex∨X.s₀.heap.objs.size<=it) (h2:∀x c,X.env.cells.lookup x=some c->c≠it) (h3:∀p∈X.pn++pins,p.1≠it):Inv X pins σ H {s with heap:=h',toks:=t'}:=by
 have nit:∀b u,H b=some u->b≠it:=λb u e z=>by rw[z,hn] at e;cases e
 refine I.step (g':=s.gens) (d':=s.drawn) (ch:=[it]) (λb hb=>?_) (λb o _ _ hc e _=>k b o (λz=>hc (by simp[z])) e) (λb o _ _ hc e _=>⟨o.slots,k b o (λz=>hc (by simp[z])) e⟩) (λ_ _ _ _ n=>n)
  (λb o hc e=>⟨o,k b o (λz=>hc (by simp[z])) e⟩) (λ_ _ e=>e) (λ_ _ _ e=>e) (λb ps e=>⟨#[],by rw[e];simp⟩) (λm hm=>?_) (λb u e=>?_) I.bare
 ·have e:b=it:=by simpa using hb
  subst e;exact⟨h1,hL,h2,h3⟩
 ·obtain⟨o,es,ep,ho,r⟩:=hm;exact⟨o,es,ep,k _ o (Ne.symm hL) ho,r⟩
 ·refine (I.hok b u e).stay (λc v hc q=>k c v ?_ q) (λ_ q=>q) λ_ _ q=>q;rcases hc with z | z
  ·rw[z];exact nit b u e
  ·exact nit c _ z
theorem Inv.tok(I:Inv X pins σ H s)(t:Nat):Inv X pins σ H {s with toks:=t}:=I.un (h':=s.heap) (t':=t) Un.refl I.hok
theorem Inv.kept{t':Nat}(I:Inv X pins σ H s)(k:∀b u,s.heap.get? b=some u->h'.get? b=some u):Inv X pins σ H {s with heap:=h',toks:=t'}:=I.un (Un.kept k) (I.hok.kept k)
theorem Inv.laid{a:Addr}{o:HO}{t':Nat}(I:Inv X pins σ H s)(k:∀b u,s.heap.get? b=some u->h'.get? b=some u)(hp:s.heap.objs.size<=a)(new:ObjOk X.prog X.w (upd H a o) h' a o):
  Inv X pins σ (upd H a o) {s with heap:=h',toks:=t'}:=I.un (Un.laid k hp (I.hok.fresh hp)) (I.hok.laid k hp new)
theorem Inv.write{x e:Addr}{o:HO}{t':Nat}(I:Inv X pins σ H s)(mu:rm (H x))(he:e=x∨H e=some (.own x))(k:∀b u,b≠e->s.heap.get? b=some u->h'.get? b=some u)(heo:∃u,h'.get? e=some u)
  (new:ObjOk X.prog X.w (upd H x o) h' x o):Inv X pins σ (upd H x o) {s with heap:=h',toks:=t'}:=I.un (Un.write mu he k heo) (I.hok.write mu he k heo new)
theorem Inv.pins_of{pins':List (Addr×Obj)}(I:Inv X pins σ H s)(h:∀p∈pins',s.heap.get? p.1=some p.2/\H p.1=none/\p.1≠X.env.locals/\p.1∉X.fs/\∀v,p.2.data≠ .cell v):Inv X pins' σ H s:=
 ⟨I.ok,I.os,I.bare,I.base,I.loc,I.cell,I.free,I.freeC,λp hp=>(bS.mp hp).elim (λz=>I.pin p (cM _ z)) (h p),I.hok,I.len⟩
theorem Nf{N:List Str}(hN:N.Nodup){i j:Nat}{x:Str}(a:N[i]? =some x)(b:N[j]? =some x):i=j:=by
 obtain⟨h1,e1⟩:=bB.mp a;obtain⟨h2,e2⟩:=bB.mp b;exact (List.getElem_inj hN).mp (e1.trans e2.symm)
theorem Fb{M:Model}{A:Around}{E:Value->Shared->Prop}{i:Nat}{x:Str}{v:V}{u:Value}{Q:Unit->Shared->Prop}(I:Inv X pins σ H s)(hN:X.N.Nodup)(hi:X.N[i]? =some x)(hx:oX X.env.scope x)(r:RelV v u)
  (h:∀s',Inv X pins (σ.set i (some v)) H s'->(∃a,Heap.SameBut a s.heap s'.heap/\(a=X.env.locals∨X.env.cells.lookup x=some a))->Q () s') (hf:X.fn x=true∨X.env.scope.names.lookup x=some .local:=by first | exact .inl rfl | exact .inr rfl | assumption):wpAny M A (storeName X.env x u) Q E s:=by
 obtain⟨m,hn,hl⟩:=id I.loc;have hcls:(X.env.scope.kind== .class||(X.env.scope.kind== .module&&X.env.locals !=X.env.globals))=false:=by rw[I.ok.kind];rfl
 have hiσ:i<σ.length:=by rw[I.len];exact (bB.mp hi).1
 have cne:=I.cne;have tracked:∀{a:Addr} {h':Heap},(∃o,s.heap.get? a=some o/\H a=none)->Heap.SameBut a s.heap h'->HOk X.prog X.w H h':=λ{a h'} ha hs b ob e=>by
  obtain⟨_,_,hfree⟩:=ha;refine (I.hok b ob e).stay (λc w' hc q=>(hs.2 c ?_).trans q) (λ_ q=>q) λ_ _ q=>q;rintro rfl;rcases hc with rfl | hc
  ·rw[hfree] at e;cases e
  ·rw[hfree] at hc;cases hc
 rcases hx with hk | hk
 ·refine wpAny_storeName_local hk hn (λh' hn' hs=>?_) hcls;obtain⟨oL,_,_,hoL,_⟩:=id hn;refine h _ ⟨I.ok,I.os,I.bare,⟨λb o e n hb hx=>?_,λb o e n hb hx=>?_,I.base.free,λb o e hx=>?_,I.base.tups,I.base.frzs,I.base.tbls⟩,⟨_,hn',λj y v' e1 e2 e3=>?_⟩,λy c e=>?_,I.free,I.freeC,λp hp=>?_,tracked ⟨oL,hoL,I.free⟩ hs,by simpa using I.len⟩ ⟨_,hs,.inl rfl⟩
  ·exact (hs.2 b (aU (bJ (aR e) I.ok.above))).trans (I.base.keep b o e n hb hx)
  ·obtain⟨sl,e1⟩:=I.base.slot b o e n hb hx;exact⟨sl,(hs.2 b (aU (bJ (aR e) I.ok.above))).trans e1⟩
  ·obtain⟨o',e1⟩:=I.base.there b o e hx;exact⟨o',(hs.2 b (aU (bJ (aR e) I.ok.above))).trans e1⟩
  ·by_cases hj:j=i
   ·subst hj;rw[hi] at e1;cases e1;rw[List.getElem?_set_self hiσ] at e2;cases e2;exact⟨u,r,.inl ⟨hk,by simp⟩⟩
   ·rw[List.getElem?_set_ne (Ne.symm hj)] at e2;obtain⟨u',r',q⟩:=hl j y v' e1 e2 e3;refine⟨u',r',?_⟩;rcases q with ⟨k,e⟩ | ⟨k,c,e,z⟩
    ·refine .inl ⟨k,?_⟩;have:y≠x:=λe=>hj (Nf hN e1 (e▸hi));simp[this,e]
    ·exact .inr ⟨k,c,e,z.sameBut hs (cne y c e)⟩
  ·obtain⟨w',z⟩:=I.cell y c e;exact⟨w',z.sameBut hs (cne y c e)⟩
  ·obtain⟨e,n,ne,nf,d⟩:=I.pin p hp;exact⟨(hs.2 p.1 ne).trans e,n,ne,nf,d⟩
 ·have hfn:X.fn x=true:=by
   rcases hf with z | z
   ·exact z
   ·rw[z] at hk;cases hk
  obtain⟨c,hc⟩:=I.ok.has x (.inl hk);obtain⟨w',z⟩:=I.cell x c hc;refine wpAny_storeName_cell I.ok.kind hk hc z (λh' hc' hs=>?_);obtain⟨oc,hoc,hocd⟩:=id z;refine h {s with heap:=h'} ⟨I.ok,I.os,I.bare,⟨λb o e n hb hx=>?_,λb o e n hb hx=>?_,I.base.free,λb o e hx=>?_,I.base.tups,I.base.frzs,I.base.tbls⟩,⟨m,hn.sameBut hs (Ne.symm (cne x c hc)),λj y v' e1 e2 e3=>?_⟩,λy c' e=>?_,I.free,I.freeC,λp hp=>?_,tracked ⟨oc,hoc,I.freeC x c hc⟩ hs,by simpa using I.len⟩ ⟨c,hs,.inr hc⟩
  ·exact (hs.2 b (aU (bJ (aR e) (I.ok.cab x c hfn hc)))).trans (I.base.keep b o e n hb hx)
  ·obtain⟨sl,e1⟩:=I.base.slot b o e n hb hx;exact⟨sl,(hs.2 b (aU (bJ (aR e) (I.ok.cab x c hfn hc)))).trans e1⟩
  ·obtain⟨o',e1⟩:=I.base.there b o e hx;exact⟨o',(hs.2 b (aU (bJ (aR e) (I.ok.cab x c hfn hc)))).trans e1⟩
  ·by_cases hj:j=i
   ·subst hj;rw[hi] at e1;cases e1;rw[List.getElem?_set_self hiσ] at e2;cases e2;exact⟨u,r,.inr ⟨.inl hk,c,hc,hc'⟩⟩
   ·rw[List.getElem?_set_ne (Ne.symm hj)] at e2;obtain⟨u',r',q⟩:=hl j y v' e1 e2 e3;refine⟨u',r',?_⟩;rcases q with q | ⟨k,c',e,z'⟩
    ·exact .inl q
    ·refine .inr ⟨k,c',e,z'.sameBut hs ?_⟩;rintro rfl;exact hj (Nf hN e1 (I.ok.inj _ _ _ e hc▸hi))
  ·by_cases hcc:c'=c
   ·subst hcc;exact⟨_,hc'⟩
   ·obtain⟨w2,z2⟩:=I.cell y c' e;exact⟨w2,z2.sameBut hs hcc⟩
  ·obtain⟨e,n,ne,nf,d⟩:=I.pin p hp;refine⟨(hs.2 p.1 ?_).trans e,n,ne,nf,d⟩;intro q;rw[q,hoc] at e;have q':oc=p.2:=bH e;exact d w' (by rw[←q'];exact hocd)
theorem EW{M:Model}{A:Around}{E:Value->Shared->Prop}{i:Nat}{x:Str}{v:V}{u:Value}{Q:Unit->Shared->Prop}(I:Inv X pins σ H s)(hN:X.N.Nodup)(hi:X.N[i]? =some x)(hx:oX X.env.scope x)(r:RelV v u)
  (h:∀s',Inv X pins (σ.set i (some v)) H s'->Q () s') (hf:X.fn x=true∨X.env.scope.names.lookup x=some .local:=by first | exact .inl rfl | exact .inr rfl | assumption):wpAny M A (storeName X.env x u) Q E s:=
 Fb I hN hi hx r (λs' I' _=>h s' I') hf
theorem Inv.call'{s':Shared}{ch:List Addr}(I:Inv X pins σ H s)(ho:s'.os=s.os)(u:Un (jI X.stack) ch H H' s.heap s'.heap)(hok:HOk X.prog X.w H' s'.heap)(hg:AllBare s'.gens)
  (hch:∀b∈ch,(b∈X.ex∨X.s₀.heap.objs.size<=b)/\b≠X.env.locals/\(∀x c,X.env.cells.lookup x=some c->c≠b)/\∀p∈X.pn++pins,p.1≠b):Inv X pins σ H' s':=by
 obtain⟨h',g',d',t',o'⟩:=s';have e:o'=s.os:=ho;subst e;exact I.call (g':=g') (t':=t') (d':=d') u hok hg hch
end
noncomputable abbrev XK:=Value->Option Addr->Hp->Prop
noncomputable abbrev St:=List (Option V)
noncomputable abbrev VK:=V->Hp->Prop
noncomputable abbrev TE:=St->Hp->VK->Prop
noncomputable abbrev TT:=St->Hp->(Bool->Hp->Prop)->Prop
noncomputable abbrev TA:=St->Hp->(List V->Hp->Prop)->Prop
structure g8 where
 nx:St->Hp->Prop
 rt:VK
 bk:St->Hp->Prop:=λ_ _=>False
 ct:St->Hp->Prop:=λ_ _=>False
noncomputable abbrev TS:=g8->St->Hp->Prop
def EP(X:Cx)(pins:List (Addr×Obj))(σ:St)(Q:VK)(u:Value)(s':Shared):Prop:=∃v H',Inv X pins σ H' s'/\RelV v u/\Q v H'
def TP(X:Cx)(pins:List (Addr×Obj))(σ:St)(Q:Bool->Hp->Prop)(b:Bool)(s':Shared):Prop:=∃H',Inv X pins σ H' s'/\Q b H'
def AP(X:Cx)(pins:List (Addr×Obj))(σ:St)(Q:List V->Hp->Prop)(us:List Value)(s':Shared):Prop:=∃vs H',Inv X pins σ H' s'/\Vals vs us/\Q vs H'
def SP(X:Cx)(pins:List (Addr×Obj))(D:g8)(f:Flow)(s':Shared):Prop:=
 match f with
 |.next=>∃σ' H',Inv X pins σ' H' s'/\D.nx σ' H'
 |.brk=>∃σ' H',Inv X pins σ' H' s'/\D.bk σ' H'
 |.cont=>∃σ' H',Inv X pins σ' H' s'/\D.ct σ' H'
 |.ret u=>∃v σ' H',Inv X pins σ' H' s'/\RelV v u/\D.rt v H'
def PE(X:Cx)(e:Expr)(t:TE):Prop:=
 ∀(pins:List (Addr×Obj)) (s:Shared) (σ:St) (H:Hp) (Q:VK),Inv X pins σ H s->t σ H Q->wpAny (model X.prog X.w) X.A (eval e X.env) (EP X pins σ Q) X.xe s
def PT(X:Cx)(e:Expr)(t:TT):Prop:=
 ∀(pins:List (Addr×Obj)) (s:Shared) (σ:St) (H:Hp) (Q:Bool->Hp->Prop),Inv X pins σ H s->t σ H Q->wpAny (model X.prog X.w) X.A (isTrue e X.env (eval e X.env)) (TP X pins σ Q) X.xe s
def PW(X:Cx)(e:Expr)(t:TT):Prop:=
 ∀(whole:Sem Value) (pins:List (Addr×Obj)) (s:Shared) (σ:St) (H:Hp) (Q:Bool->Hp->Prop),Inv X pins σ H s->t σ H Q->wpAny (model X.prog X.w) X.A (isTrue e X.env whole) (TP X pins σ Q) X.xe s
theorem PW.pt{X:Cx}{e:Expr}{t:TT}(h:PW X e t):PT X e t:=h _
def PA(X:Cx)(es:List Expr)(t:TA):Prop:=
 ∀(pos:Pos) (pins:List (Addr×Obj)) (s:Shared) (σ:St) (H:Hp) (Q:List V->Hp->Prop),Inv X pins σ H s->t σ H Q->wpAny (model X.prog X.w) X.A (spliced (backTo pos (starEach es X.env))) (AP X pins σ Q) X.xe s
def PS(X:Cx)(st:Stmt)(t:TS):Prop:=
 ∀(pins:List (Addr×Obj)) (s:Shared) (σ:St) (H:Hp) (D:g8),Inv X pins σ H s->t D σ H->wpAny (model X.prog X.w) X.A (exec st X.env) (SP X pins D) X.xe s
def PSs(X:Cx)(st:List Stmt)(t:TS):Prop:=
 ∀(pins:List (Addr×Obj)) (s:Shared) (σ:St) (H:Hp) (D:g8),Inv X pins σ H s->t D σ H->wpAny (model X.prog X.w) X.A (execs st X.env) (SP X pins D) X.xe s
theorem fJ{α:Type}{t:Sem α}{Q Q':α->Shared->Prop}{M:Model}{A:Around}{E:Value->Shared->Prop}{s:Shared}(h:wpAny M A t Q E s)(hQ:∀a s,Q a s->Q' a s):wpAny M A t Q' E s:=eG h hQ λ_ _ x=>x
section
variable{X:Cx}
inductive Ox (i:Nat) (σ:St) (H:Hp) (Q:VK):Prop
 |mk (v:V) (e:σ[i]? =some (some v)) (r:Q v H)
def sJ(i:Nat):TE:=Ox i
def tC(v:V):TE:=λ_ H Q=>Q v H
theorem Ap{i:Nat}{x:Str}{pos:Pos}(hN:X.N[i]? =some x)(hv:rk X.env.scope x)(hd:(x==("__debug__":Str))=false:=by decide)(hcd:(x==("__classdict__":Str))=false:=by decide):PE X (.Name x pos) (sJ i):=by
 intro pins s σ H Q I h;obtain⟨v,e,h⟩:=h;obtain⟨m,hn,hl⟩:=I.loc;obtain⟨u,r,l⟩:=hl i x v hN e hv;have fU:EP X pins σ Q u s:=⟨v,H,I,r,h⟩;rcases l with ⟨hk,hm⟩ | ⟨hk,c,hc,hcell⟩
 ·exact wpAny_Name (wpAny_loadName_local I.ok.kind hk hn hm fU) hd
 ·rcases hk with hk | hk
  ·exact wpAny_Name (wpAny_loadName_cell I.ok.kind hk hc hcell fU) hd
  ·exact wpAny_Name (wpAny_loadName_free I.ok.kind hk hc hcell fU hcd) hd
theorem GN{i j pos}:PE X (.Constant (.int i) j pos) (tC (.int i)):=λ_ _ _ H _ I h=>wpAny_Constant_int ⟨.int i,H,I.tok _,⟨()⟩,h⟩
theorem RA{b j pos}:PE X (.Constant (.bool b) j pos) (tC (.bl b)):=λ_ _ _ H _ I h=>Constant_bool ⟨.bl b,H,I,rfl,h⟩
theorem Zz{j pos}:PE X (.Constant .none j pos) (tC .non):=λ_ _ _ H _ I h=>Constant_none ⟨.non,H,I,rfl,h⟩
theorem Vs{x j pos}:PE X (.Constant (.str x) j pos) (tC (.str x)):=λ_ _ _ H _ I h=>Calls.Constant_str ⟨.str x,H,I.tok _,⟨()⟩,h⟩
def Gl(X:Cx)(x:Str):Prop:=X.env.kindOf x=some .globalImplicit
theorem m7{E:Value->Shared->Prop}{pins:List (Addr×Obj)}{s:Shared}{σ:St}{H:Hp}{x:Str}{u:Value}{pos:Pos}{Q:Value->Shared->Prop}(I:Inv X pins σ H s)(hg:Gl X x)(hm:X.mg x=some u)(h:Q u s)
  (hd:(x==("__debug__":Str))=false:=by decide):wpAny (model X.prog X.w) X.A (eval (.Name x pos) X.env) Q E s:=
 Calls.Name_function_global I.ok.kind hg (Calls.loadGlobal_global (by rw[I.ok.glob];exact I.mod.glob.keeps I.bk) hm h) hd
theorem nq{E:Value->Shared->Prop}{pins:List (Addr×Obj)}{s:Shared}{σ:St}{H:Hp}{x:Str}{u:Value}{pos:Pos}{Q:Value->Shared->Prop}(I:Inv X pins σ H s)(hg:Gl X x)(hm:X.mg x=none)(hv:bootBuiltins x=some u)(h:Q u s)
  (hn:x≠"__name__":=by decide) (hd:(x==("__debug__":Str))=false:=by decide):wpAny (model X.prog X.w) X.A (eval (.Name x pos) X.env) Q E s:=by
 obtain⟨mb,h1,h2⟩:=I.mod.blt;exact Calls.Name_function_global I.ok.kind hg (Calls.loadGlobal_builtin (by rw[I.ok.glob];exact I.mod.glob.keeps I.bk) hm (by rw[I.ok.blt];exact h1.keeps I.bk) ((h2 x hn).trans hv) h) hd
theorem Z1{x:Str}{v:V}{u:Value}{pos:Pos}(hg:Gl X x)(hm:X.mg x=some u)(r:RelV v u)(hd:(x==("__debug__":Str))=false:=by decide):PE X (.Name x pos) (tC v):=
 λ_ _ _ H _ I h=>m7 I hg hm ⟨v,H,I,r,h⟩ hd
theorem W9{x:Str}{v:V}{u:Value}{pos:Pos}(hg:Gl X x)(hm:X.mg x=none)(hv:bootBuiltins x=some u)(r:RelV v u)(hn:x≠"__name__":=by decide)(hd:(x==("__debug__":Str))=false:=by decide):PE X (.Name x pos) (tC v):=
 λ_ _ _ H _ I h=>nq I hg hm hv ⟨v,H,I,r,h⟩ hn hd
variable{a b:Expr}{ta tb:TE}{pos:Pos}
inductive pG (x:V) (H:Hp) (Q:Bool->Hp->Prop):Prop
 |mk (c:Bool) (e:x=.bl c) (r:Q c H)
def tB(t:TE):TT:=λσ H Q=>t σ H λx H1=>pG x H1 Q
theorem Ru{e:Expr}{t:TE}(h:PE X e t)(he:∀whole,isTrue e X.env whole=(do let v ←whole;standAt e.pos;holding [v] (truthy v)):=by intro _;rfl):PT X e (tB t):=by
 intro pins s σ H Q I hw;refine isTrue_plain (fJ (h pins s σ H _ I hw) λv s1 ⟨x,H1,I1,r1,q1⟩=>?_) (he _);obtain⟨d,rfl,q⟩:=q1;cases r1;exact eY ⟨H1,I1,q⟩
variable{tA tB':TT}{rest:List Expr}
def B9(t u:TT):TT:=λσ H Q=>t σ H λc H1=>if c=true then u σ H1 Q else Q false H1
def D1(t u:TT):TT:=λσ H Q=>t σ H λc H1=>if c=true then Q true H1 else u σ H1 Q
def HQ(t:TT):TT:=λσ H Q=>t σ H λc H1=>Q (!c) H1
theorem UR(ha:PT X a tA):PW X (.BoolOp .And [a] pos) tA:=by
 intro wh pins s σ H Q I h;refine isTrue_and (fJ (ha pins s σ H Q I h) λc s1 e=>?_);cases c with
 |true=>exact isTrue_and_nil e
 |false=>exact e
theorem UP(ha:PT X a tA):PW X (.BoolOp .Or [a] pos) tA:=by
 intro wh pins s σ H Q I h;refine isTrue_or (fJ (ha pins s σ H Q I h) λc s1 e=>?_);cases c with
 |false=>exact isTrue_or_nil e
 |true=>exact e
theorem W7(ha:PT X a tA)(hb:PW X (.BoolOp .And (b::rest) pos) tB'):PW X (.BoolOp .And (a::b::rest) pos) (B9 tA tB'):=by
 intro wh pins s σ H Q I h;refine isTrue_and (fJ (ha pins s σ H _ I h) λc s1 ⟨H1,I1,q1⟩=>?_);cases c with
 |true=>exact hb wh pins s1 σ H1 Q I1 q1
 |false=>exact⟨H1,I1,q1⟩
theorem Xq(ha:PT X a tA)(hb:PW X (.BoolOp .Or (b::rest) pos) tB'):PW X (.BoolOp .Or (a::b::rest) pos) (D1 tA tB'):=by
 intro wh pins s σ H Q I h;refine isTrue_or (fJ (ha pins s σ H _ I h) λc s1 ⟨H1,I1,q1⟩=>?_);cases c with
 |true=>exact⟨H1,I1,q1⟩
 |false=>exact hb wh pins s1 σ H1 Q I1 q1
theorem Pf(ha:PT X a tA):PT X (.UnaryOp .Not a pos) (HQ tA):=by
 intro pins s σ H Q I h;exact isTrue_not (ha pins s σ H (λc H1=>Q (!c) H1) I h)
def Fc(ta tb:TE):TE:=λσ H Q=>ta σ H λx H1=>pG x H1 λc H1=>if c=true then tb σ H1 Q else Q (.bl false) H1
def Cz(ta tb:TE):TE:=λσ H Q=>ta σ H λx H1=>pG x H1 λc H1=>if c=true then Q (.bl true) H1 else tb σ H1 Q
def MG(ta:TE):TE:=λσ H Q=>ta σ H λx H1=>pG x H1 λc H1=>Q (.bl (!c)) H1
theorem Rr{op}{t:TE}(h:PE X a t):PE X (.BoolOp op [a] pos) t:=λpins s σ H Q I hw=>BoolOp_one (h pins s σ H Q I hw)
theorem T3(ha:PE X a ta)(hb:PE X (.BoolOp .And (b::rest) pos) tb):PE X (.BoolOp .And (a::b::rest) pos) (Fc ta tb):=by
 intro pins s σ H Q I h;refine BoolOp_and (fJ (ha pins s σ H _ I h) λv s1 ⟨x,H1,I1,r1,q1⟩=>?_);obtain⟨c,rfl,q1⟩:=q1;cases r1;refine eY ?_;cases c with
 |true=>exact hb pins s1 σ H1 Q I1 q1
 |false=>exact⟨.bl false,H1,I1,rfl,q1⟩
theorem WW(ha:PE X a ta)(hb:PE X (.BoolOp .Or (b::rest) pos) tb):PE X (.BoolOp .Or (a::b::rest) pos) (Cz ta tb):=by
 intro pins s σ H Q I h;refine BoolOp_or (fJ (ha pins s σ H _ I h) λv s1 ⟨x,H1,I1,r1,q1⟩=>?_);obtain⟨c,rfl,q1⟩:=q1;cases r1;refine eY ?_;cases c with
 |false=>exact hb pins s1 σ H1 Q I1 q1
 |true=>exact⟨.bl true,H1,I1,rfl,q1⟩
theorem Vl(ha:PE X a ta):PE X (.UnaryOp .Not a pos) (MG ta):=by
 intro pins s σ H Q I h;refine UnaryOp_ (fJ (ha pins s σ H _ I h) λv s1 ⟨x,H1,I1,r1,q1⟩=>?_);obtain⟨c,rfl,q1⟩:=q1;cases r1;exact not_of (eY ⟨.bl (!c),H1,I1,rfl,q1⟩)
def Gz(t:TT)(ta tb:TE):TE:=λσ H Q=>t σ H λc H1=>if c=true then ta σ H1 Q else tb σ H1 Q
theorem Qv{c:Expr}(hc:PT X c tA)(ha:PE X a ta)(hb:PE X b tb):PE X (.IfExp c a b pos) (Gz tA ta tb):=by
 intro pins s σ H Q I h;refine wpAny_IfExp (fJ (hc pins s σ H _ I h) λd s1 ⟨H1,I1,q1⟩=>?_);cases d with
 |true=>exact ha pins s1 σ H1 Q I1 q1
 |false=>exact hb pins s1 σ H1 Q I1 q1
end
def SqL(K:FG)(H:Hp)(a:Addr)(xs:List V):Prop:=
 Rd H a (.lst xs)∨
  ∃(o:Obj) (its:Array Value) (n:Nat),K.lookup a=some o/\o.cls=.type "list"/\o.dict=none/\o.data=.seq its n/\its.size<=sizeLine/\Vals xs its.toList
def SqT(K:FG)(H:Hp)(a:Addr)(xs:List V):Prop:=
 Rd H a (.tup xs)∨
  ∃(o:Obj) (its:Array Value) (n:Nat),K.lookup a=some o/\o.cls=.type "tuple"/\o.data=.seq its n/\its.size<=sizeLine/\Vals xs its.toList
noncomputable def vV:Value->Option V
 |.none=>some .non
 |.bool b=>some (.bl b)
 |.int i _=>some (.int i)
 |.str x _=>some (.str x)
 |.bytes b _=>some (.byt b)
 |.float b _=>some (.flt b)
 |.ref a=>some (.ref a)
 |.type n=>some (.ty n)
 |_=>none
theorem RelV.abs{x:V}{u:Value}(r:RelV x u):vV u=some x:=by
 cases x with
 |non=>cases r;rfl
 |bl _=>cases r;rfl
 |int _=>obtain⟨t,rfl⟩:=r;rfl
 |str _=>obtain⟨t,rfl⟩:=r;rfl
 |byt _=>obtain⟨t,rfl⟩:=r;rfl
 |flt _=>obtain⟨t,rfl⟩:=r;rfl
 |ref _=>cases r;rfl
 |ty _=>cases r;rfl
theorem RelV.inj{x y:V}{u:Value}(r:RelV x u)(q:RelV y u):x=y:=bH (r.abs.symm.trans q.abs)
theorem Vals.inj:∀{xs ys:List V} {us:List Value},Vals xs us->Vals ys us->xs=ys
 |_,_,_,.nil,.nil=>rfl
 |_,_,_,.cons r t,.cons r' t'=>by rw[r.inj r',Vals.inj t t']
section
variable{X:Cx}{pins:List (Addr×Obj)}{σ:St}{H:Hp}{s:Shared}{a:Addr}{xs ys:List V}
theorem SqL.of{K:FG}(h:H a=some (.lst xs)):SqL K H a xs:=.inl (.inl h)
theorem SqT.of{K:FG}(h:H a=some (.tup xs)):SqT K H a xs:=.inl (.inl h)
theorem Inv.list(I:Inv X pins σ H s)(h:SqL X.K H a xs):∃its:List Value,Vals xs its/\PlainL s.heap a its.toArray/\xs.length<=sizeLine:=by
 rcases h with h | ⟨o,its,n,hk,hc,hd,hs,hz,r⟩
 ·obtain⟨z,its,n,r,e⟩:=h.ok I.hok;exact⟨its,r,⟨_,n,e,rfl,rfl,rfl⟩,z⟩
 ·refine⟨its.toList,r,⟨o,n,I.kIn a o hk,hc,hd,by simpa using hs⟩,?_⟩;have e:=r.length;simp only[bO] at e;omega
theorem Inv.tuple(I:Inv X pins σ H s)(h:SqT X.K H a xs):∃its:List Value,Vals xs its/\IsTup s.heap a its.toArray/\xs.length<=sizeLine:=by
 rcases h with h | ⟨o,its,n,hk,hc,hs,hz,r⟩
 ·obtain⟨z,its,r,p⟩:=h.ok I.hok;exact⟨its,r,p,z⟩
 ·refine⟨its.toList,r,⟨o,I.kIn a o hk,hc,n,by simpa using hs⟩,?_⟩;have e:=r.length;simp only[bO] at e;omega
theorem Inv.list_inj(I:Inv X pins σ H s)(h:SqL X.K H a xs)(h':SqL X.K H a ys):xs=ys:=by
 obtain⟨its,r,⟨o,n,e,_,_,d⟩,_⟩:=I.list h;obtain⟨its',r',⟨o',n',e',_,_,d'⟩,_⟩:=I.list h';rw[e] at e';cases e';rw[d] at d';injection d' with d1 _;have:its=its':=by simpa using congrArg Array.toList d1
 subst this;exact r.inj r'
theorem Inv.tuple_inj(I:Inv X pins σ H s)(h:SqT X.K H a xs)(h':SqT X.K H a ys):xs=ys:=by
 obtain⟨its,r,⟨o,e,_,n,d⟩,_⟩:=I.tuple h;obtain⟨its',r',⟨o',e',_,n',d'⟩,_⟩:=I.tuple h';rw[e] at e';cases e';rw[d] at d';injection d' with d1 _;have:its=its':=by simpa using congrArg Array.toList d1
 subst this;exact r.inj r'
end
noncomputable abbrev Cx.wish(X:Cx)(E:Value->Shared->Prop):Cx:={X with xe:=E}
noncomputable abbrev Cx.nox(X:Cx):Cx:=X.wish λ_ _=>False
theorem Cx.Ok.wish{X:Cx}(ok:X.Ok)(E:Value->Shared->Prop):(X.wish E).Ok:=
 ⟨ok.mod,ok.kind,ok.glob,ok.blt,ok.above,ok.inj,ok.has,ok.cab,ok.hd,ok.frames,ok.stk,ok.exf,ok.bs,ok.bsz,ok.noex,ok.exfs,ok.funs,ok.frf⟩
theorem Cx.Ok.unwish{X:Cx}{E:Value->Shared->Prop}(ok:(X.wish E).Ok):X.Ok:=
 ⟨ok.mod,ok.kind,ok.glob,ok.blt,ok.above,ok.inj,ok.has,ok.cab,ok.hd,ok.frames,ok.stk,ok.exf,ok.bs,ok.bsz,ok.noex,ok.exfs,ok.funs,ok.frf⟩
section
variable{X:Cx}{pins:List (Addr×Obj)}{σ:St}{H:Hp}{s:Shared}{E:Value->Shared->Prop}
theorem Inv.wish(I:Inv X pins σ H s)(E:Value->Shared->Prop):Inv (X.wish E) pins σ H s:=⟨I.ok.wish E,I.os,I.bare,I.base,I.loc,I.cell,I.free,I.freeC,I.pin,I.hok,I.len⟩
theorem Inv.unwish(I:Inv (X.wish E) pins σ H s):Inv X pins σ H s:=⟨I.ok.unwish,I.os,I.bare,I.base,I.loc,I.cell,I.free,I.freeC,I.pin,I.hok,I.len⟩
theorem SP.unwish{D:g8}{f:Flow}{s':Shared}(h:SP (X.wish E) pins D f s'):SP X pins D f s':=by
 cases f with
 |next=>obtain⟨σ',H',I,q⟩:=h;exact⟨σ',H',I.unwish,q⟩
 |brk=>obtain⟨σ',H',I,q⟩:=h;exact⟨σ',H',I.unwish,q⟩
 |cont=>obtain⟨σ',H',I,q⟩:=h;exact⟨σ',H',I.unwish,q⟩
 |ret u=>obtain⟨v,σ',H',I,r,q⟩:=h;exact⟨v,σ',H',I.unwish,r,q⟩
theorem PSs.nox{st:List Stmt}{t:TS}(h:PSs X.nox st t):PSs X st t:=λpins s σ H D I hw=>
 eG (h pins s σ H D (I.wish _) hw) (λ_ _ q=>q.unwish) λ_ _ z=>False.elim z
end
section
variable{X:Cx}{st:Stmt}{rest:List Stmt}{t u:TS}{e:Expr}{te:TE}{pos:Pos}
def yK:TS:=λD σ H=>D.nx σ H
def vf(t u:TS):TS:=λD σ H=>t {D with nx:=u D} σ H
theorem Pj:PSs X [] yK:=λ_ _ σ H _ I h=>wpAny_execs_nil ⟨σ,H,I,h⟩
theorem ZJ(h1:PS X st t)(h2:PSs X rest u):PSs X (st::rest) (vf t u):=by
 intro pins s σ H D I h;refine wpAny_execs_cons (fJ (h1 pins s σ H {D with nx:=u D} I h) λf s1 q=>?_);cases f with
 |next=>
  obtain⟨σ',H',I',q⟩:=q;exact h2 pins s1 σ' H' D I' q
 |ret v=>exact q
 |brk=>exact q
 |cont=>exact q
theorem YH(h1:PS X st t):PSs X [st] t:=by
 intro pins s σ H D I h;refine wpAny_execs_cons (fJ (h1 pins s σ H D I h) λf s1 q=>?_);cases f with
 |next=>exact wpAny_execs_nil q
 |ret v=>exact q
 |brk=>exact q
 |cont=>exact q
theorem Inv.quiet{pins:List (Addr×Obj)}{σ:St}{H:Hp}{s:Shared}(I:Inv X pins σ H s):interactive X.env=false:=by simp[interactive,I.ok.kind]
def LN(te:TE):TS:=λD σ H=>te σ H λ_ H1=>D.nx σ H1
theorem Tq(he:PE X e te)(hs:swapsWith e none pos.line X.env=pure false:=by rfl):PS X (.Expr e pos) (LN te):=by
 intro pins s σ H D I h;exact wpAny_Expr_any (fJ (he pins s σ H _ I h) λv s1 ⟨x,H1,I1,r1,q1⟩=>⟨σ,H1,I1,q1⟩) I.quiet hs
def AY(te:TE):TS:=λD σ H=>te σ H D.rt
theorem W5(he:PE X e te):PS X (.Return (some e) pos) (AY te):=by
 intro pins s σ H D I h;exact wpAny_Return_some (fJ (he pins s σ H _ I h) λv s1 ⟨x,H1,I1,r1,q1⟩=>⟨x,σ,H1,I1,r1,q1⟩)
def Es(c:TT)(t u:TS):TS:=λD σ H=>c σ H λb H1=>if b=true then t D σ H1 else u D σ H1
theorem P5{c:Expr}{a b:List Stmt}{tc:TT}(hc:PT X c tc)(ha:PSs X a t)(hb:PSs X b u):PS X (.If c a b pos) (Es tc t u):=by
 intro pins s σ H D I h;refine wpAny_If (fJ (hc pins s σ H _ I h) λd s1 ⟨H1,I1,q1⟩=>?_);cases d with
 |true=>exact ha pins s1 σ H1 D I1 q1
 |false=>exact hb pins s1 σ H1 D I1 q1
def M0:TS:=λ_ _ _=>False
theorem YN:PS X st M0:=λ_ _ _ _ _ _ h=>h.elim
end
noncomputable abbrev TG:=V->St->Hp->(St->Hp->Prop)->Prop
noncomputable abbrev jr:=List V->St->Hp->(St->Hp->Prop)->Prop
def PG(X:Cx)(target:Expr)(t:TG):Prop:=
 ∀(pins:List (Addr×Obj)) (s:Shared) (σ:St) (H:Hp) (v:V) (u:Value) (Q:St->Hp->Prop),Inv X pins σ H s->RelV v u->t v σ H Q->
  wpAny (model X.prog X.w) X.A (assign target X.env u) (λ_ s'=>∃σ' H',Inv X pins σ' H' s'/\Q σ' H') X.xe s
def qc(X:Cx)(ts:List Expr)(t:jr):Prop:=
 ∀(pins:List (Addr×Obj)) (s:Shared) (σ:St) (H:Hp) (vs:List V) (us:List Value) (Q:St->Hp->Prop),Inv X pins σ H s->Vals vs us->t vs σ H Q->
  wpAny (model X.prog X.w) X.A (assignInOrder ((assignEach ts X.env).map (·.2)) us) (λ_ s'=>∃σ' H',Inv X pins σ' H' s'/\Q σ' H') X.xe s
section
variable{X:Cx}{pos:Pos}
def jT(i:Nat):TG:=λv σ H Q=>Q (σ.set i (some v)) H
theorem N0{i:Nat}{x:Str}(hN:X.N.Nodup)(hi:X.N[i]? =some x)(hx:oX X.env.scope x)(hf:X.fn x=true∨X.env.scope.names.lookup x=some .local:=by first | exact .inl rfl | exact .inr rfl | assumption):PG X (.Name x pos) (jT i):=by
 intro pins s σ H v u Q I r h;exact wpAny_assign_Name (EW I hN hi hx r (λs' I'=>⟨_,H,I',h⟩) hf)
inductive QA (vs:List V) (σ:St) (H:Hp) (Q:St->Hp->Prop):Prop
 |mk (e:vs=[]) (r:Q σ H)
def uB:jr:=QA
inductive Vk (t:TG) (u:jr) (vs:List V) (σ:St) (H:Hp) (Q:St->Hp->Prop):Prop
 |mk (v:V) (r:List V) (e:vs=v::r) (h:t v σ H λσ' H'=>u r σ' H' Q)
def sy(t:TG)(u:jr):jr:=Vk t u
theorem Z7:qc X [] uB:=by
 intro pins s σ H vs us Q I r h;obtain⟨e,h⟩:=h;subst e;cases r;exact assignInOrder_nil ⟨σ,H,I,h⟩
theorem Px{e:Expr}{es:List Expr}{t:TG}{u:jr}(h1:PG X e t)(h2:qc X es u)
  (hs:(assignEach (e::es) X.env).map (·.2)=assign e X.env::(assignEach es X.env).map (·.2):=by rfl):qc X (e::es) (sy t u):=by
 intro pins s σ H vs us Q I r h;obtain⟨v,vr,e1,h⟩:=h;subst e1;cases r with
 |cons r rr=>
  rw[hs];refine assignInOrder_cons (fJ (h1 pins s σ H _ _ _ I r h) λ_ s1 ⟨σ1,H1,I1,q1⟩=>?_);exact h2 pins s1 σ1 H1 _ _ Q I1 rr q1
inductive Ph (K:FG) (n:Nat) (t:jr) (v:V) (σ:St) (H:Hp) (Q:St->Hp->Prop):Prop
 |mk (a:Addr) (xs:List V) (e:v=.ref a) (s:SqT K H a xs) (l:xs.length=n) (r:t xs σ H Q)
def qY(K:FG)(n:Nat)(t:jr):TG:=Ph K n t
theorem Zp{es:List Expr}{k:Nat}{t:jr}{n:Nat}(hc:X.calm=true)(h:qc X es t)
  (hn:(assignEach es X.env).length=n:=by rfl) (hst:(assignEach es X.env).findIdx? (·.1)=none:=by rfl):PG X (.Tuple es k pos) (qY X.K n t):=by
 intro pins s σ H v u Q I r hw;obtain⟨a,xs,e1,hq,hl,hw⟩:=hw;subst e1;cases r;obtain⟨its,rv,ht,hz⟩:=I.tuple hq;refine assign_Tuple_tuple (I.ok.hd hc) ht (by simp[hn,←hl,rv.length]) hst λh' hx=>?_;have I1:Inv X pins σ H {s with heap:=h'}:=I.kept (t':=s.toks) λb o e=>hx b o (aU (aR e)) e;exact h pins _ σ H xs _ Q I1 (by simpa using rv) hw
def pZ(te:TE)(g:TG):TS:=λD σ H=>te σ H λx H1=>g x σ H1 D.nx
theorem Zl{tg e:Expr}{te:TE}{g:TG}(he:PE X e te)(hg:PG X tg g)(hs:swapsWithSole [tg] e pos.line X.env=pure false:=by rfl)(hw:swappedStores [tg] e X.env=pure none:=by rfl)
  (h1:(assignEach [tg] X.env).map (·.2)=[assign tg X.env]:=by rfl):PS X (.Assign [tg] e pos) (pZ te g):=by
 intro pins s σ H D I h;refine wpAny_Assign_stores (fJ (he pins s σ H _ I h) λv s1 ⟨x,H1,I1,r1,q1⟩=>?_) hs hw;rw[h1];exact fJ (hg pins s1 σ H1 x v _ I1 r1 q1) λ_ s2 q=>q
theorem R0{i:Nat}{x:Str}{e:Expr}{te:TE}{pos':Pos}(hN:X.N.Nodup)(hi:X.N[i]? =some x)(hx:oX X.env.scope x)(he:PE X e te)(hs:swapsWith e (some (.Name x pos')) pos.line X.env=pure false:=by rfl)(hf:X.fn x=true∨X.env.scope.names.lookup x=some .local:=by first | exact .inl rfl | exact .inr rfl | assumption):
  PS X (.Assign [.Name x pos'] e pos) (pZ te (jT i)):=by
 intro pins s σ H D I h;refine wpAny_Assign_Name (fJ (he pins s σ H _ I h) λv s1 ⟨y,H1,I1,r1,q1⟩=>?_) hs;exact EW I1 hN hi hx r1 (λs2 I2=>⟨_,H1,I2,q1⟩) hf
def uX(c:TT)(tb:TS):TS:=λD σ H=>∃W:Nat->St->Hp->Prop,(∃m,W m σ H)/\∀m σ H,W m σ H->
 c σ H λb H1=>if b=true then ∃N:St->Hp->Prop,(∀σ' H',N σ' H'->∃m',m'<m/\W m' σ' H')/\tb {D with nx:=N,ct:=N,bk:=D.nx} σ H1 else D.nx σ H1
theorem Oz{c:Expr}{body:List Stmt}{tc:TT}{tb:TS}(hp:PassesOwn (model X.prog X.w) X.A X.env X.xe)(hc:PT X c tc)(hb:PSs X body tb):PS X (.While c body [] pos) (uX tc tb):=by
 intro pins s σ H D I h;obtain⟨W,⟨m0,w0⟩,turn⟩:=h;refine wpAny_While (codeAny_whileLoop (λn s'=>∃σ' H',Inv X pins σ' H' s'/\W n σ' H') ?_ m0 ⟨σ,H,I,w0⟩);rintro n s1 ⟨σ1,H1,I1,w1⟩;refine eA hp (fJ (hc pins s1 σ1 H1 _ I1 (turn n σ1 H1 w1)) λb s2 ⟨H2,I2,q2⟩=>?_);cases b with
 |true=>
  obtain⟨N,hN,q2⟩:=q2;rw[if_pos rfl];refine eA hp (fJ (hb pins s2 σ1 H2 _ I2 q2) λf s3 q3=>?_);cases f with
  |next=>
   obtain⟨σ3,H3,I3,n3⟩:=q3;obtain⟨m',hm,w3⟩:=hN σ3 H3 n3;exact⟨m',hm,σ3,H3,I3,w3⟩
  |cont=>
   obtain⟨σ3,H3,I3,n3⟩:=q3;obtain⟨m',hm,w3⟩:=hN σ3 H3 n3;exact⟨m',hm,σ3,H3,I3,w3⟩
  |brk=>exact q3
  |ret v=>exact q3
 |false=>
  rw[if_neg bI];exact wpAny_execs_nil ⟨σ1,H2,I2,q2⟩
end
structure It where
 go:Nat->Hp->Prop
 yld:Nat->Hp->V->Hp->Prop
 stop:Nat->Hp->Prop
def jJ(X:Cx)(pins:List (Addr×Obj))(H:Hp)(b:Addr):Prop:=
 H b=none/\b≠X.env.locals/\b∉X.fs/\(b∈X.ex∨X.s₀.heap.objs.size<=b)/\(∀x c,X.env.cells.lookup x=some c->c≠b)/\∀p∈X.pn++pins,p.1≠b
theorem Inv.fpOk{X:Cx}{pins:List (Addr×Obj)}{σ:St}{H H':Hp}{s:Shared}{b:Addr}(I:Inv X pins σ H s)(hb:s.heap.objs.size<=b)(hn:H' b=none):jJ X pins H' b:=by
 refine⟨hn,Nat.ne_of_gt (bJ I.lt hb),I.nofs hb,.inr (bK I.sz hb),λx c e z=>?_,λp hp z=>?_⟩
 ·obtain⟨v,q⟩:=I.cell x c e;exact absurd (bJ q.lt (by rw[z];exact hb)) (cL _)
 ·exact absurd (bJ (aR (I.pin p hp).1) (by rw[z];exact hb)) (cL _)
structure iQ(P:Program)(w:World)(K:FG)(tg:Expr)(J:It)(fp:List Addr)(it:Addr)(tn:Nat->Heap->Prop):Prop where
 mem:it∈fp
 obj:∀i h,tn i h->∀b∈fp,∃o,h.get? b=some o/\∀v,o.data≠ .cell v
 keep:∀i h h',tn i h->(∀b∈fp,∀o,h.get? b=some o->h'.get? b=some o)->tn i h'
 item:∀(X:Cx),X.prog=P->X.w=w->X.K=K->X.calm=true->∀(i:Nat) (pins:List (Addr×Obj)) (s:Shared) (σ:St) (H:Hp) (E:Value->Shared->Prop),Inv X pins σ H s->(∀b∈fp,jJ X pins H b)->tn i s.heap->J.go i H->
  wpAny (model P w) X.A (pyNext (.ref it)) (λr s1=>∃u,r=some u/\
   wpAny (model P w) X.A (letOwnedTupleGo tg (.ref it) u) (λ_ s2=>∃x H',Inv X pins σ H' s2/\RelV x u/\J.yld i H x H'/\tn (i+1) s2.heap/\∀b∈fp,H' b=none) E s1) E s
 done:∀(X:Cx),X.prog=P->X.w=w->X.K=K->X.calm=true->∀(i:Nat) (pins:List (Addr×Obj)) (s:Shared) (σ:St) (H:Hp) (E:Value->Shared->Prop),Inv X pins σ H s->(∀b∈fp,jJ X pins H b)->tn i s.heap->J.stop i H->
  wpAny (model P w) X.A (pyNext (.ref it)) (λr s1=>r=none/\Inv X pins σ H s1) E s
 self:∀(A:Around) (i:Nat) (s:Shared) (Q:Value->Shared->Prop) (E:Value->Shared->Prop),tn i s.heap->Q (.ref it) s->wpAny (model P w) A (pyIter (.ref it)) Q E s
noncomputable abbrev TI:=St->Hp->(It->Hp->Prop)->Prop
def Fz(X:Cx)(pins:List (Addr×Obj))(σ:St)(tg:Expr)(R:It->Hp->Prop)(itv:Value)(s2:Shared):Prop:=
 ∃(it:Addr) (fp:List Addr) (tn:Nat->Heap->Prop) (J:It) (H':Hp),itv=.ref it/\Inv X pins σ H' s2/\iQ X.prog X.w X.K tg J fp it tn/\tn 0 s2.heap/\(∀b∈fp,jJ X pins H' b)/\R J H'
def PI(X:Cx)(tg iter:Expr)(wi:TI):Prop:=
 ∀(pins:List (Addr×Obj)) (s:Shared) (σ:St) (H:Hp) (R:It->Hp->Prop),Inv X pins σ H s->wi σ H R->
  wpAny (model X.prog X.w) X.A (eval iter X.env) (λv s1=>wpAny (model X.prog X.w) X.A (pyIter v) (Fz X pins σ tg R) X.xe s1) X.xe s
theorem pM{M:Model}{A:Around}{E:Value->Shared->Prop}{s:Shared}{tg:Expr}{it:Addr}{u:Value}{o:Obj}{n:String}{vs:Array Value}{Q:Unit->Shared->Prop}(ho:s.heap.get? it=some o)(hc:o.cls=.type n)(hd:o.data=.fields vs)
  (hn:["enumerate","zip","dict_itemiterator","dict_reverseitemiterator","odict_iterator","itertools.zip_longest","itertools.pairwise"].contains n=false) (hQ:Q () s):wpAny M A (letOwnedTupleGo tg (.ref it) u) Q E s:=by
 unfold letOwnedTupleGo;cases tg<;>first
  |exact eX hQ
  |(cases u<;>first
    |exact eX hQ
    |(refine eE (wpAny_load ho ?_)
      rw[hc,hd];show wpAny M A (if (["enumerate","zip","dict_itemiterator","dict_reverseitemiterator","odict_iterator","itertools.zip_longest","itertools.pairwise"].contains n&&vs[0]? ==some (rawInt _))=true then _ else _) Q E s;rw[if_neg (by intro h;rw[hn,Bool.false_and] at h;cases h)];exact eX hQ))
noncomputable def mW(K:FG)(a:Addr):It:=
 ⟨λi H=>∃xs x,SqL K H a xs/\xs[i]? =some x,λi H x H'=>H'=H/\∀xs,SqL K H a xs->xs[i]? =some x,λi H=>∃xs,SqL K H a xs/\xs.length<=i⟩
noncomputable def qk(K:FG)(a:Addr):It:=
 ⟨λi H=>∃xs x,SqT K H a xs/\xs[i]? =some x,λi H x H'=>H'=H/\∀xs,SqT K H a xs->xs[i]? =some x,λi H=>∃xs,SqT K H a xs/\xs.length<=i⟩
noncomputable def lB(lo:Int)(n:Nat):It:=⟨λi _=>i<n,λi H x H'=>H'=H/\x=.int (lo+i),λi _=>n<=i⟩
theorem VC{P:Program}{w:World}{K:FG}{tg:Expr}(a it:Addr):iQ P w K tg (mW K a) [it] it (λi h=>h.IsListIter it a i) where
 mem:=by simp
 obj:=λi h st b hb=>by
  have e:b=it:=by simpa using hb
  subst e;obtain⟨o,e,c,d⟩:=st;exact⟨o,e,λv z=>by rw[d] at z;cases z⟩
 keep:=λi h h' st k=>st.at λo e=>k it (by simp) o e
 item:=by
  intro X hP hw hK hc i pins s σ H E I hf st hg;subst hP hw hK;obtain⟨xs,x,hq,hx⟩:=hg;obtain⟨its,rv,p,hz⟩:=I.list hq;obtain⟨u,hu,ru⟩:=rv.get hx;obtain⟨f0,f1,f2,f3,f4,f5⟩:=hf it (by simp);refine wpAny_pyNext_list_item st p.isList (x:=u) (by simpa using hu) λh' st' sb=>?_;have I1:Inv X pins σ H {s with heap:=h'}:=I.turned (t':=s.toks) (λb o hb e=>(sb.2 b hb).trans e) f0 f1 f3 f4 f5;obtain⟨o,e,c,d⟩:=id st'
  exact⟨u,rfl,pM (s:={s with heap:=h'}) e c d (by decide) ⟨x,H,I1,ru,⟨rfl,λys hy=>by rw[I.list_inj hy hq];exact hx⟩,st',λb hb=>(hf b hb).1⟩⟩
 done:=by
  intro X hP hw hK hc i pins s σ H E I hf st hg;subst hP hw hK;obtain⟨xs,hq,hx⟩:=hg;obtain⟨its,rv,p,hz⟩:=I.list hq;obtain⟨f0,f1,f2,f3,f4,f5⟩:=hf it (by simp);have hl:=rv.length;exact wpAny_pyNext_list_end (I.ok.hd hc) st p.isList (by simp;omega) λh' eb=>⟨rfl,I.turned (t':=s.toks) (λb o hb e=>eb b o hb e) f0 f1 f3 f4 f5⟩
 self:=λ_ _ _ _ _ st h=>wpAny_pyIter_listiter st h
theorem YR{P:Program}{w:World}{K:FG}{tg:Expr}(a it:Addr):iQ P w K tg (qk K a) [it] it (λi h=>h.IsTupleIter it a i) where
 mem:=by simp
 obj:=λi h st b hb=>by
  have e:b=it:=by simpa using hb
  subst e;obtain⟨o,e,c,d⟩:=st;exact⟨o,e,λv z=>by rw[d] at z;cases z⟩
 keep:=λi h h' st k=>st.at λo e=>k it (by simp) o e
 item:=by
  intro X hP hw hK hc i pins s σ H E I hf st hg;subst hP hw hK;obtain⟨xs,x,hq,hx⟩:=hg;obtain⟨its,rv,p,hz⟩:=I.tuple hq;obtain⟨u,hu,ru⟩:=rv.get hx;obtain⟨f0,f1,f2,f3,f4,f5⟩:=hf it (by simp);refine wpAny_pyNext_tuple_item st (show s.heap.IsTuple a its.toArray from p) (x:=u) (by simpa using hu) λh' st' sb=>?_;have I1:Inv X pins σ H {s with heap:=h'}:=I.turned (t':=s.toks) (λb o hb e=>(sb.2 b hb).trans e) f0 f1 f3 f4 f5
  obtain⟨o,e,c,d⟩:=id st';exact⟨u,rfl,pM (s:={s with heap:=h'}) e c d (by decide) ⟨x,H,I1,ru,⟨rfl,λys hy=>by rw[I.tuple_inj hy hq];exact hx⟩,st',λb hb=>(hf b hb).1⟩⟩
 done:=by
  intro X hP hw hK hc i pins s σ H E I hf st hg;subst hP hw hK;obtain⟨xs,hq,hx⟩:=hg;obtain⟨its,rv,p,hz⟩:=I.tuple hq;obtain⟨f0,f1,f2,f3,f4,f5⟩:=hf it (by simp);have hl:=rv.length;exact wpAny_pyNext_tuple_end (I.ok.hd hc) st (show s.heap.IsTuple a its.toArray from p) (by simp;omega) λh' eb=>⟨rfl,I.turned (t':=s.toks) (λb o hb e=>eb b o hb e) f0 f1 f3 f4 f5⟩
 self:=λ_ _ _ _ _ st h=>wpAny_pyIter_tupleiter st h
theorem XO{P:Program}{w:World}{K:FG}{tg:Expr}(it:Addr)(lo:Int)(n:Nat):iQ P w K tg (lB lo n) [it] it (λi h=>IsRangeIter h it (lo+(i:Nat)*1) ((n:Int)-(i:Nat)) 1) where
 mem:=by simp
 obj:=λi h st b hb=>by
  have e:b=it:=by simpa using hb
  subst e;exact⟨_,st,λv z=>by
   have z':Data.fields _=Data.cell v:=z;cases z'⟩
 keep:=λi h h' st k=>k it (by simp) _ st
 item:=by
  intro X hP hw hK hc i pins s σ H E I hf st hg;subst hP hw hK;obtain⟨f0,f1,f2,f3,f4,f5⟩:=hf it (by simp);have W:=Walks.range (prog:=X.prog) (w:=X.w) (I.ok.hd hc) it lo 1 n;refine W.item i s _ _ hg st λv h' tk hv st' kk=>?_;obtain⟨t,rfl⟩:=hv;have I1:Inv X pins σ H {s with heap:=h',toks:=tk}:=I.turned (λb o hb e=>kk b o (by simpa using hb) e) f0 f1 f3 f4 f5;refine⟨(),pM (s:={s with heap:=h',toks:=tk}) (n:="range_iterator") st' rfl rfl (by decide) ⟨.int (lo+i),H,I1,⟨t,?_⟩,⟨rfl,rfl⟩,st',λb hb=>(hf b hb).1⟩⟩
  rw[Int.mul_one]
 done:=by
  intro X hP hw hK hc i pins s σ H E I hf st hg;subst hP hw hK;obtain⟨f0,f1,f2,f3,f4,f5⟩:=hf it (by simp);exact wpAny_pyNext_range_end (I.ok.hd hc) st (by have:n<=i:=hg;omega) λh' eb=>⟨rfl,I.turned (t':=s.toks) (λb o hb e=>eb b o hb e) f0 f1 f3 f4 f5⟩
 self:=λ_ _ _ _ _ st h=>wpAny_pyIter_rangeiter st h
section
variable{X:Cx}{tg:Expr}
def uG(K:FG)(tl:TE):TI:=λσ H R=>tl σ H λx H1=>∃a,x=.ref a/\(∃xs,SqL K H1 a xs)/\R (mW K a) H1
def KB(K:FG)(tl:TE):TI:=λσ H R=>tl σ H λx H1=>∃a,x=.ref a/\(∃xs,SqT K H1 a xs)/\R (qk K a) H1
theorem TY{l:Expr}{tl:TE}(hl:PE X l tl):PI X tg l (uG X.K tl):=by
 intro pins s σ H R I h;refine fJ (hl pins s σ H _ I h) λv s1 ⟨x,H1,I1,r1,q1⟩=>?_;obtain⟨a,e,⟨xs,hq⟩,q⟩:=q1;subst e;cases r1;obtain⟨its,rv,p,hz⟩:=I1.list hq;refine wpAny_pyIter_list p.isList ?_;refine⟨s1.heap.objs.size,[s1.heap.objs.size],_,_,H1,rfl,I1.kept (t':=s1.toks) λb o e=>aS _ e,VC a _,⟨_,bD _ rfl,rfl,rfl⟩,λb hb=>?_,q⟩;have e:b=s1.heap.objs.size:=by simpa using hb
 subst e;exact I1.fpOk (aP _) (I1.hok.fresh (aP _))
theorem Yl{l:Expr}{tl:TE}(hl:PE X l tl):PI X tg l (KB X.K tl):=by
 intro pins s σ H R I h;refine fJ (hl pins s σ H _ I h) λv s1 ⟨x,H1,I1,r1,q1⟩=>?_;obtain⟨a,e,⟨xs,hq⟩,q⟩:=q1;subst e;cases r1;obtain⟨its,rv,p,hz⟩:=I1.tuple hq;refine wpAny_pyIter_tuple (show s1.heap.IsTuple a its.toArray from p) ?_;refine⟨s1.heap.objs.size,[s1.heap.objs.size],_,_,H1,rfl,I1.kept (t':=s1.toks) λb o e=>aS _ e,YR a _,⟨_,bD _ rfl,rfl,rfl⟩,λb hb=>?_,q⟩;have e:b=s1.heap.objs.size:=by simpa using hb
 subst e;exact I1.fpOk (aP _) (I1.hok.fresh (aP _))
theorem zZ{pins:List (Addr×Obj)}{σ:St}{H:Hp}{s:Shared}{R:It->Hp->Prop}{E:Value->Shared->Prop}{lo hi:Int}{t u v:Tok}{tk:Nat}(I:Inv X pins σ H s)(h1: -(2^62)<=lo)(h2:lo<2^62)(h3: -(2^62)<=hi)(h4:hi<2^62)
  (q:R (lB lo (hi-lo).toNat) H):wpAny (model X.prog X.w) X.A (pyIter (.ref s.heap.objs.size)) (Fz X pins σ tg R) E {s with heap:=s.heap.push {cls:=.type "range",data:=.fields #[.int lo t,.int hi u,.int 1 v]},toks:=tk}:=by
 refine wpAny_pyIter_range (IsRange.new ..) (small_one h1 h2 h3 h4) ?_;have I1:Inv X pins σ H {s with heap:=s.heap.push {cls:=.type "range",data:=.fields #[.int lo t,.int hi u,.int 1 v]},toks:=tk}:=I.kept λb o e=>aS _ e;refine⟨(s.heap.push {cls:=.type "range",data:=.fields #[.int lo t,.int hi u,.int 1 v]}).objs.size,[(s.heap.push {cls:=.type "range",data:=.fields #[.int lo t,.int hi u,.int 1 v]}).objs.size],_,_,H,rfl,
  I1.kept (t':=tk) λb o e=>aS _ e,XO _ lo (hi-lo).toNat,?_,λb hb=>?_,q⟩
 ·have e1:lo+((0:Nat):Int)*1=lo:=by simp
  have e2:(((hi-lo).toNat:Nat):Int)-((0:Nat):Int)=Builtin.Range.rangeSize lo hi 1:=by rw[rangeSize_one];split<;>omega
  show IsRangeIter _ _ (lo+((0:Nat):Int)*1) ((((hi-lo).toNat:Nat):Int)-((0:Nat):Int)) 1;rw[e1,e2];exact bD _ rfl
 ·have e:b=(s.heap.push {cls:=.type "range",data:=.fields #[.int lo t,.int hi u,.int 1 v]}).objs.size:=by simpa using hb
  subst e;exact I1.fpOk (aP _) (I1.hok.fresh (aP _))
def Ki(ta:TA):TI:=λσ H R=>ta σ H λvs H1=>∃j:Int,vs=[.int j]/\ -(2^62)<=j/\j<2^62/\R (lB 0 j.toNat) H1
def BH(ta:TA):TI:=λσ H R=>ta σ H λvs H1=>∃i j:Int,vs=[.int i,.int j]/\(-(2^62)<=i/\i<2^62/\ -(2^62)<=j/\j<2^62)/\R (lB i (j-i).toNat) H1
theorem Ro{a:Expr}{ta:TA}{p pos:Pos}(hg:Gl X "range")(hm:X.mg "range"=none)(ha:PA X [a] ta)(hs:starEach [a] X.env=[(false,eval a X.env)]:=by rfl):PI X tg (.Call (.Name "range" p) [a] [] pos) (Ki ta):=by
 intro pins s σ H R I h;refine Call_ (nq I hg hm boot_range (PyProof.Rows.callWith_type1 (fJ (ha pos pins s σ H _ I h) λus s1 ⟨vs,H1,I1,r1,q1⟩=>?_) hs rfl));obtain⟨j,e,q1,q2,q⟩:=q1;subst e;cases r1 with
 |cons r rr=>
  cases rr;obtain⟨t,rfl⟩:=r;exact call_range_1 (zZ I1 ⋯ ⋯ q1 q2 (by simpa using q))
theorem Q6{a b:Expr}{ta:TA}{p pos:Pos}(hg:Gl X "range")(hm:X.mg "range"=none)(ha:PA X [a,b] ta)(hs:starEach [a,b] X.env=[(false,eval a X.env),(false,eval b X.env)]:=by rfl)(hs2:starEach [b] X.env=[(false,eval b X.env)]:=by rfl):
  PI X tg (.Call (.Name "range" p) [a,b] [] pos) (BH ta):=by
 intro pins s σ H R I h;refine Call_ (nq I hg hm boot_range (PyProof.Rows.callWith_type1 (fJ (ha pos pins s σ H _ I h) λus s1 ⟨vs,H1,I1,r1,q1⟩=>?_) (by rw[hs,hs2]) (by rw[hs2];rfl)));obtain⟨i,j,e,⟨q1,q2,q3,q4⟩,q⟩:=q1;subst e;cases r1 with
 |cons r rr=>
  cases rr with
  |cons r' rr=>
   cases rr;obtain⟨t,rfl⟩:=r;obtain⟨t',rfl⟩:=r';exact call_range_2 (zZ I1 q1 q2 q3 q4 q)
def Kg(wi:TI)(g:TG)(tb:TS):TS:=λD σ H=>wi σ H λJ H1=>∃W:Nat->Nat->St->Hp->Prop,(∃m,W 0 m σ H1)/\∀i m σ H,W i m σ H->
 (J.stop i H/\D.nx σ H)∨(J.go i H/\∃N:St->Hp->Prop,(∀σ' H',N σ' H'->∃m',m'<m/\W (i+1) m' σ' H')/\∀x H',J.yld i H x H'->g x σ H' λσ2 H2=>tb {D with nx:=N,ct:=N,bk:=D.nx} σ2 H2)
noncomputable def p6(fp:List Addr)(h:Heap):List (Addr×Obj):=fp.filterMap λb=>(h.get? b).map λo=>(b,o)
theorem rK{fp:List Addr}{h:Heap}{b:Addr}{o:Obj}(hb:b∈fp)(e:h.get? b=some o):(b,o)∈p6 fp h:=List.mem_filterMap.mpr ⟨b,hb,by rw[e];rfl⟩
theorem VR{fp:List Addr}{h:Heap}{p:Addr×Obj}(hp:p∈p6 fp h):p.1∈fp/\h.get? p.1=some p.2:=by
 obtain⟨b,hb,e⟩:=List.mem_filterMap.mp hp;cases q:h.get? b with
 |none=>rw[q] at e;cases e
 |some o=>
  rw[q] at e;have e':(b,o)=p:=bH e;subst e';exact⟨hb,q⟩
theorem Inv.pinned{pins:List (Addr×Obj)}{σ:St}{H:Hp}{s:Shared}{fp:List Addr}(I:Inv X pins σ H s)(hf:∀b∈fp,jJ X pins H b)(ho:∀b∈fp,∃o,s.heap.get? b=some o/\∀v,o.data≠ .cell v):Inv X (pins++p6 fp s.heap) σ H s:=
 I.pins_of λp hp=>(bS.mp hp).elim (λz=>I.pin p (bR _ z)) λz=>by
  obtain⟨hb,e⟩:=VR z;obtain⟨f0,f1,f2,_⟩:=hf p.1 hb;obtain⟨o,e',d⟩:=ho p.1 hb;rw[e] at e';cases e';exact⟨e,f0,f1,f2,d⟩
theorem Inv.unpinned{pins pl:List (Addr×Obj)}{σ:St}{H:Hp}{s:Shared}(I:Inv X (pins++pl) σ H s):Inv X pins σ H s:=I.pins_of λp hp=>I.pin p (bR _ (cM _ hp))
theorem YL{iter:Expr}{body:List Stmt}{wi:TI}{g:TG}{tb:TS}{pos:Pos}(hp:PassesOwn (model X.prog X.w) X.A X.env X.xe)(hc:X.calm=true)(hi:PI X tg iter wi)(hg:PG X tg g)(hb:PSs X body tb)
  (hs:∀x,foldedSetIterable iter X.env x=pure x:=by intro _;rfl):PS X (.For tg iter body [] pos) (Kg wi g tb):=by
 intro pins s σ H D I h;refine wpAny_For (fJ (hi pins s σ H _ I h) λv s1 h1=>fJ h1 λitv s2 h2=>?_) hs;obtain⟨it,fp,tn,J,H2,e,I2,T,st2,f2,W,⟨m0,w0⟩,turn⟩:=h2;subst e
 -- what stays true of the iterator's objects through the loop
 have stat:∀{H':Hp},(∀b∈fp,H' b=none)->∀b∈fp,jJ X pins H' b:=λhn b hb=>⟨hn b hb,(f2 b hb).2⟩;refine codeAny_forLoop_any (λn s'=>∃i σ' H',Inv X pins σ' H' s'/\tn i s'.heap/\(∀b∈fp,H' b=none)/\W i n σ' H') ?_ m0 ⟨0,σ,H2,I2,st2,λb hb=>(f2 b hb).1,w0⟩;rintro n s3 ⟨i,σ3,H3,I3,st3,fr3,w3⟩;rcases turn i n σ3 H3 w3 with ⟨stop,qn⟩ | ⟨go,N,hN,step⟩
 ·refine eA hp (fJ (T.done X rfl rfl rfl hc i pins s3 σ3 H3 X.xe I3 (stat fr3) st3 stop) λr s4 ⟨hr,I4⟩=>?_);subst hr;exact wpAny_execs_nil ⟨σ3,H3,I4,qn⟩
 ·refine eA hp (fJ (T.item X rfl rfl rfl hc i pins s3 σ3 H3 X.xe I3 (stat fr3) st3 go) λr s4 ⟨u,hr,h4⟩=>?_);subst hr;refine eA hp (fJ h4 λ_ s5 ⟨x,H5,I5,r5,y5,st5,fr5⟩=>?_);have I5':=I5.pinned (stat fr5) (T.obj _ _ st5);refine eA hp (fJ (hg _ s5 σ3 H5 x u _ I5' r5 (step x H5 y5)) λ_ s6 ⟨σ6,H6,I6,q6⟩=>?_);refine eA hp (fJ (hb _ s6 σ6 H6 _ I6 q6) λf s7 q7=>?_);have again:∀{σ7:St} {H7:Hp},Inv X (pins++p6 fp s5.heap) σ7 H7 s7->N σ7 H7->∃m,m<n/\∃i σ' H',Inv X pins σ' H' s7/\tn i s7.heap/\(∀b∈fp,H' b=none)/\W i m σ' H':=λ{σ7 H7} I7 n7=>by
   obtain⟨m',hm,w7⟩:=hN σ7 H7 n7;refine⟨m',hm,i+1,σ7,H7,I7.unpinned,T.keep _ _ _ st5 λb hb o e=>(I7.pin (b,o) (bR _ (bR _ (rK hb e)))).1,λb hb=>?_,w7⟩;obtain⟨o,e,d⟩:=T.obj _ _ st5 b hb;exact (I7.pin (b,o) (bR _ (bR _ (rK hb e)))).2.1
  cases f with
  |next=>obtain⟨σ7,H7,I7,n7⟩:=q7;exact again I7 n7
  |cont=>obtain⟨σ7,H7,I7,n7⟩:=q7;exact again I7 n7
  |brk=>obtain⟨σ7,H7,I7,q7⟩:=q7;exact⟨σ7,H7,I7.unpinned,q7⟩
  |ret v=>obtain⟨x7,σ7,H7,I7,r7,q7⟩:=q7;exact⟨x7,σ7,H7,I7.unpinned,r7,q7⟩
end
theorem j8{K:FG}{a:Addr}{xs:List V}{g:TG}{tb:TS}{D:g8}{σ:St}{H:Hp}(Pv:Nat->St->Hp->Prop)(h0:Pv 0 σ H)(hl:∀i σ H,i<=xs.length->Pv i σ H->SqL K H a xs)
  (hs:∀i x σ H,xs[i]? =some x->Pv i σ H->g x σ H λσ2 H2=>tb {D with nx:=Pv (i+1),ct:=Pv (i+1),bk:=D.nx} σ2 H2) (hd:∀σ H,Pv xs.length σ H->D.nx σ H):
  ∃W:Nat->Nat->St->Hp->Prop,(∃m,W 0 m σ H)/\∀i m σ H,W i m σ H->
   ((mW K a).stop i H/\D.nx σ H)∨((mW K a).go i H/\∃N:St->Hp->Prop,(∀σ' H',N σ' H'->∃m',m'<m/\W (i+1) m' σ' H')/\∀x H',(mW K a).yld i H x H'->g x σ H' λσ2 H2=>tb {D with nx:=N,ct:=N,bk:=D.nx} σ2 H2):=by
 refine⟨λi m σ H=>m=xs.length-i/\i<=xs.length/\Pv i σ H,⟨xs.length,by simp,a9 _,h0⟩,?_⟩;rintro i m σ H ⟨rfl,hi,p⟩;have q:=hl i σ H hi p;by_cases hlt:i<xs.length
 ·refine .inr ⟨⟨xs,xs[i],q,by simp[hlt]⟩,Pv (i+1),λσ' H' p'=>⟨xs.length-(i+1),⋯,rfl,hlt,p'⟩,λx H' y=>?_⟩;obtain⟨e,y⟩:=y;subst e;exact hs i x σ _ (y xs q) p
 ·have e:i=xs.length:=⋯;subst e;exact .inl ⟨⟨xs,q,aP _⟩,hd σ H p⟩
theorem rg{K:FG}{a:Addr}{xs:List V}{g:TG}{tb:TS}{D:g8}{σ:St}{H:Hp}(Pv:Nat->St->Hp->Prop)(h0:Pv 0 σ H)(hl:∀i σ H,i<=xs.length->Pv i σ H->SqT K H a xs)
  (hs:∀i x σ H,xs[i]? =some x->Pv i σ H->g x σ H λσ2 H2=>tb {D with nx:=Pv (i+1),ct:=Pv (i+1),bk:=D.nx} σ2 H2) (hd:∀σ H,Pv xs.length σ H->D.nx σ H):
  ∃W:Nat->Nat->St->Hp->Prop,(∃m,W 0 m σ H)/\∀i m σ H,W i m σ H->
   ((qk K a).stop i H/\D.nx σ H)∨((qk K a).go i H/\∃N:St->Hp->Prop,(∀σ' H',N σ' H'->∃m',m'<m/\W (i+1) m' σ' H')/\∀x H',(qk K a).yld i H x H'->g x σ H' λσ2 H2=>tb {D with nx:=N,ct:=N,bk:=D.nx} σ2 H2):=by
 refine⟨λi m σ H=>m=xs.length-i/\i<=xs.length/\Pv i σ H,⟨xs.length,by simp,a9 _,h0⟩,?_⟩;rintro i m σ H ⟨rfl,hi,p⟩;have q:=hl i σ H hi p;by_cases hlt:i<xs.length
 ·refine .inr ⟨⟨xs,xs[i],q,by simp[hlt]⟩,Pv (i+1),λσ' H' p'=>⟨xs.length-(i+1),⋯,rfl,hlt,p'⟩,λx H' y=>?_⟩;obtain⟨e,y⟩:=y;subst e;exact hs i x σ _ (y xs q) p
 ·have e:i=xs.length:=⋯;subst e;exact .inl ⟨⟨xs,q,aP _⟩,hd σ H p⟩
theorem sx{lo:Int}{n:Nat}{g:TG}{tb:TS}{D:g8}{σ:St}{H:Hp}(Pv:Nat->St->Hp->Prop)(h0:Pv 0 σ H)
  (hs:∀i σ H,i<n->Pv i σ H->g (.int (lo+i)) σ H λσ2 H2=>tb {D with nx:=Pv (i+1),ct:=Pv (i+1),bk:=D.nx} σ2 H2) (hd:∀σ H,Pv n σ H->D.nx σ H):
  ∃W:Nat->Nat->St->Hp->Prop,(∃m,W 0 m σ H)/\∀i m σ H,W i m σ H->
   ((lB lo n).stop i H/\D.nx σ H)∨((lB lo n).go i H/\∃N:St->Hp->Prop,(∀σ' H',N σ' H'->∃m',m'<m/\W (i+1) m' σ' H')/\∀x H',(lB lo n).yld i H x H'->g x σ H' λσ2 H2=>tb {D with nx:=N,ct:=N,bk:=D.nx} σ2 H2):=by
 refine⟨λi m σ H=>m=n-i/\i<=n/\Pv i σ H,⟨n,by simp,a9 _,h0⟩,?_⟩;rintro i m σ H ⟨rfl,hi,p⟩;by_cases hlt:i<n
 ·refine .inr ⟨hlt,Pv (i+1),λσ' H' p'=>⟨n-(i+1),⋯,rfl,hlt,p'⟩,λx H' y=>?_⟩;obtain⟨e,y⟩:=y;subst e y;exact hs i σ _ hlt p
 ·have e:i=n:=⋯;subst e;exact .inl ⟨aP _,hd σ H p⟩
noncomputable abbrev R2:=V->V->Hp->VK->Prop
def gB(X:Cx)(f:Value->Value->Sem Value)(r:R2):Prop:=
 ∀(pins:List (Addr×Obj)) (s:Shared) (σ:St) (H:Hp) (x y:V) (v u:Value) (Q:VK),Inv X pins σ H s->RelV x v->RelV y u->r x y H Q->
  wpAny (model X.prog X.w) X.A (f v u) (EP X pins σ Q) X.xe s
def r8(X:Cx)(f:Value->Sem Value)(r:V->Hp->VK->Prop):Prop:=
 ∀(pins:List (Addr×Obj)) (s:Shared) (σ:St) (H:Hp) (x:V) (v:Value) (Q:VK),Inv X pins σ H s->RelV x v->r x H Q->
  wpAny (model X.prog X.w) X.A (f v) (EP X pins σ Q) X.xe s
def j6(X:Cx)(f:Value)(r:List V->Hp->VK->Prop):Prop:=
 ∀(pins:List (Addr×Obj)) (s:Shared) (σ:St) (H:Hp) (xs:List V) (us:List Value) (Q:VK),Inv X pins σ H s->Vals xs us->r xs H Q->
  wpAny (model X.prog X.w) X.A (call f us) (EP X pins σ Q) X.xe s
def mz(r:R2)(ta tb:TE):TE:=λσ H Q=>ta σ H λx H1=>tb σ H1 λy H2=>r x y H2 Q
def Dq(r:V->Hp->VK->Prop)(ta:TE):TE:=λσ H Q=>ta σ H λx H1=>r x H1 Q
inductive YF (C:Int->Int->Prop) (g:Int->Int->V) (x y:V) (H:Hp) (Q:VK):Prop
 |mk (i j:Int) (a:x=.int i) (b:y=.int j) (c:C i j) (r:Q (g i j) H)
def rI(C:Int->Int->Prop)(g:Int->Int->V):R2:=YF C g
inductive TZ (g:Int->Int->V) (x y:V) (H:Hp) (Q:VK):Prop
 |mk (i j:Int) (a:x=.int i) (b:y=.int j) (r:Q (g i j) H)
def ja(g:Int->Int->V):R2:=TZ g
inductive Qp (g:Int->V) (x:V) (H:Hp) (Q:VK):Prop
 |mk (i:Int) (a:x=.int i) (r:Q (g i) H)
def rU(g:Int->V):V->Hp->VK->Prop:=Qp g
section
variable{X:Cx}{a b c:Expr}{ta tb tc:TE}{pos:Pos}
theorem vL(ha:PE X a ta)(hb:PE X b tb){pins:List (Addr×Obj)}{s:Shared}{σ:St}{H:Hp}{R:V->V->Hp->Prop}(I:Inv X pins σ H s)
  (h:ta σ H λx H1=>tb σ H1 λy H2=>R x y H2) {Q:Value->Shared->Prop} {f:Value->Value->Sem Value}
  (hf:∀v u s2 x y H2,Inv X pins σ H2 s2->RelV x v->RelV y u->R x y H2->wpAny (model X.prog X.w) X.A (f v u) Q X.xe s2):
  wpAny (model X.prog X.w) X.A (eval a X.env) (λv s₁=>wpAny (model X.prog X.w) X.A (eval b X.env) (λu s₂=>wpAny (model X.prog X.w) X.A (f v u) Q X.xe s₂) X.xe s₁) X.xe s:=by
 refine fJ (ha pins s σ H _ I h) λv s1 ⟨x,H1,I1,r1,q1⟩=>?_;refine fJ (hb pins s1 σ H1 _ I1 q1) λu s2 ⟨y,H2,I2,r2,q2⟩=>?_;exact hf v u s2 x y H2 I2 r1 r2 q2
theorem Tv{op:Operator}{r:R2}(ho:gB X (binaryOp op) r)(ha:PE X a ta)(hb:PE X b tb):PE X (.BinOp a op b pos) (mz r ta tb):=by
 intro pins s σ H Q I h;exact wpAny_BinOp (vL ha hb I h λv u s2 x y H2 I2 rx ry q=>ho pins s2 σ H2 x y v u Q I2 rx ry q)
theorem Sj{op:UnaryOp}{r:V->Hp->VK->Prop}(ho:r8 X (unaryOp op) r)(ha:PE X a ta):PE X (.UnaryOp op a pos) (Dq r ta):=by
 intro pins s σ H Q I h;exact UnaryOp_ (fJ (ha pins s σ H _ I h) λv s1 ⟨x,H1,I1,r1,q1⟩=>ho pins s1 σ H1 x v Q I1 r1 q1)
theorem oW{f:Value->Value->Sem Value}{C:Int->Int->Prop}{g:Int->Int->Int}
  (rule:∀(i j:Int) (t u:Tok) (s:Shared) (Q:Value->Shared->Prop) (E:Value->Shared->Prop),C i j->Q (.int (g i j) s.toks) {s with toks:=s.toks+1}->wpAny (model X.prog X.w) X.A (f (.int i t) (.int j u)) Q E s):
  gB X f (rI C λi j=>.int (g i j)):=by
 intro pins s σ H x y v u Q I rx ry h;obtain⟨i,j,rfl,rfl,hc,q⟩:=h;obtain⟨t,rfl⟩:=rx;obtain⟨t',rfl⟩:=ry;exact rule i j t t' s _ _ hc ⟨.int (g i j),H,I.tok _,⟨()⟩,q⟩
theorem qr{f:Value->Value->Sem Value}{g:Int->Int->Int}
  (rule:∀(i j:Int) (t u:Tok) (s:Shared) (Q:Value->Shared->Prop) (E:Value->Shared->Prop),Q (.int (g i j) s.toks) {s with toks:=s.toks+1}->wpAny (model X.prog X.w) X.A (f (.int i t) (.int j u)) Q E s):
  gB X f (ja λi j=>.int (g i j)):=by
 intro pins s σ H x y v u Q I rx ry h;obtain⟨i,j,rfl,rfl,q⟩:=h;obtain⟨t,rfl⟩:=rx;obtain⟨t',rfl⟩:=ry;exact rule i j t t' s _ _ ⟨.int (g i j),H,I.tok _,⟨()⟩,q⟩
theorem rZ{f:Value->Value->Sem Value}{g:Int->Int->Bool}
  (rule:∀(i j:Int) (t u:Tok) (s:Shared) (Q:Value->Shared->Prop) (E:Value->Shared->Prop),Q (.bool (g i j)) s->wpAny (model X.prog X.w) X.A (f (.int i t) (.int j u)) Q E s):
  gB X f (ja λi j=>.bl (g i j)):=by
 intro pins s σ H x y v u Q I rx ry h;obtain⟨i,j,rfl,rfl,q⟩:=h;obtain⟨t,rfl⟩:=rx;obtain⟨t',rfl⟩:=ry;exact rule i j t t' s _ _ ⟨.bl (g i j),H,I,rfl,q⟩
def Hu(i j:Int):Prop:=0<j/\j<1073741824
def rh(i j:Int):Prop:=0<=j/\j<=1000000/\i.natAbs<2^64
def CMul(i j:Int):Prop:=(-(2^64)<i/\i<2^64)∨(-(2^64)<j/\j<2^64)
theorem CMul.ok{i j:Int}(h:CMul i j):IntMulOk i j:=by
 rcases h with ⟨h1,h2⟩ | ⟨h1,h2⟩
 ·exact .of_left (intBits_le_64 h1 h2)
 ·exact .of_right (intBits_le_64 h1 h2)
theorem Tz(k:Nat):(0:Int)<=2^k:=by
 rw[two_pow_cast];exact dD _
theorem TF:gB X (binaryOp .Add) (ja λi j=>.int (i+j)):=qr λ_ _ _ _ _ _ _ q=>add_int q
theorem YU:gB X (binaryOp .Sub) (ja λi j=>.int (i-j)):=qr λ_ _ _ _ _ _ _ q=>sub_int q
theorem V7:gB X (binaryOp .Mult) (rI CMul λi j=>.int (i*j)):=oW λ_ _ _ _ _ _ _ hc q=>mul_int q hc.ok
theorem Pd:gB X (binaryOp .FloorDiv) (rI Hu λi j=>.int (i / j)):=oW λi j _ _ _ _ _ hc q=>by
 have h1:(0:Int)<j:=hc.1;have h2:j<1073741824:=hc.2;exact floordiv_int ⋯ (by rw[Int.fdiv_eq_ediv_of_nonneg i ⋯];exact q) (.inl (PyProof.noPylong_small ⋯))
theorem RM:gB X (binaryOp .Mod) (rI (λ_ j=>0<j) λi j=>.int (i%j)):=oW λi j _ _ _ _ _ hc q=>by
 have h1:(0:Int)<j:=hc;exact mod_int' ⋯ (by rw[Int.fmod_eq_emod_of_nonneg i ⋯];exact q)
theorem Tw:gB X (binaryOp .Pow) (rI rh λi j=>.int (i^j.toNat)):=oW λ_ _ _ _ _ _ _ hc q=>pow_int_small hc.1 hc.2.1 hc.2.2 q
theorem Re:gB X (binaryOp .LShift) (rI rh λi j=>.int (i*2^j.toNat)):=oW λ_ _ _ _ _ _ _ hc q=>lshift_int_small hc.1 hc.2.1 hc.2.2 q
theorem Tj:gB X (binaryOp .RShift) (rI (λ_ j=>0<=j) λi j=>.int (i / 2^j.toNat)):=oW λi j _ _ _ _ _ hc q=>
 rshift_int hc (by rw[Int.fdiv_eq_ediv_of_nonneg i (Tz _)];exact q)
theorem RC:gB X (binaryOp .BitAnd) (ja λi j=>.int (Builtin.bitAnd i j)):=qr λ_ _ _ _ _ _ _ q=>and_int q
theorem WV:gB X (binaryOp .BitOr) (ja λi j=>.int (Builtin.bitOr i j)):=qr λ_ _ _ _ _ _ _ q=>or_int q
theorem YS{f:Value->Sem Value}{g:Int->Int}
  (rule:∀(i:Int) (t:Tok) (s:Shared) (Q:Value->Shared->Prop) (E:Value->Shared->Prop),Q (.int (g i) s.toks) {s with toks:=s.toks+1}->wpAny (model X.prog X.w) X.A (f (.int i t)) Q E s):
  r8 X f (rU λi=>.int (g i)):=by
 intro pins s σ H x v Q I rx h;obtain⟨i,rfl,q⟩:=h;obtain⟨t,rfl⟩:=rx;exact rule i t s _ _ ⟨.int (g i),H,I.tok _,⟨()⟩,q⟩
theorem Ys:r8 X (unaryOp .USub) (rU λi=>.int (-i)):=YS λ_ _ _ _ _ q=>neg_int q
end
noncomputable def DC:V->V->Bool
 |.non,.non=>true | .non,.int _=>true | .int _,.non=>true | .non,.bl _=>true | .bl _,.non=>true | .non,.str _=>true | .str _,.non=>true
 |.int _,.int _=>true | .bl _,.bl _=>true | .str _,.str _=>true | .byt _,.byt _=>true
 |.int _,.str _=>true | .str _,.int _=>true | .bl _,.str _=>true | .str _,.bl _=>true
 |_,_=>false
inductive YI (x y:V) (H:Hp) (Q:VK):Prop
 |mk (s:DC x y=true) (r:Q (.bl (decide (x=y))) H)
def zm:R2:=YI
inductive O9 (x y:V) (H:Hp) (Q:VK):Prop
 |mk (s:DC x y=true) (r:Q (.bl (!decide (x=y))) H)
def AE:R2:=O9
theorem sh{i j:Int}:decide (V.int i=V.int j)=(i==j):=by
 rw[cR];simp
theorem My{i j:Bool}:decide (V.bl i=V.bl j)=(i==j):=by
 rw[cR];simp
theorem yW{i j:Str}:decide (V.str i=V.str j)=(i==j):=by
 rw[cR];simp
theorem yF{i j:Array UInt8}:decide (V.byt i=V.byt j)=(i.toList==j.toList):=by
 rw[cR];cases i;cases j;simp
section
variable{X:Cx}{a b c:Expr}{ta tb tc:TE}{pos:Pos}
theorem gC{pins:List (Addr×Obj)}{σ:St}{H:Hp}{s:Shared}{Q:VK}{k k':Bool}(I:Inv X pins σ H s)(q:Q (.bl k) H)(e:k=k'):EP X pins σ Q (.bool k') s:=by
 subst e;exact⟨.bl k,H,I,rfl,q⟩
theorem OI:gB X (compareOp .Eq) zm:=by
 intro pins s σ H x y v u Q I rx ry h;obtain⟨hs,q⟩:=h;cases x with
 |non=>
  cases rx;cases y with
  |non=>cases ry;exact PySem.EqNone.eq_none_none (gC I q (by simp))
  |bl j=>cases ry;exact PySem.EqNone.eq_none_bool (gC I q (by simp))
  |int j=>obtain⟨t',rfl⟩:=ry;exact PySem.EqNone.eq_none_int (gC I q (by simp))
  |str j=>obtain⟨t',rfl⟩:=ry;exact PySem.EqNone.eq_none_str (gC I q (by simp))
  |_=>exact absurd (show false=true from hs) bI
 |bl i=>
  cases rx;cases y with
  |non=>cases ry;exact PySem.EqNone.eq_bool_none (gC I q (by simp))
  |bl j=>cases ry;exact eq_bool (gC I q My)
  |str j=>obtain⟨t',rfl⟩:=ry;exact PySem.EqMixed.eq_bool_str (gC I q (by simp))
  |_=>exact absurd (show false=true from hs) bI
 |int i=>
  obtain⟨t,rfl⟩:=rx;cases y with
  |non=>cases ry;exact PySem.EqNone.eq_int_none (gC I q (by simp))
  |int j=>obtain⟨t',rfl⟩:=ry;exact eq_int (gC I q sh)
  |str j=>obtain⟨t',rfl⟩:=ry;exact PySem.EqMixed.eq_int_str (gC I q (by simp))
  |_=>exact absurd (show false=true from hs) bI
 |str i=>
  obtain⟨t,rfl⟩:=rx;cases y with
  |non=>cases ry;exact PySem.EqNone.eq_str_none (gC I q (by simp))
  |bl j=>cases ry;exact PySem.EqMixed.eq_str_bool (gC I q (by simp))
  |int j=>obtain⟨t',rfl⟩:=ry;exact PySem.EqMixed.eq_str_int (gC I q (by simp))
  |str j=>obtain⟨t',rfl⟩:=ry;exact eq_str (gC I q yW)
  |_=>exact absurd (show false=true from hs) bI
 |byt i=>
  obtain⟨t,rfl⟩:=rx;cases y with
  |byt j=>obtain⟨t',rfl⟩:=ry;exact PySem.W.eq_bytes (gC I q yF)
  |_=>exact absurd (show false=true from hs) bI
 |_=>cases y<;>exact absurd (show false=true from hs) bI
theorem X0:gB X (compareOp .NotEq) AE:=by
 intro pins s σ H x y v u Q I rx ry h;obtain⟨hs,q⟩:=h;cases x with
 |non=>
  cases rx;cases y with
  |non=>cases ry;exact PySem.EqNone.ne_none_none (gC I q (by simp))
  |bl j=>cases ry;exact PySem.EqNone.ne_none_bool (gC I q (by simp))
  |int j=>obtain⟨t',rfl⟩:=ry;exact PySem.EqNone.ne_none_int (gC I q (by simp))
  |str j=>obtain⟨t',rfl⟩:=ry;exact PySem.EqNone.ne_none_str (gC I q (by simp))
  |_=>exact absurd (show false=true from hs) bI
 |bl i=>
  cases rx;cases y with
  |non=>cases ry;exact PySem.EqNone.ne_bool_none (gC I q (by simp))
  |bl j=>cases ry;exact ne_bool (gC I q (congrArg not My))
  |str j=>obtain⟨t',rfl⟩:=ry;exact PySem.EqMixed.ne_bool_str (gC I q (by simp))
  |_=>exact absurd (show false=true from hs) bI
 |int i=>
  obtain⟨t,rfl⟩:=rx;cases y with
  |non=>cases ry;exact PySem.EqNone.ne_int_none (gC I q (by simp))
  |int j=>obtain⟨t',rfl⟩:=ry;exact ne_int (gC I q (congrArg not sh))
  |str j=>obtain⟨t',rfl⟩:=ry;exact PySem.EqMixed.ne_int_str (gC I q (by simp))
  |_=>exact absurd (show false=true from hs) bI
 |str i=>
  obtain⟨t,rfl⟩:=rx;cases y with
  |non=>cases ry;exact PySem.EqNone.ne_str_none (gC I q (by simp))
  |bl j=>cases ry;exact PySem.EqMixed.ne_str_bool (gC I q (by simp))
  |int j=>obtain⟨t',rfl⟩:=ry;exact PySem.EqMixed.ne_str_int (gC I q (by simp))
  |str j=>obtain⟨t',rfl⟩:=ry;exact ne_str (gC I q (congrArg not yW))
  |_=>exact absurd (show false=true from hs) bI
 |byt i=>
  obtain⟨t,rfl⟩:=rx;cases y with
  |byt j=>obtain⟨t',rfl⟩:=ry;exact PySem.W.ne_bytes (gC I q (congrArg not yF))
  |_=>exact absurd (show false=true from hs) bI
 |_=>cases y<;>exact absurd (show false=true from hs) bI
theorem V3:gB X (compareOp .Lt) (ja λi j=>.bl (decide (i<j))):=rZ λ_ _ _ _ _ _ _ q=>lt_int q
theorem WD:gB X (compareOp .LtE) (ja λi j=>.bl (decide (i<=j))):=rZ λ_ _ _ _ _ _ _ q=>le_int q
theorem Rp:gB X (compareOp .Gt) (ja λi j=>.bl (decide (j<i))):=rZ λ_ _ _ _ _ _ _ q=>gt_int q
theorem ZG:gB X (compareOp .GtE) (ja λi j=>.bl (decide (j<=i))):=rZ λ_ _ _ _ _ _ _ q=>ge_int q
theorem RD:gB X (compareOp .In) (λx y H Q=>∃i j,x=.str i/\y=.str j/\Q (.bl (!(Builtin.Str.occurrences j i 0 j.length 1).isEmpty)) H):=by
 intro pins s σ H x y v u Q I rx ry h;obtain⟨i,j,rfl,rfl,q⟩:=h;obtain⟨t,rfl⟩:=rx;obtain⟨t',rfl⟩:=ry;exact in_str (gC I q rfl)
theorem XW:gB X (compareOp .Is) (λx y H Q=>y=.non/\Q (.bl (decide (x=.non))) H):=by
 intro pins s σ H x y v u Q I rx ry h;obtain⟨rfl,q⟩:=h;cases ry;refine is_none_gen (gC I q ?_);cases x<;>first
  |(cases rx;rfl)
  |(obtain⟨t,rfl⟩:=rx;rfl)
theorem Qb:gB X (compareOp .IsNot) (λx y H Q=>y=.non/\Q (.bl (!decide (x=.non))) H):=by
 intro pins s σ H x y v u Q I rx ry h;obtain⟨rfl,q⟩:=h;cases ry;refine isnot_none_gen (gC I q ?_);cases x<;>first
  |(cases rx;rfl)
  |(obtain⟨t,rfl⟩:=rx;rfl)
theorem JO(b:Expr){op:CmpOp}(h:op≠ .In:=by decide)(h2:op≠ .NotIn:=by decide):behindInMarks op b=false:=by
 have e1:(op==CmpOp.In)=false:=by cases op<;>first | rfl | exact absurd rfl h
 have e2:(op==CmpOp.NotIn)=false:=by cases op<;>first | rfl | exact absurd rfl h2
 cases b<;>simp[behindInMarks,e1,e2]
theorem Yw{op:CmpOp}{r:R2}(ho:gB X (compareOp op) r)(ha:PE X a ta)(hb:PE X b tb)(hm:behindInMarks op b=false):PE X (.Compare a [op] [b] pos) (mz r ta tb):=by
 intro pins s σ H Q I h;exact wpAny_Compare1 (vL ha hb I h λv u s2 x y H2 I2 rx ry q=>ho pins s2 σ H2 x y v u Q I2 rx ry q) hm
def q9(t:TE):TT:=λσ H Q=>t σ H λx H'=>pG x H' Q
theorem SS{op:CmpOp}{r:R2}(ho:gB X (compareOp op) r)(ha:PE X a ta)(hb:PE X b tb)(hm:behindInMarks op b=false):PT X (.Compare a [op] [b] pos) (q9 (mz r ta tb)):=by
 intro pins s σ H Q I h;refine wpAny_isTrue_Compare1 (fJ (ha pins s σ H _ I h) λv s1 ⟨x,H1,I1,r1,q1⟩=>fJ (hb pins s1 σ H1 _ I1 q1) λu s2 ⟨y,H2,I2,r2,q2⟩=>
  fJ (ho pins s2 σ H2 x y v u _ I2 r1 r2 q2) λc s3 ⟨z,H3,I3,r3,k,e,q3⟩=>?_) hm
 subst e;cases r3;exact eY ⟨H3,I3,q3⟩
def K4(r r':R2)(ta tb tc:TE):TE:=λσ H Q=>ta σ H λx H1=>tb σ H1 λy H2=>r x y H2 λz H3=>∃k,z=.bl k/\
 (if k=true then tc σ H3 λw' H4=>r' y w' H4 Q else Q (.bl false) H3)
theorem WA{op op':CmpOp}{r r':R2}(ho:gB X (compareOp op) r)(ho':gB X (compareOp op') r')(ha:PE X a ta)(hb:PE X b tb)(hc:PE X c tc)
  (hm:lastMarks [op,op'] [b,c]=false:=by with_unfolding_all rfl):PT X (.Compare a [op,op'] [b,c] pos) (q9 (K4 r r' ta tb tc)):=by
 intro pins s σ H Q I h;refine isTrue_chain (fJ (ha pins s σ H _ I h) λv s1 ⟨x,H1,I1,r1,q1⟩=>test_link (fJ (hb pins s1 σ H1 _ I1 q1) λu s2 ⟨y,H2,I2,r2,q2⟩=>
  fJ (ho pins s2 σ H2 x y v u _ I2 r1 r2 q2) λd s3 ⟨z,H3,I3,r3,k,e,q3⟩=>?_)) hm
 subst e;cases r3;refine eY ?_;cases k with
 |false=>
  obtain⟨k',e',q'⟩:=q3;cases e';exact ite_ff ⟨H3,I3,q'⟩
 |true=>
  refine ite_tt (test_last (fJ (hc pins s3 σ H3 _ I3 q3) λw' s4 ⟨z',H4,I4,r4,q4⟩=>fJ (ho' pins s4 σ H4 y z' u w' _ I4 r2 r4 q4) λd' s5 ⟨z2,H5,I5,r5,k2,e2,q5⟩=>?_));subst e2;cases r5;exact eY ⟨H5,I5,q5⟩
theorem pN:(sizeLine:Nat)<2^63:=by rw[eJ];decide
theorem Sv:gB X (binaryOp .Add) (λx y H Q=>∃i j,x=.str i/\y=.str j/\i.length+j.length<=sizeLine/\Q (.str (i++j)) H):=by
 intro pins s σ H x y v u Q I rx ry h;obtain⟨i,j,rfl,rfl,hz,q⟩:=h;obtain⟨t,rfl⟩:=rx;obtain⟨t',rfl⟩:=ry;exact add_str (λt' tk=>⟨.str (i++j),H,I.tok _,⟨()⟩,q⟩) hz
theorem iO{x:V}{us:List Value}(r:Vals [x] us):∃u,us=[u]/\RelV x u:=by
 cases r with
 |cons r1 r2=>cases r2;exact⟨(),r1⟩
theorem oU{x y:V}{us:List Value}(r:Vals [x,y] us):∃u w',us=[u,w']/\RelV x u/\RelV y w':=by
 cases r with
 |cons r1 r2=>
  cases r2 with
  |cons r3 r4=>cases r4;exact⟨_,(),r1,r3⟩
theorem P6:j6 X (.builtin "abs") (λxs H Q=>∃i,xs=[.int i]/\Q (.int (if i<0 then -i else i)) H):=by
 intro pins s σ H xs us Q I r h;obtain⟨i,rfl,q⟩:=h;obtain⟨u,rfl,t,rfl⟩:=iO r;exact call_abs_int λu tk=>⟨.int (if i<0 then -i else i),H,I.tok _,⟨()⟩,q⟩
theorem SL:j6 X (.type "int") (λxs H Q=>(∃i,xs=[.int i]/\Q (.int i) H)∨∃k,xs=[.bl k]/\Q (.int (if k then 1 else 0)) H):=by
 intro pins s σ H xs us Q I r h;rcases h with ⟨i,rfl,q⟩ | ⟨k,rfl,q⟩
 ·obtain⟨u,rfl,t,rfl⟩:=iO r;exact call_int_int ⟨.int i,H,I,⟨()⟩,q⟩
 ·obtain⟨u,rfl,r1⟩:=iO r;cases r1;exact call_int_bool ⟨.int (if k then 1 else 0),H,I.tok _,⟨()⟩,q⟩
theorem WS:j6 X (.type "str") (λxs H Q=>∃i,xs=[.int i]/\i.natAbs.log2<1920/\Q (.str (toString i)) H):=by
 intro pins s σ H xs us Q I r h;obtain⟨i,rfl,hz,q⟩:=h;obtain⟨u,rfl,t,rfl⟩:=iO r;exact PySem.P.str_of_int hz ⟨.str _,H,I.tok _,⟨()⟩,q⟩
end
structure ObjM(h:Heap)(x dx C:Addr)(mA:Str->Option Value):Prop where
 obj:h.get? x=some (PySem.W.instObj C dx)
 ns:h.Ns1 dx mA
 ne:dx≠x
theorem O5{h:Heap}{dx:Addr}{mA:Str->Option Value}(n:h.Ns1 dx mA):∃od,h.get? dx=some od/\∀name,PySem.W.lookIn name od=some (mA name):=by
 obtain⟨o,es,ep,ho,hd,hk,_,hm⟩:=n;refine⟨o,ho,λname=>?_⟩;have e:=hm name;unfold nsFind findBy at e;rw[←Array.find?_toList] at e;unfold PySem.W.lookIn;rw[hd];dsimp only;split
 ·rename_i y q;rw[q] at e;exact congrArg some e
 ·rename_i q;rw[q] at e;have a:es.toList.any (·.refKey)=false:=by
   rw[dE];intro y hy;obtain⟨z,t,hkey⟩:=hk y (Array.mem_toList_iff.mp hy);simp[DictEntry.refKey,hkey]
  have a':¬es.toList.any (·.refKey)=true:=by rw[a];exact bI
  rw[if_neg a'];exact congrArg some e
theorem ObjM.look{h:Heap}{x dx C:Addr}{mA:Str->Option Value}(I:ObjM h x dx C mA):∃od,PySem.W.InstAt h x (PySem.W.instObj C dx) C (some od)/\∀name,PySem.W.lookIn name od=some (mA name):=
 let ⟨od,ho,hl⟩:=O5 I.ns
 ⟨od,⟨I.obj,rfl,rfl,ho⟩,hl⟩
section
variable{prog:Program}{w:World}{A:Around}{E:Value->Shared->Prop}{s:Shared}{K:FG}{x dx C f:Addr}{mA:Str->Option Value}{name:Str}{v:Value}
theorem Q2{expr:Bool}{Q:Value->Shared->Prop}(X:K.In s.heap)(I:ObjM s.heap x dx C mA)(hg:PySem.W.plainGet K C name=true)(hh:PySem.W.hasDictIn K C=true)
  (ha:PySem.W.findIn K (.ref C) name=some none) (hv:mA name=some v) (hv':PySem.W.handedIn v=true) (h:Q v {s with toks:=s.toks+1}):
  wpAny (model prog w) A (getAttr (.ref x) name expr) Q E s:=by
 obtain⟨od,J,hl⟩:=I.look;exact PySem.W.get_value X J (PySem.W.plainGet_of hg).1 (PySem.W.findObj_own hh ha rfl (by rw[hl,hv])) hv' h
theorem XR{pl:Sem Bool}{Q:Value×List Value->Shared->Prop}(X:K.In s.heap)(I:ObjM s.heap x dx C mA)(hg:PySem.W.plainGet K C name=true)
  (hf:PySem.W.findIn K (.ref C) name=some (some (.ref f))) (ht:PySem.W.isFn K (.ref f)=true) (hv:mA name=none) (h:Q (.ref f,[.ref x]) s):
  wpAny (model prog w) A (getMethod (.ref x) name pl) Q E s:=by
 obtain⟨od,J,hl⟩:=I.look;exact PySem.W.method_fn X J (PySem.W.plainGet_of hg).1 (PySem.W.plainGet_of hg).2 hf (beq_iff_eq.mp ht) (by show (PySem.W.lookIn name od).map (·.isSome)=some false;rw[hl,hv];rfl) h
theorem VV{ns:List Str}{Q:Unit->Shared->Prop}(X:K.In s.heap)(I:ObjM s.heap x dx C mA)
  (hs:PySem.W.findIn K (.ref C) "__setattr__"=some (some (.builtin "object.__setattr__"))) (hp:PySem.W.plainOver K C=true) (ht:PySem.W.takerIn K C name=some none) (hh:PySem.W.hasDictIn K C=true)
  (hw:PySem.Within mA ns) (hsz:ns.length<=sizeLine)
  (h:∀h',ObjM h' x dx C (λy=>if y=name then some v else mA y)->Heap.SameBut dx s.heap h'->Q () {s with heap:=h',toks:=s.toks+2}):
  wpAny (model prog w) A (setAttr (.ref x) name v) Q E s:=by
 obtain⟨od,J,hl⟩:=I.look;refine PySem.W.set_plain X J hs (PySem.W.osa_open (s:={s with toks:=s.toks+1}) (r:=none) X J hp ht λb=>?_);obtain⟨cd,hc,hd'⟩:=PySem.W.any_some hh;have hx:s.heap.get? x=some ⟨.ref C,some dx,.plain,#[]⟩:=I.obj;refine eE (eX (eE (eE (wpAny_loadPart hx (eE (PySem.W.Looks.here (s:={s with toks:=s.toks+1}) (PySem.W.looks_clsIn X hc) ?_))))));rw[hd'];refine eX (a:=some dx) (eE (eX (eE ?_)))
 refine wpAny_nsSet1 (s:={s with toks:=s.toks+1}) I.ns λh' hn2 hs2=>?_;obtain⟨oD,esD,epD,hoD,hdD,hcD⟩:=hn2.count (PySem.Within.cons name v hw);refine eE (wpAny_lookBehind hoD (by rw[hdD];exact pastItsLine_dict (bK hcD (by rw[bN];omega))) ?_);exact eX (h _ ⟨(hs2.2 _ (Ne.symm I.ne)).trans I.obj,hn2,I.ne⟩ hs2)
theorem SJ{R:Result->Shared->Prop}{vs:List Value}{kw:List (Str×Value)}(X:K.In s.heap)(hm:PySem.W.makesIn K C=true)
  (hi:PySem.W.findIn K (.ref C) "__init__"=some (some (.ref f))) (hf:PySem.W.typeIn K (.ref f)=some (.type "function"))
  (h:codeAny (model prog w) (A.under (.builtin "type.__call__" ⟨.ref C::vs,kw⟩)) (.call (.ref f) ⟨.ref (s.heap.objs.size+1)::vs,kw⟩) (PySem.W.InitBack (s.heap.objs.size+1) R)
   {s with heap:=(s.heap.push PySem.W.emptyDict).push (PySem.W.instObj C s.heap.objs.size)}):
  codeAny (model prog w) A (.call (.ref C) ⟨vs,kw⟩) R s:=by
 obtain⟨hh,g,d,t,os⟩:=s;exact PySem.W.make_core (PySem.W.makes_of X hm) (PySem.W.looks_findIn X hi) (λself=>PySem.W.bind_fn X self hf) (.inl rfl) h
theorem Qg{R:Result->Shared->Prop}(X:K.In s.heap)(hm:PySem.W.makesIn K C=true)
  (hi:PySem.W.findIn K (.ref C) "__init__"=some (some (.builtin "object.__init__")))
  (hb:∀self,PySem.W.Looks (model prog w) s.heap (bindSpecial (.builtin "object.__init__") self) (.builtin "object.__init__",[self]))
  (h:codeAny (model prog w) (A.under (.builtin "type.__call__" ⟨[.ref C],[]⟩)) (.call (.builtin "object.__init__") ⟨[.ref (s.heap.objs.size+1)],[]⟩) (PySem.W.InitBack (s.heap.objs.size+1) R)
   {s with heap:=(s.heap.push PySem.W.emptyDict).push (PySem.W.instObj C s.heap.objs.size)}):
  codeAny (model prog w) A (.call (.ref C) ⟨[],[]⟩) R s:=by
 obtain⟨hh,g,d,t,os⟩:=s;exact PySem.W.make_core (PySem.W.makes_of X hm) (PySem.W.looks_findIn X hi) hb (.inr ⟨rfl,rfl⟩) h
end
noncomputable def fK(f:Str)(v:V):List (Str×V)->List (Str×V)
 |[]=>[(f,v)]
 |(g,x)::r=>if g=f then (g,v)::r else (g,x)::fK f v r
theorem gc(f g:Str)(v:V):∀fs:List (Str×V),(fK f v fs).lookup g=if g=f then some v else fs.lookup g
 |[]=>by
  show List.lookup g [(f,v)]=_;by_cases h:g=f
  ·have hb:(g==f)=true:=beq_iff_eq.mpr h;simp only[List.lookup,hb,if_pos h]
  ·have hb:(g==f)=false:=beq_eq_false_iff_ne.mpr h;simp only[List.lookup,hb,if_neg h]
 |(k,x)::r=>by
  have ih:=gc f g v r;rw[show fK f v ((k,x)::r)=(if k=f then (k,v)::r else (k,x)::fK f v r) from rfl];by_cases hk:k=f
  ·rw[if_pos hk];by_cases h:g=k
   ·have hb:(g==k)=true:=beq_iff_eq.mpr h;simp only[List.lookup,hb,if_pos (h.trans hk)]
   ·have hb:(g==k)=false:=beq_eq_false_iff_ne.mpr h;simp only[List.lookup,hb,if_neg (λe:g=f=>h (e.trans hk.symm))]
  ·rw[if_neg hk];by_cases h:g=k
   ·have hb:(g==k)=true:=beq_iff_eq.mpr h;simp only[List.lookup,hb,if_neg (λe:g=f=>hk (h.symm.trans e))]
   ·have hb:(g==k)=false:=beq_eq_false_iff_ne.mpr h;simp only[List.lookup,hb];exact ih
theorem vF(f:Str)(v:V):∀fs:List (Str×V),f∈(fK f v fs).map (·.1)/\∀g,g∈fs.map (·.1)->g∈(fK f v fs).map (·.1)
 |[]=>⟨by simp[fK],λg h=>by simp at h⟩
 |(k,x)::r=>by
  obtain⟨i1,i2⟩:=vF f v r;rw[show fK f v ((k,x)::r)=(if k=f then (k,v)::r else (k,x)::fK f v r) from rfl];by_cases hk:k=f
  ·rw[if_pos hk];subst hk;exact⟨by simp,λg h=>by simpa using h⟩
  ·rw[if_neg hk];refine⟨?_,λg h=>?_⟩
   ·rw[bT];exact bM _ i1
   ·rw[bT] at h ⊢;rcases aT.mp h with e | e
    ·exact aT.mpr (.inl e)
    ·exact bM _ (i2 g e)
theorem Fq(f:Str)(v:V):∀fs:List (Str×V),(fK f v fs).length<=fs.length+1
 |[]=>by simp[fK]
 |(k,x)::r=>by
  have ih:=Fq f v r;rw[show fK f v ((k,x)::r)=(if k=f then (k,v)::r else (k,x)::fK f v r) from rfl];by_cases hk:k=f
  ·rw[if_pos hk,bN,bN];omega
  ·rw[if_neg hk,bN,bN];omega
theorem RelO.some_of{v:V}{o:Option Value}(r:RelO (some v) o):∃u,o=some u/\RelV v u:=by
 cases o with
 |none=>exact (show False from r).elim
 |some u=>exact⟨u,rfl,r⟩
theorem RelO.none_of{o:Option Value}(r:RelO none o):o=none:=by
 cases o with
 |none=>rfl
 |some u=>exact (show False from r).elim
theorem OL{v:V}{u:Value}(r:RelV v u):PySem.W.handedIn u=true:=by
 cases v with
 |non=>cases (show u=Value.none from r);rfl
 |bl b=>cases (show u=Value.bool b from r);rfl
 |int i=>obtain⟨t,e⟩:=(show ∃t,u=Value.int i t from r);cases e;rfl
 |str x=>obtain⟨t,e⟩:=(show ∃t,u=Value.str x t from r);cases e;rfl
 |byt b=>obtain⟨t,e⟩:=(show ∃t,u=Value.bytes b t from r);cases e;rfl
 |flt b=>obtain⟨t,e⟩:=(show ∃t,u=Value.float b t from r);cases e;rfl
 |ref a=>cases (show u=Value.ref a from r);rfl
 |ty n=>cases (show u=Value.type n from r);rfl
section
variable{P:Program}{w:World}{H H':Hp}{h h':Heap}{a C dx:Addr}{fs fs':List (Str×V)}
theorem qV(hok:HOk P w H h)(e:H a=some (.ins C dx fs)):∃mA,ObjM h a dx C mA/\(∀f,RelO (fs.lookup f) (mA f))/\PySem.Within mA (fs.map (·.1))/\fs.length<=1000/\H dx=some (.own a):=by
 obtain⟨d,z,ne,ob,mA,n,r,q⟩:=(show ObjOk P w H h a (.ins C dx fs) from hok a _ e);exact⟨mA,⟨ob,n,ne⟩,r,q,z,d⟩
end
structure Cls(K:FG)(C:Addr):Prop where
 pg:PySem.W.plainGet K C Str.empty=true
 hd:PySem.W.hasDictIn K C=true
 po:PySem.W.plainOver K C=true
 sa:PySem.W.findIn K (.ref C) "__setattr__"=some (some (.builtin "object.__setattr__"))
theorem Cls.get{K:FG}{C:Addr}(c:Cls K C)(f:Str):PySem.W.plainGet K C f=true:=c.pg
def NoAttr(K:FG)(C:Addr)(f:Str):Prop:=PySem.W.findIn K (.ref C) f=some none
theorem NoAttr.taker{K:FG}{C:Addr}{f:Str}(n:NoAttr K C f):PySem.W.takerIn K C f=some none:=by
 unfold PySem.W.takerIn;rw[show PySem.W.findIn K (.ref C) f=some none from n];rfl
structure jv(K:FG)(C:Addr)(m:Str)(f:Addr):Prop where
 at_:PySem.W.findIn K (.ref C) m=some (some (.ref f))
 fn:PySem.W.isFn K (.ref f)=true
 kp:PySem.W.keepIn K (.ref f)=true
section
variable{X:Cx}{pins:List (Addr×Obj)}{σ:St}{H:Hp}{s:Shared}{a C dx:Addr}{fs:List (Str×V)}{f:Str}{v:V}{A:Around}{E:Value->Shared->Prop}
theorem Z0{b:Bool}{Q:Value->Shared->Prop}(I:Inv X pins σ H s)(e:H a=some (.ins C dx fs))(c:Cls X.K C)(n:NoAttr X.K C f)(l:fs.lookup f=some v)
  (h:∀u s',Inv X pins σ H s'->RelV v u->Q u s'):wpAny (model X.prog X.w) A (getAttr (.ref a) f b) Q E s:=by
 obtain⟨mA,O,r,_,_,_⟩:=qV I.hok e;obtain⟨u,hu,ru⟩:=RelO.some_of (v:=v) (o:=mA f) (by rw[←l];exact r f);exact Q2 I.kIn O (c.get f) c.hd n hu (OL ru) (h u _ (I.tok _) ru)
theorem F6{m:Str}{g:Addr}{pl:Sem Bool}{Q:Value×List Value->Shared->Prop}(I:Inv X pins σ H s)(e:H a=some (.ins C dx fs))(c:Cls X.K C)(k:jv X.K C m g)(l:fs.lookup m=none)
  (h:Q (.ref g,[.ref a]) s):wpAny (model X.prog X.w) A (getMethod (.ref a) m pl) Q E s:=by
 obtain⟨mA,O,r,_,_,_⟩:=qV I.hok e;have hn:mA m=none:=RelO.none_of (by rw[←l];exact r m);exact XR I.kIn O (c.get m) k.at_ k.fn hn h
theorem O1{y:V}{u:Value}{Q:Unit->Shared->Prop}(I:Inv X pins σ H s)(e:H a=some (.ins C dx fs))(c:Cls X.K C)(n:NoAttr X.K C f)(hl:fs.length<1000)(ry:RelV y u)
  (h:∀s',Inv X pins σ (upd H a (.ins C dx (fK f y fs))) s'->Q () s'):wpAny (model X.prog X.w) A (setAttr (.ref a) f u) Q E s:=by
 obtain⟨mA,O,r,wi,_,ho⟩:=qV I.hok e;have hz:(fs.map (·.1)).length<=sizeLine:=by rw[aQ,eJ];omega
 refine VV I.kIn O c.sa c.po n.taker c.hd wi hz λh' O' sb=>h _ ?_;have hd:∃o,h'.get? dx=some o:=let ⟨o,_,_,e',_⟩:=O'.ns;⟨o,e'⟩;refine I.write (x:=a) (e:=dx) (by rw[e];exact True.intro) (.inr ho) (λb q hb z=>(sb.2 b hb).trans z) hd ?_;refine⟨by rw[fG O.ne];exact ho,?_,O.ne,O'.obj,_,O'.ns,λg=>?_,λg hg=>?_⟩
 ·have:=Fq f y fs;omega
 ·show RelO ((fK f y fs).lookup g) (if g=f then some u else mA g);rw[gc];by_cases q:g=f
  ·rw[if_pos q,if_pos q];exact ry
  ·rw[if_neg q,if_neg q];exact r g
 ·by_cases q:g=f
  ·rw[q];exact (vF f y fs).1
  ·refine (vF f y fs).2 g (wi g λz=>hg ?_);show (if g=f then some u else mA g)=none;rw[if_neg q];exact z
theorem Inv.made(I:Inv X pins σ H s):Inv X pins σ (upd (upd H s.heap.objs.size (.own (s.heap.objs.size+1))) (s.heap.objs.size+1) (.ins C s.heap.objs.size []))
  {s with heap:=(s.heap.push PySem.W.emptyDict).push (PySem.W.instObj C s.heap.objs.size)}:=by
 have e1:(s.heap.push PySem.W.emptyDict).get? s.heap.objs.size=some PySem.W.emptyDict:=bD s.heap rfl;have e2:((s.heap.push PySem.W.emptyDict).push (PySem.W.instObj C s.heap.objs.size)).get? (s.heap.objs.size+1)=some (PySem.W.instObj C s.heap.objs.size):=by
  have:=bD (s.heap.push PySem.W.emptyDict) (o:=PySem.W.instObj C s.heap.objs.size) rfl
  rwa [cN] at this
 have e3:(s.heap.push PySem.W.emptyDict).Ns s.heap.objs.size (λ_=>none):=⟨PySem.W.emptyDict,#[],_,e1,rfl,(λe he=>absurd he (by simp)),λ_=>rfl⟩;have I1:=I.laid (a:=s.heap.objs.size) (o:=.own (s.heap.objs.size+1)) (h':=s.heap.push PySem.W.emptyDict) (t':=s.toks) (λb u q=>aS _ q) (aP _) ⟨_,e1⟩;refine I1.laid (a:=s.heap.objs.size+1) (o:=.ins C s.heap.objs.size []) (t':=s.toks) (λb u q=>aS _ q) (Nat.le_of_eq (cN _ _)) ?_
 have ne:s.heap.objs.size≠s.heap.objs.size+1:=aU (cS _);refine⟨by rw[fG ne,fk],a9 _,ne,e2,λ_=>none,(Heap.Ns1.of_empty e3).at λo q=>aS _ q,λ_=>True.intro,λy hy=>absurd rfl hy⟩
theorem SO{prog:Program}{w:World}{env:Env}{e:Expr}{f:Str}{pos:Pos}{s:Shared}{Q:Value->Shared->Prop}(hb:attributeBase e f env (eval e env)=eval e env)
  (h:wpAny (model prog w) A (eval e env) (λo s₁=>wpAny (model prog w) A (getAttr o f true) Q E s₁) E s):wpAny (model prog w) A (eval (.Attribute e f pos) env) Q E s:=
 Attribute_any_ h (by rw[arm_eval_Attribute,hb])
end
inductive Qi (K:FG) (f:Str) (x:V) (H1:Hp) (Q:VK):Prop
 |mk (a C dx:Addr) (fs:List (Str×V)) (v:V) (e:x=.ref a) (h:H1 a=some (.ins C dx fs)) (c:Cls K C) (n:NoAttr K C f) (l:fs.lookup f=some v) (r:Q v H1)
def wZ(K:FG)(ta:TE)(f:Str):TE:=λσ H Q=>ta σ H λx H1=>Qi K f x H1 Q
def BP(K:FG)(ta tv:TE)(f:Str):TS:=λD σ H=>tv σ H λy H1=>ta σ H1 λx H2=>∃a C dx fs,x=.ref a/\H2 a=some (.ins C dx fs)/\Cls K C/\NoAttr K C f/\fs.length<1000/\
 D.nx σ (upd H2 a (.ins C dx (fK f y fs)))
section
variable{X:Cx}{o e value:Expr}{f:Str}{pos pos' tpos:Pos}{ta tv:TE}
theorem V5(he:PE X e ta)(hb:attributeBase e f X.env (eval e X.env)=eval e X.env):PE X (.Attribute e f pos) (wZ X.K ta f):=by
 intro pins s σ H Q I h;refine SO hb (fJ (he pins s σ H _ I h) λu s1 ⟨x,H1,I1,rx,a,C,dx,fs,v,ex,ea,c,n,l,q⟩=>?_);subst ex;obtain rfl:u=Value.ref a:=rx;exact Z0 I1 ea c n l λu' s2 I2 ru=>⟨v,H1,I2,ru,q⟩
theorem ZN(ha:PE X o ta)(hv:PE X value tv)(hs:swapsWith value (some (.Attribute o f pos')) pos.line X.env=pure false):PS X (.Assign [.Attribute o f pos'] value pos) (BP X.K ta tv f):=by
 intro pins s σ H D I h;refine plainObj_wpAny_Assign_Attribute (fJ (hv pins s σ H _ I h) λu s1 ⟨y,H1,I1,ry,q⟩=>fJ (ha pins s1 σ H1 _ I1 q) λov s2 ⟨x,H2,I2,rx,a,C,dx,fs,ex,ea,c,n,l,q2⟩=>?_) hs;subst ex;obtain rfl:ov=Value.ref a:=rx;exact O1 I2 ea c n l ry λs3 I3=>⟨σ,_,I3,q2⟩
end
section
variable{X:Cx}{pins:List (Addr×Obj)}{σ:St}{H:Hp}{s:Shared}{A:Around}{E:Value->Shared->Prop}{Q:Value->Shared->Prop}{c:Value}{b:Bool}
inductive ji (K:FG) (H:Hp):V->Value->Prop where
 |non:ji K H .non (.type "NoneType")
 |bl (x:Bool):ji K H (.bl x) (.type "bool")
 |int (i:Int):ji K H (.int i) (.type "int")
 |str (x:Str):ji K H (.str x) (.type "str")
 |flt (x:UInt64):ji K H (.flt x) (.type "float")
 |lst {a:Addr} {xs:List V} (e:H a=some (.lst xs)):ji K H (.ref a) (.type "list")
 |frz {a:Addr} {o:Obj} {xs:List V} (e:H a=some (.frz o (.lst xs))):ji K H (.ref a) (.type "list")
 |tup {a:Addr} {xs:List V} (e:H a=some (.tup xs)):ji K H (.ref a) (.type "tuple")
 |dK {a:Addr} {kvs:List (gi×V)} (e:H a=some (.dK kvs)):ji K H (.ref a) (.type "dict")
 |dT {a:Addr} {kvs:List (List gi×V)} (e:H a=some (.dT kvs)):ji K H (.ref a) (.type "dict")
 |ins {a C dx:Addr} {fs:List (Str×V)} (e:H a=some (.ins C dx fs)) (cl:Cls K C) (ha:PySem.W.findIn K (.ref C) "__class__"=some (some (.builtin "object.__class__")))
   (hn:PySem.W.specialIn K (.builtin "object.__class__") "__get__"=some (some (.builtin "getset_descriptor.__get__"))) (htk:PySem.W.takesIn K (.builtin "object.__class__")=some true)
   (hm:PySem.W.mroIn K C (.type "object")=some true):ji K H (.ref a) (.ref C)
theorem OE{x:V}{u t:Value}(I:Inv X pins σ H s)(rx:RelV x u)(ty:ji X.K H x t)(e:PySem.W.kitOne X.K t c=some b)(h:∀tk,Q (.bool b) {s with toks:=tk}):
  wpAny (model X.prog X.w) A (call (.builtin "isinstance") [u,c]) Q E s:=by
 cases ty with
 |non=>cases (show u=Value.none from rx);exact PySem.W.kia_one PySem.W.kitx_none I.kIn True.intro e (λz=>nomatch z) h
 |bl y=>cases (show u=Value.bool y from rx);exact PySem.W.kia_one PySem.W.kitx_bool I.kIn True.intro e (λz=>nomatch z) h
 |int i=>obtain⟨t,q⟩:=(show ∃t,u=Value.int i t from rx);cases q;exact PySem.W.kia_one PySem.W.kitx_int I.kIn True.intro e (λz=>nomatch z) h
 |str y=>obtain⟨t,q⟩:=(show ∃t,u=Value.str y t from rx);cases q;exact PySem.W.kia_one PySem.W.kitx_str I.kIn True.intro e (λz=>nomatch z) h
 |flt y=>obtain⟨t,q⟩:=(show ∃t,u=Value.float y t from rx);cases q;exact PySem.W.kia_one PySem.W.kitx_float I.kIn True.intro e (λz=>nomatch z) h
 |@lst a xs ea=>
  cases (show u=Value.ref a from rx);obtain⟨_,_,n,_,h1⟩:=(show ObjOk X.prog X.w H s.heap a (.lst xs) from I.hok a _ ea);exact PySem.W.kia_one PySem.W.kitx_list I.kIn ⟨_,h1,rfl⟩ e (λz=>nomatch z) h
 |@frz a ob xs ea=>
  cases (show u=Value.ref a from rx);obtain⟨_,_,_,n,_,h1⟩:=(show ObjOk X.prog X.w H s.heap a (.frz ob (.lst xs)) from I.hok a _ ea);exact PySem.W.kia_one PySem.W.kitx_list I.kIn ⟨_,h1,rfl⟩ e (λz=>nomatch z) h
 |@tup a xs ea=>
  cases (show u=Value.ref a from rx);obtain⟨_,_,_,p⟩:=(show ObjOk X.prog X.w H s.heap a (.tup xs) from I.hok a _ ea);obtain⟨o,h1,h2,_⟩:=p;exact PySem.W.kia_one PySem.W.kitx_tuple I.kIn ⟨o,h1,h2⟩ e (λz=>nomatch z) h
 |@dK a kvs ea=>
  cases (show u=Value.ref a from rx);obtain⟨_,_,vs,_,p⟩:=(show ObjOk X.prog X.w H s.heap a (.dK kvs) from I.hok a _ ea);obtain⟨o,es,ep,h1,h2,_⟩:=p;exact PySem.W.kia_one PySem.W.kitx_dict I.kIn ⟨o,h1,h2.1⟩ e (λz=>nomatch z) h
 |@dT a kvs ea=>
  cases (show u=Value.ref a from rx);obtain⟨_,_,xs,_,o,es,ep,h1,h2,_⟩:=(show ObjOk X.prog X.w H s.heap a (.dT kvs) from I.hok a _ ea);exact PySem.W.kia_one PySem.W.kitx_dict I.kIn ⟨o,h1,h2.1⟩ e (λz=>nomatch z) h
 |@ins a C dx fs ea cl ha hn htk hm=>
  cases (show u=Value.ref a from rx);obtain⟨mA,O,_⟩:=qV I.hok ea;obtain⟨od,J,_⟩:=O.look;exact PySem.W.kia_one (PySem.W.kitx_own (cl.get _) cl.hd ha hn htk hm) I.kIn J e (λz=>nomatch z) h
end
structure Room(k:Nat)(A:Around):Prop where
 hd:A.handled=none
 dp:A.depth+3*k+5<recursionLimit
 un:A.units+16*k+200<cLine
theorem Room.mono{j k:Nat}{A:Around}(r:Room k A)(h:j<=k):Room j A:=⟨r.hd,by have:=r.dp;omega,by have:=r.un;omega⟩
theorem Room.deeper{k:Nat}{A:Around}(r:Room (k+1) A)(env:Env):Room k (A.deeper env):=
 ⟨r.hd,by have:=r.dp;show A.depth+1+3*k+5<_;omega,by have:=r.un;show A.units+3+16*k+200<_;omega⟩
theorem VN{A:Around}{C:Addr}{us:List Value}{kw:List (Str×Value)}:(A.under (.builtin "type.__call__" ⟨.ref C::us,kw⟩)).depth=A.depth+1:=by
 first | rfl | simp[Around.under,Code.weight,Code.isCreation,Code.isGuard,Code.isCaller,Code.frames,Code.isFrame,guardIds]
theorem Pt{A:Around}{C:Addr}{us:List Value}{kw:List (Str×Value)}:(A.under (.builtin "type.__call__" ⟨.ref C::us,kw⟩)).units=A.units+1:=by
 first | rfl | simp[Around.under,Code.cUnits,Code.frames,Code.isFrame]
theorem Room.make{k:Nat}{A:Around}(r:Room (k+1) A)(C:Addr)(us:List Value)(kw:List (Str×Value)):Room k (A.under (.builtin "type.__call__" ⟨.ref C::us,kw⟩)):=
 ⟨r.hd,by have:=r.dp;rw[VN];omega,by have:=r.un;rw[Pt];omega⟩
theorem Room.depth{k:Nat}{A:Around}(r:Room k A):A.depth<recursionLimit:=by have:=r.dp;omega
theorem Room.units{k:Nat}{A:Around}(r:Room k A):A.units+64<cLine:=by have:=r.un;omega
def iU:TA:=λ_ H Q=>Q [] H
def je(ta:TE)(tr:TA):TA:=λσ H Q=>ta σ H λx H1=>tr σ H1 λxs H2=>Q (x::xs) H2
section
variable{X:Cx}{e:Expr}{es:List Expr}{te:TE}{t:TA}{pos:Pos}
theorem k6:PA X [] iU:=λ_ _ _ _ H Q I h=>Calls.spliced_nil ⟨[],H,I,.nil,h⟩
theorem kK(ha:PE X e te)(hr:PA X es t)(hs:starEach (e::es) X.env=(false,eval e X.env)::starEach es X.env:=by rfl):PA X (e::es) (je te t):=by
 intro pos pins s σ H Q I h;rw[hs];show wpAny _ _ (spliced ((false,eval e X.env)::backTo pos (starEach es X.env))) _ _ s;refine Calls.spliced_cons (fJ (ha pins s σ H _ I h) λu s1 ⟨x,H1,I1,r1,q1⟩=>?_);exact fJ (hr pos pins s1 σ H1 _ I1 q1) λus s2 ⟨xs,H2,I2,r2,q2⟩=>⟨x::xs,H2,I2,.cons r1 r2,q2⟩
inductive Q9 (xs:List V) (H1:Hp) (Q:VK):Prop
 |mk (l:xs.length<=sizeLine) (r:∀p,H1 p=none->Q (.ref p) (upd H1 p (.tup xs)))
def Bw(t:TA):TE:=λσ H Q=>t σ H λxs H1=>Q9 xs H1 Q
inductive Pg (xs:List V) (H1:Hp) (Q:VK):Prop
 |mk (l:xs.length<=sizeLine) (r:∀p,H1 p=none->Q (.ref p) (upd H1 p (.lst xs)))
def GE(t:TA):TE:=λσ H Q=>t σ H λxs H1=>Pg xs H1 Q
theorem Qs{x1}(h:PA X es t):PE X (.Tuple es x1 pos) (Bw t):=by
 intro pins s σ H Q I hq;refine wpAny_Tuple_spliced (fJ (h pos pins s σ H _ I hq) λus s1 ⟨xs,H1,I1,r,z,q⟩=>⟨by rw[←r.length];exact z,?_⟩);have hf:H1 s1.heap.objs.size=none:=I1.hok.fresh (aP _);refine⟨.ref s1.heap.objs.size,upd H1 s1.heap.objs.size (.tup xs),I1.laid (t':=s1.toks) (λb u e=>aS _ e) (aP _) ?_,rfl,q _ hf⟩;exact⟨z,us,r,⟨_,bD _ rfl,rfl,()⟩⟩
theorem Yi(h:PA X es t):PE X (.List es pos) (GE t):=by
 intro pins s σ H Q I hq;refine wpAny_List_spliced (fJ (h pos pins s σ H _ I hq) λus s1 ⟨xs,H1,I1,r,z,q⟩=>⟨by rw[←r.length];exact z,?_⟩);have hf:H1 s1.heap.objs.size=none:=I1.hok.fresh (aP _);refine⟨.ref s1.heap.objs.size,upd H1 s1.heap.objs.size (.lst xs),I1.laid (t':=s1.toks) (λb u e=>aS _ e) (aP _) ?_,rfl,q _ hf⟩;exact⟨z,us,0,r,bD _ rfl⟩
end
noncomputable abbrev Sp:=List V->Hp->VK->XK->Prop
noncomputable abbrev kN:=List Env->Hp->Shared->XK->Value->Shared->Prop
structure Env0(P:Program)(w:World)(K:FG)(mg:Str->Option Value)(base:Heap)(A:Around)(outer:List Env)(s:Shared)(H:Hp):Prop where
 frames:A.frames=some outer
 mod:Mod K mg base
 bs:∀b o,base.get? b=some o->s.heap.get? b=some o/\H b=none
 bsz:base.objs.size<=s.heap.objs.size
 funs:s.heap.FunFrames base outer
 frf:∀b∈jI outer,H b=none
 hok:HOk P w H s.heap
 bare:AllBare s.gens
def CE(outer:List Env)(P:Program)(w:World)(H:Hp)(s:Shared)(Q:VK)(u:Value)(s':Shared):Prop:=
 ∃v H',s'.os=s.os/\AllBare s'.gens/\Un (jI outer) [] H H' s.heap s'.heap/\HOk P w H' s'.heap/\RelV v u/\Q v H'
def CR(CX:kN)(outer:List Env)(P:Program)(w:World)(H:Hp)(s:Shared)(Q:VK)(E:XK)(r:Result)(s':Shared):Prop:=
 match r with
 |.ok (.ret u)=>CE outer P w H s Q u s'
 |.ok _=>False
 |.error e=>CX outer H s E e s'
structure gk(P:Program)(w:World)(K:FG)(mg:Str->Option Value)(base:Heap)(CX:kN)(k:Nat)(f:Addr)(fd:FuncData)(ps:List Str)(sp:Sp):Prop where
 len:∀vs H Q E,sp vs H Q E->vs.length=ps.length
 run:∀(A:Around) (outer:List Env) (s:Shared) (H:Hp) (args:Args) (us:List Value) (vs:List V) (Q:VK) (E:XK),Room k A->Env0 P w K mg base A outer s H->BindsTo s fd args (ps.zip us)->Vals vs us->sp vs H Q E->
  codeAny (model P w) A (.call (.ref f) args) (CR CX outer P w H s Q E) s
theorem Env0.make{P:Program}{w:World}{K:FG}{mg:Str->Option Value}{base:Heap}{A:Around}{outer:List Env}{s:Shared}{H:Hp}(e:Env0 P w K mg base A outer s H)(C:Addr)(us:List Value)(kw:List (Str×Value)):
  Env0 P w K mg base (A.under (.builtin "type.__call__" ⟨.ref C::us,kw⟩)) outer s H:=⟨by first | exact e.frames | (simpa [Around.under,Code.envs,Code.isFrame,pushEnvs] using e.frames),e.mod,e.bs,e.bsz,e.funs,e.frf,e.hok,e.bare⟩
section
variable{X:Cx}{pins:List (Addr×Obj)}{σ:St}{H:Hp}{s s':Shared}
theorem Inv.env0(I:Inv X pins σ H s):Env0 X.prog X.w X.K X.mg X.base X.A X.stack s H:=
 ⟨I.ok.frames,I.ok.mod,I.bs,bK I.ok.bsz I.sz,I.stack,I.stkFree,I.hok,I.bare⟩
theorem Inv.after{Q:VK}{u:Value}(I:Inv X pins σ H s)(h:CE X.stack X.prog X.w H s Q u s'):EP X pins σ Q u s':=by
 obtain⟨v,H',os,bare,un,hok,r,q⟩:=h;obtain⟨hh,g,d,t,os'⟩:=s';obtain rfl:os'=s.os:=os;exact⟨v,H',I.call (h':=hh) (g':=g) (d':=d) (t':=t) (ch:=[]) un hok bare (λb z=>absurd z (by simp)),r,q⟩
end
def oS(sp:Sp)(dvs:List V)(E:XK)(t:TA):TE:=λσ H Q=>t σ H λvs H1=>sp (vs++dvs) H1 Q E
inductive PR (C:Addr) (m:Str) (x:V) (H1:Hp) (R:Prop):Prop
 |mk (a dx:Addr) (fs:List (Str×V)) (e:x=.ref a) (h:H1 a=some (.ins C dx fs)) (l:fs.lookup m=none) (r:R)
def rG(C:Addr)(m:Str)(sp:Sp)(dvs:List V)(E:XK)(ta:TE)(t:TA):TE:=λσ H Q=>ta σ H λx H1=>PR C m x H1 (t σ H1 λvs H2=>sp (x::(vs++dvs)) H2 Q E)
def rW(C:Addr)(sp:Sp)(dvs:List V)(E:XK)(t:TA):TE:=λσ H Q=>t σ H λvs H1=>∀x dx,H1 x=none->H1 dx=none->dx≠x->
 sp (.ref x::(vs++dvs)) (upd (upd H1 dx (.own x)) x (.ins C dx [])) (λv H2=>v=.non/\Q (.ref x) H2) E
def Binds(K:FG)(fd:FuncData)(ps:List Str)(ds:List Value):Prop:=
 ∀(s:Shared) (us:List Value),K.In s.heap->(us++ds).length=ps.length->BindsTo s fd ⟨us,[]⟩ (ps.zip (us++ds))
theorem Binds.all{K:FG}{fd:FuncData}{ps:List Str}(h:∀us:List Value,us.length=ps.length->bindArgs fd ⟨us,[]⟩=pure (ps.zip us)):Binds K fd ps []:=λs us _ hl=>by
 rw[cC] at hl ⊢;exact .of_eq (h us hl)
def l9(CX:kN)(X:Cx)(E:XK):Prop:=∀(pins:List (Addr×Obj)) (σ:St) (H:Hp) (s:Shared) (e:Value) (s':Shared),Inv X pins σ H s->CX X.stack H s E e s'->X.xe e s'
section
variable{X:Cx}{CX:kN}{k:Nat}{f C:Addr}{fd:FuncData}{ps:List Str}{sp:Sp}{dvs:List V}{ds:List Value}{E:XK}{x m:Str}{p pos apos:Pos}{e o:Expr}{es:List Expr}{ta:TE}{t:TA}
theorem pz{pins:List (Addr×Obj)}{σ:St}{H:Hp}{s:Shared}{Q:VK}{us:List Value}{vs:List V}(F:gk X.prog X.w X.K X.mg X.base CX k f fd ps sp)(hr:Room k X.A)(hb:Binds X.K fd ps ds)(hd:Vals dvs ds)(hx:l9 CX X E)
  (I:Inv X pins σ H s) (r:Vals vs us) (h:sp (vs++dvs) H Q E):wpAny (model X.prog X.w) X.A (call (.ref f) us) (EP X pins σ Q) X.xe s:=by
 have r2:Vals (vs++dvs) (us++ds):=r.append hd;have hl:(us++ds).length=ps.length:=by rw[←r2.length];exact F.len _ _ _ _ h
 refine wpAny_call (eP (F.run X.A X.stack s H ⟨us,[]⟩ (us++ds) (vs++dvs) Q E hr I.env0 (hb s us I.kIn hl) r2 h) λr s' hq=>?_);cases r with
 |error e=>exact hx pins σ H s e s' I hq
 |ok fl=>
  cases fl with
  |ret u=>exact I.after hq
  |next=>exact False.elim hq
  |brk=>exact False.elim hq
  |cont=>exact False.elim hq
theorem Q1(F:gk X.prog X.w X.K X.mg X.base CX k f fd ps sp)(hr:Room k X.A)(hg:Gl X x)(hm:X.mg x=some (.ref f))(hk:PySem.W.keepIn X.K (.ref f)=true)(hb:Binds X.K fd ps ds)(hd:Vals dvs ds)(hx:l9 CX X E)
  (ha:PA X (e::es) t) (hdb:(x==("__debug__":Str))=false:=by decide) (he:starEach (e::es) X.env=(false,eval e X.env)::starEach es X.env:=by rfl) (hpl:(backTo pos (starEach es X.env)).any (·.1)=false:=by rfl):
  PE X (.Call (.Name x p) (e::es) [] pos) (oS sp dvs E t):=by
 intro pins s σ H Q I h;refine eW (m7 I hg hm ?_ hdb);refine PySem.W.callWith_K (h₀:=X.base) I.ok.mod.kin hk (fJ (ha pos pins s σ H _ I h) λus s1 ⟨vs,H1,I1,r,q⟩=>⟨I1.kIn,?_⟩) he hpl;exact pz F hr hb hd hx I1 r q
theorem WR(F:gk X.prog X.w X.K X.mg X.base CX k f fd ps sp)(hr:Room k X.A)(hg:Gl X x)(hm:X.mg x=some (.ref f))(hk:PySem.W.keepIn X.K (.ref f)=true)(hb:Binds X.K fd ps ds)(hd:Vals dvs ds)(hx:l9 CX X E)
  (hdb:(x==("__debug__":Str))=false:=by decide):PE X (.Call (.Name x p) [] [] pos) (oS sp dvs E iU):=by
 intro pins s σ H Q I h;refine eW (m7 I hg hm ?_ hdb);exact PySem.W.callWith_K0 I.kIn hk (pz (us:=[]) F hr hb hd hx I .nil h)
theorem PM{pl:Sem Bool}(he:PE X o ta)(c:Cls X.K C)(hm:jv X.K C m f)(F:gk X.prog X.w X.K X.mg X.base CX k f fd ps sp)(hr:Room k X.A)(hb:Binds X.K fd ps ds)(hd:Vals dvs ds)(hx:l9 CX X E)(ha:PA X (e::es) t)
  (hst:starEach (e::es) X.env=(false,eval e X.env)::starEach es X.env:=by rfl) (hpl:(backTo pos (starEach es X.env)).any (·.1)=false:=by rfl)
  (ht:eval (.Call (.Attribute o m apos) (e::es) [] pos) X.env=(do
   let ov ←eval o X.env
   standAt apos.atName
   let (f,first) ←holding [ov] (getMethod ov m pl)
   callWith pos f first (backTo pos (starEach (e::es) X.env)) (backToKw pos (keywordEach [] X.env))):=by rfl):
  PE X (.Call (.Attribute o m apos) (e::es) [] pos) (rG C m sp dvs E ta t):=by
 intro pins s σ H Q I h;refine PySem.W.methodCall_KW (pl:=pl) (fJ (he pins s σ H _ I h) λu s1 ⟨x,H1,I1,rx,a,dx,fs,ex,ea,l,q⟩=>?_) ht;subst ex;obtain rfl:u=Value.ref a:=rx;refine F6 I1 ea c hm l ?_;refine PySem.W.callWith_K (first:=[.ref a]) (h₀:=X.base) I.ok.mod.kin hm.kp (fJ (ha pos pins s1 σ H1 _ I1 q) λus s2 ⟨vs,H2,I2,r,q2⟩=>⟨I2.kIn,?_⟩) hst hpl;exact pz (us:=.ref a::us) (vs:=.ref a::vs) F hr hb hd hx I2 (.cons rfl r) q2
theorem Xs{pl:Sem Bool}(he:PE X o ta)(c:Cls X.K C)(hm:jv X.K C m f)(F:gk X.prog X.w X.K X.mg X.base CX k f fd ps sp)(hr:Room k X.A)(hb:Binds X.K fd ps ds)(hd:Vals dvs ds)(hx:l9 CX X E)
  (ht:eval (.Call (.Attribute o m apos) [] [] pos) X.env=(do
   let ov ←eval o X.env
   standAt apos.atName
   let (f,first) ←holding [ov] (getMethod ov m pl)
   callWith pos f first (backTo pos (starEach [] X.env)) (backToKw pos (keywordEach [] X.env))):=by rfl):
  PE X (.Call (.Attribute o m apos) [] [] pos) (rG C m sp dvs E ta iU):=by
 intro pins s σ H Q I h;refine PySem.W.methodCall_KW (pl:=pl) (fJ (he pins s σ H _ I h) λu s1 ⟨x,H1,I1,rx,a,dx,fs,ex,ea,l,q⟩=>?_) ht;subst ex;obtain rfl:u=Value.ref a:=rx;refine F6 I1 ea c hm l ?_;exact PySem.W.callWith_K0 (first:=[.ref a]) I1.kIn hm.kp (pz (us:=[.ref a]) (vs:=[.ref a]) F hr hb hd hx I1 (.cons rfl .nil) q)
structure Mk(K:FG)(C f:Addr):Prop where
 makes:PySem.W.makesIn K C=true
 init:PySem.W.findIn K (.ref C) "__init__"=some (some (.ref f))
 fn:PySem.W.isFn K (.ref f)=true
 kp:PySem.W.keepIn K (.ref C)=true
theorem AU{pins:List (Addr×Obj)}{σ:St}{H:Hp}{s:Shared}{Q:VK}{us:List Value}{vs:List V}(M:Mk X.K C f)(F:gk X.prog X.w X.K X.mg X.base CX k f fd ps sp)(hr:Room (k+1) X.A)(hb:Binds X.K fd ps ds)(hd:Vals dvs ds)
  (hx:l9 CX X E) (I:Inv X pins σ H s) (r:Vals vs us)
  (h:∀x dx,H x=none->H dx=none->dx≠x->sp (.ref x::(vs++dvs)) (upd (upd H dx (.own x)) x (.ins C dx [])) (λv H2=>v=.non/\Q (.ref x) H2) E):
  wpAny (model X.prog X.w) X.A (call (.ref C) us) (EP X pins σ Q) X.xe s:=by
 have hq:=h (s.heap.objs.size+1) s.heap.objs.size (I.hok.fresh (cD _)) (I.hok.fresh (aP _)) (aU (cS _));have I2:=Inv.made (C:=C) I;have r2:Vals (V.ref (s.heap.objs.size+1)::(vs++dvs)) (Value.ref (s.heap.objs.size+1)::(us++ds)):=.cons rfl (r.append hd);have hl:(Value.ref (s.heap.objs.size+1)::us++ds).length=ps.length:=by
  have e:=r2.length;rw[F.len _ _ _ _ hq] at e;exact e.symm
 refine wpAny_call (SJ (f:=f) I.kIn M.makes M.init (beq_iff_eq.mp M.fn) (eP (F.run _ X.stack _ _ ⟨Value.ref (s.heap.objs.size+1)::us,[]⟩ (Value.ref (s.heap.objs.size+1)::(us++ds)) _ _ E (hr.make C us [])
  (I2.env0.make C us []) (hb _ (Value.ref (s.heap.objs.size+1)::us) I2.kIn hl) r2 hq) λr s' hq'=>?_))
 cases r with
 |error e=>exact hx pins σ _ _ e s' I2 hq'
 |ok fl=>
  cases fl with
  |ret u=>
   obtain⟨v,H',I3,rv,ev,q3⟩:=I2.after hq';subst ev;exact⟨rv,⟨V.ref (s.heap.objs.size+1),H',I3,rfl,q3⟩⟩
  |next=>exact False.elim hq'
  |brk=>exact False.elim hq'
  |cont=>exact False.elim hq'
theorem Vr(M:Mk X.K C f)(F:gk X.prog X.w X.K X.mg X.base CX k f fd ps sp)(hr:Room (k+1) X.A)(hg:Gl X x)(hm:X.mg x=some (.ref C))(hb:Binds X.K fd ps ds)(hd:Vals dvs ds)(hx:l9 CX X E)
  (ha:PA X (e::es) t) (hdb:(x==("__debug__":Str))=false:=by decide) (he:starEach (e::es) X.env=(false,eval e X.env)::starEach es X.env:=by rfl) (hpl:(backTo pos (starEach es X.env)).any (·.1)=false:=by rfl):
  PE X (.Call (.Name x p) (e::es) [] pos) (rW C sp dvs E t):=by
 intro pins s σ H Q I h;refine eW (m7 I hg hm ?_ hdb);refine PySem.W.callWith_K (h₀:=X.base) I.ok.mod.kin M.kp (fJ (ha pos pins s σ H _ I h) λus s1 ⟨vs,H1,I1,r,q⟩=>⟨I1.kIn,?_⟩) he hpl;exact AU M F hr hb hd hx I1 r q
theorem Ri(M:Mk X.K C f)(F:gk X.prog X.w X.K X.mg X.base CX k f fd ps sp)(hr:Room (k+1) X.A)(hg:Gl X x)(hm:X.mg x=some (.ref C))(hb:Binds X.K fd ps ds)(hd:Vals dvs ds)(hx:l9 CX X E)
  (hdb:(x==("__debug__":Str))=false:=by decide):PE X (.Call (.Name x p) [] [] pos) (rW C sp dvs E iU):=by
 intro pins s σ H Q I h;refine eW (m7 I hg hm ?_ hdb);exact PySem.W.callWith_K0 I.kIn M.kp (AU (us:=[]) M F hr hb hd hx I .nil h)
variable{ks:List Str}{kpos:Pos}{kws:List Keyword}{te:TE}{tk:TA}{nm:Option Str}{g:List Value->List Value->List Value}{gV:List V->List V->List V}
end
structure eZ(N P:List Str)(sc:Scope):Prop where
 kind:sc.kind=.function
 co:sc.isCoroutine=false
 gen:sc.isGenerator=false
 nd:N.Nodup
 pre:N.take P.length=P
 par:∀x∈P,sc.names.lookup x=some .local∨sc.names.lookup x=some .cell
 nofree:∀y∈sc.names,y.2≠ .free
theorem Af{kindOf:Str->Option NameKind}{x:Str}:∀{binds:List (Str×Value)} {m:Str->Option Value},(∀v,(x,v)∉binds)->bindL kindOf binds m x=m x
 |[],_,_=>rfl
 |(n,v)::r,m,h=>by
  unfold bindL;rw[Af λw hw=>h w (bM _ hw)];split
  ·have:x≠n:=by rintro rfl;exact h v a8
   simp[this]
  ·rfl
theorem yA{kindOf:Str->Option NameKind}{x:Str}:∀{binds:List (Str×Value)} {m:Str->Option Value},(∀v,(x,v)∉binds)->bindC kindOf binds m x=m x
 |[],_,_=>rfl
 |(n,v)::r,m,h=>by
  unfold bindC;rw[yA λw hw=>h w (bM _ hw)];split
  ·rfl
  ·have:x≠n:=by rintro rfl;exact h v a8
   simp[this]
theorem Gd{kindOf:Str->Option NameKind}{x:Str}{v:Value}:∀{P:List Str} {vs:List Value} {i:Nat} {m:Str->Option Value},P.Nodup->P[i]? =some x->vs[i]? =some v->kindOf x=some .local->
  bindL kindOf (P.zip vs) m x=some v
 |[],_,_,_,_,h,_,_=>by simp at h
 |_::_,[],_,_,_,_,h,_=>by simp at h
 |p::P,w::vs,0,m,nd,h1,h2,hk=>by
  simp at h1 h2;subst h1;subst h2;show bindL kindOf ((p,w)::P.zip vs) m p=_;unfold bindL;rw[Af λv hv=>(List.nodup_cons.mp nd).1 (List.of_mem_zip hv).1,if_pos hk];simp
 |p::P,w::vs,i+1,m,nd,h1,h2,hk=>by
  show bindL kindOf ((p,w)::P.zip vs) m x=_;unfold bindL;exact Gd (i:=i) (List.nodup_cons.mp nd).2 (by simpa using h1) (by simpa using h2) hk
theorem CY{kindOf:Str->Option NameKind}{x:Str}{v:Value}:∀{P:List Str} {vs:List Value} {i:Nat} {m:Str->Option Value},P.Nodup->P[i]? =some x->vs[i]? =some v->kindOf x≠some .local->
  bindC kindOf (P.zip vs) m x=some v
 |[],_,_,_,_,h,_,_=>by simp at h
 |_::_,[],_,_,_,_,h,_=>by simp at h
 |p::P,w::vs,0,m,nd,h1,h2,hk=>by
  simp at h1 h2;subst h1;subst h2;show bindC kindOf ((p,w)::P.zip vs) m p=_;unfold bindC;rw[yA λv hv=>(List.nodup_cons.mp nd).1 (List.of_mem_zip hv).1,if_neg hk];simp
 |p::P,w::vs,i+1,m,nd,h1,h2,hk=>by
  show bindC kindOf ((p,w)::P.zip vs) m x=_;unfold bindC;exact CY (i:=i) (List.nodup_cons.mp nd).2 (by simpa using h1) (by simpa using h2) hk
noncomputable def start(N:List Str)(vs:List V):St:=vs.map some++List.replicate (N.length-vs.length) none
noncomputable def mG(CX:kN)(P:Program)(w:World)(K:FG)(mg:Str->Option Value)(base:Heap)(N:List Str)(qual:Str)(scope:Scope)(f:Addr)(cd:Value)(A:Around)(outer:List Env)(s:Shared)(H:Hp)(E:XK):Cx where
 prog:=P
 w:=w
 K:=K
 mg:=mg
 base:=base
 A:=A.deeper (envOfC qual scope s.heap.objs.size f cd)
 N:=N
 s₀:=s
 H₀:=H
 env:=envOfC qual scope s.heap.objs.size f cd
 outer:=outer
 stack:=envOfC qual scope s.heap.objs.size f cd::outer
 ex:=[]
 calm:=true
 fn:=λ_=>true
 pn:=[]
 xe:=λe s'=>wpAny (model P w) (A.deeper (envOfC qual scope s.heap.objs.size f cd)) (leaving (envOfC qual scope s.heap.objs.size f cd) e) (λ_ s''=>CX outer H s E e s'') (λe' s''=>CX outer H s E e' s'') s'
theorem Gm{sc:Scope}{n:Nat}{x:Str}(h:sc.names.lookup x=some .cell):∃c,(cellsFrom n sc.names []).lookup x=some c:=by
 have q:=PySem.W.cellsFrom_some sc.names n [] (.inl h);exact dW.mp q
theorem VL{CX:kN}{P:Program}{w:World}{K:FG}{mg:Str->Option Value}{base:Heap}{N ps:List Str}{qual:Str}{scope:Scope}{f:Addr}{cd:Value}{A:Around}{outer:List Env}{s s1:Shared}{H:Hp}{E:XK}{us:List Value}{vs:List V}
  (S:eZ N ps scope) (hd:A.handled=none) (e0:Env0 P w K mg base A outer s H) (hl:vs.length=ps.length) (r:Vals vs us)
  (x:InCallC s s.heap.objs.size (bindL (envOfC qual scope s.heap.objs.size f cd).kindOf (ps.zip us) λ_=>none) (cellsFrom (s.heap.objs.size+1) scope.names []) (bindC (envOfC qual scope s.heap.objs.size f cd).kindOf (ps.zip us) λ_=>none) s1):
  Inv (mG CX P w K mg base N qual scope f cd A outer s H E) [] (start N vs) H s1:=by
 have hpl:ps.length<=N.length:=by have:=congrArg List.length S.pre;rw[cE] at this;omega
 obtain⟨h1,tk,rfl,hk⟩:=x.done;have noA:∀b:Addr,b∉(mG CX P w K mg base N qual scope f cd A outer s H E).ex:=λb z=>absurd (show b∈([]:List Addr) from z) (by simp);refine⟨⟨e0.mod,S.kind,rfl,rfl,aP _,λy z c h1 h2=>?_,λy hy=>?_,λy c _ h=>?_,λ_=>hd,Around.frames_deeper e0.frames,.inr ⟨rfl,rfl⟩,λb z=>absurd z (noA b),e0.bs,e0.bsz,λb _ _=>noA b,λb z=>absurd z (noA b),e0.funs,e0.frf⟩,
  rfl,e0.bare,Un.kept hk,⟨_,x.toInCall.ns,λi y v h1 h2 h3=>?_⟩,λy c h=>⟨_,x.cell y c h⟩,e0.hok.fresh (aP _),λy c h=>?_,λp hp=>absurd (show p∈([]:List (Addr×Obj)) from hp) (by simp),e0.hok.kept hk,?_⟩
 ·exact name_of_addr x.apart (PySem.mem_of_lookup h1) (PySem.mem_of_lookup h2)
 ·have hy:scope.names.lookup y=some .cell∨scope.names.lookup y=some .free:=hy;rcases hy with hy | hy
  ·exact Gm hy
  ·exact absurd rfl (S.nofree _ (PySem.mem_of_lookup hy))
 ·exact Nat.le_of_lt (x.above y c (PySem.mem_of_lookup h))
 ·have hi:i<vs.length:=by
   unfold start at h2;by_cases hi:i<vs.length
   ·exact hi
   ·rw[cT (by simpa using hi)] at h2;rw[List.getElem?_replicate] at h2;split at h2<;>cases h2
  have ha:vs[i]? =some v:=by
   unfold start at h2;rw[cY (by simpa using hi),aX] at h2;cases e:vs[i]? with
   |none=>rw[e] at h2;cases h2
   |some a=>rw[e] at h2;cases h2;rfl
  obtain⟨u,hu,rv⟩:=r.get ha;have hp:ps[i]? =some y:=by
   rw[←S.pre,List.getElem?_take_of_lt ⋯];exact h1
  have ndP:ps.Nodup:=by rw[←S.pre];exact S.nd.sublist (List.take_sublist _ _)
  refine⟨u,rv,?_⟩;rcases S.par y (bA hp) with k | k
  ·exact .inl ⟨k,Gd ndP hp hu k⟩
  ·obtain⟨c,e⟩:=Gm (n:=s.heap.objs.size+1) k;refine .inr ⟨.inl k,c,e,?_⟩;have q:=x.cell y c e;rw[CY ndP hp hu (by show scope.names.lookup y≠_;rw[k];decide)] at q;exact q
 ·exact e0.hok.fresh (Nat.le_of_lt (x.above y c (PySem.mem_of_lookup h)))
 ·unfold start;show _=N.length;rw[aV,aQ,dF];omega
theorem D7{CX:kN}{P:Program}{w:World}{K:FG}{mg:Str->Option Value}{base:Heap}{k:Nat}{f:Addr}{name qual:Str}{params:Arguments}{body:List Stmt}{scope:Scope}{dV kV doc pm cdv ct oc:Value}{an od:Option Addr}
  {osl:Array (Option Value)} {N ps:List Str} {sp:Sp} (lk:K.lookup f=some ⟨oc,od,.func (PySem.W.fnOf name qual params body scope dV kV doc pm an cdv ct),osl⟩) (hcd:PySem.W.codeIn K cdv qual=true) (S:eZ N ps scope)
  (len:∀vs H Q E,sp vs H Q E->vs.length=ps.length)
  (hbody:∀(A:Around) (outer:List Env) (s:Shared) (H:Hp) (vs:List V) (Q:VK) (E:XK),Room k (A.deeper (envOfC qual scope s.heap.objs.size f cdv))->sp vs H Q E->
   ∃t,PSs (mG CX P w K mg base N qual scope f cdv A outer s H E) body t/\t {nx:=λ_ H'=>Q .non H',rt:=Q} (start N vs) H):
  gk P w K mg base CX (k+1) f (PySem.W.fnOf name qual params body scope dV kV doc pm an cdv ct) ps sp:=by
 refine⟨len,λA outer s H args us vs Q E hr e0 hb r hsp=>?_⟩;have hl:=len _ _ _ _ hsp;have KX:K.In s.heap:=e0.mod.kin.keeps λb o e=>(e0.bs b o e).1;have lim:s.heap.NoLimit:=e0.mod.nolimit.keeps λb o e=>(e0.bs b o e).1;have hkind:∀y∈ps.zip us,scope.names.lookup y.1=some .local∨(scope.names.lookup y.1=some .cell/\((cellsFrom (s.heap.objs.size+1) scope.names []).lookup y.1).isSome=true):=λ⟨n,v⟩ hy=>by
  rcases S.par n (List.of_mem_zip hy).1 with q | q
  ·exact .inl q
  ·exact .inr ⟨q,PySem.W.cellsFrom_some _ _ _ (.inl q)⟩
 refine codeAny_call_function hr.depth (KX _ _ lk) rfl S.co S.gen rfl (PySem.W.codeRec_of KX hcd) (hb _ _ _ _ ?_);refine wpAny_newFunctionEnv_cells S.kind hkind λenv he s1 x=>?_;subst he;refine⟨lim.keeps x.toInCall.keep,codeAny_func ?_⟩;obtain⟨t,ht,hq⟩:=hbody A outer s H vs Q E (hr.deeper _) hsp;have I:Inv (mG CX P w K mg base N qual scope f cdv A outer s H E) [] (start N vs) H s1:=VL S hr.hd e0 hl r x
 refine eG (ht [] s1 (start N vs) H _ I hq) (λfl s' hs=>?_) λe s' hs=>hs;have fU:∀{σ':St} {H':Hp} {v:V} {u:Value},Inv (mG CX P w K mg base N qual scope f cdv A outer s H E) [] σ' H' s'->RelV v u->Q v H'->CE outer P w H s Q u s':=
  λ{σ' H' v u} J rv q=>⟨v,H',J.os,J.bare,J.base,J.hok,rv,q⟩
 cases fl with
 |ret u=>
  obtain⟨v,σ',H',J,rv,q⟩:=hs;exact fU J rv q
 |next=>
  obtain⟨σ',H',J,q⟩:=hs;exact fU (v:=V.non) (u:=Value.none) J rfl q
 |brk=>
  obtain⟨_,_,_,q⟩:=hs;exact False.elim q
 |cont=>
  obtain⟨_,_,_,q⟩:=hs;exact False.elim q
section
variable{X:Cx}{x:Str}{p pos:Pos}{e:Expr}{es:List Expr}{t:TA}{id T:String}{r:List V->Hp->VK->Prop}
def rV(r:List V->Hp->VK->Prop)(t:TA):TE:=λσ H Q=>t σ H λvs H1=>r vs H1 Q
theorem Z8(hc:j6 X (.builtin id) r)(hg:Gl X x)(hm:X.mg x=none)(hv:bootBuiltins x=some (.builtin id))(ha:PA X (e::es) t)(hn:x≠"__name__":=by decide)(hdb:(x==("__debug__":Str))=false:=by decide)
  (he:starEach (e::es) X.env=(false,eval e X.env)::starEach es X.env:=by rfl) (hpl:(backTo pos (starEach es X.env)).any (·.1)=false:=by rfl):PE X (.Call (.Name x p) (e::es) [] pos) (rV r t):=by
 intro pins s σ H Q I h;refine eW (nq I hg hm hv ?_ hn hdb);exact PyProof.Rows.callWith_builtin1 (fJ (ha pos pins s σ H _ I h) λus s1 ⟨vs,H1,I1,r1,q1⟩=>hc pins s1 σ H1 vs us Q I1 r1 q1) he hpl
theorem ZA(hc:j6 X (.type T) r)(hg:Gl X x)(hm:X.mg x=none)(hv:bootBuiltins x=some (.type T))(ha:PA X (e::es) t)(hn:x≠"__name__":=by decide)(hdb:(x==("__debug__":Str))=false:=by decide)
  (he:starEach (e::es) X.env=(false,eval e X.env)::starEach es X.env:=by rfl) (hpl:(backTo pos (starEach es X.env)).any (·.1)=false:=by rfl):PE X (.Call (.Name x p) (e::es) [] pos) (rV r t):=by
 intro pins s σ H Q I h;refine eW (nq I hg hm hv ?_ hn hdb);exact PyProof.Rows.callWith_type1 (fJ (ha pos pins s σ H _ I h) λus s1 ⟨vs,H1,I1,r1,q1⟩=>hc pins s1 σ H1 vs us Q I1 r1 q1) he hpl
end
end L2
namespace HT
open PySem PyProof.Rows
section
open PySem.SeqAt
open PySem.AutoSeq1 (wpAny_loadPart')
open PySem.MeetsSeq PySem.MeetsSeq2 PySem.MeetsSeq3
variable{prog:Program}{w:World}{A:Around}{E:Value->Shared->Prop}{s:Shared}
noncomputable def sIx(n d:Nat):Option Int->Nat
 |none=>d
 |some v=>if v<0 then (v+(n:Int)).toNat else min v.toNat n
theorem sIx_none(n d:Nat):sIx n d none=d:=rfl
theorem sIx_nat(n d k:Nat):sIx n d (some (k:Int))=min k n:=by
 show (if (k:Int)<0 then ((k:Int)+(n:Int)).toNat else min (k:Int).toNat n)=min k n;rw[if_neg ⋯,Int.toNat_natCast]
theorem sIx_le(n d:Nat)(hd:d<=n)(o:Option Int):sIx n d o<=n:=by
 cases o with
 |none=>exact hd
 |some v=>
  show (if v<0 then (v+(n:Int)).toNat else min v.toNat n)<=n;by_cases hv:v<0
  ·rw[if_pos hv];omega
  ·rw[if_neg hv];exact Nat.min_le_right _ _
theorem A9(v:Int)(n d:Nat):(if v<0 then max (v+(n:Int)) 0 else min v (n:Int))=((sIx n d (some v):Nat):Int):=by
 show (if v<0 then max (v+(n:Int)) 0 else min v (n:Int))=(((if v<0 then (v+(n:Int)).toNat else min v.toNat n):Nat):Int);by_cases hv:v<0
 ·simp only[if_pos hv];omega
 ·simp only[if_neg hv];omega
theorem PJ(lo hi:Option Int)(n:Nat):Builtin.Slice.sliceAdjust lo hi 1 (n:Int)=(((sIx n 0 lo:Nat):Int),((sIx n n hi:Nat):Int)):=by
 have h1:¬((1:Int)<0):=⋯;unfold Builtin.Slice.sliceAdjust;simp only[h1,if_false];refine Prod.ext ?_ ?_
 ·cases lo with
  |none=>rfl
  |some v=>exact A9 v n 0
 ·cases hi with
  |none=>rfl
  |some v=>exact A9 v n n
theorem Tr(i j:Nat):Builtin.Slice.slicePlaces (i:Int) (j:Int) 1=j-i:=by
 unfold Builtin.Slice.slicePlaces;have h1:(1:Int)>0:=⋯;simp only[h1,if_true,Int.ediv_one];split<;>omega
theorem GG{v:Value}{o:Option Int}{Q:Option Int->Shared->Prop}(p:IsPart v o)(h:Q o s):wpAny (model prog w) A (Builtin.Slice.slicePartIndex v) Q E s:=by
 cases p with
 |none=>exact slicePart_none h
 |int i t=>exact slicePart_int h
theorem V8{sl:Addr}{vl vu:Value}{lo hi:Option Int}{n:Nat}{Q:Int×Int×Nat->Shared->Prop}(hs:s.heap.IsSliceOf sl vl vu .none)(pl:IsPart vl lo)(pu:IsPart vu hi)
  (h:Q (((sIx n 0 lo:Nat):Int),1,sIx n n hi-sIx n 0 lo) s):wpAny (model prog w) A (Builtin.Slice.sliceApplied (.ref sl) (pure (n:Int))) Q E s:=by
 obtain⟨os,hos,hcs,hds⟩:=id hs;unfold Builtin.Slice.sliceApplied Builtin.Slice.sliceFields;refine wpAny_bind (wpAny_bind (wpAny_field hos hds (x:=vl) rfl (wpAny_bind (wpAny_field hos hds (x:=vu) rfl (wpAny_bind (wpAny_field hos hds (x:=.none) rfl (wpAny_pure ?_)))))));refine wpAny_bind (slicePart_none ?_);show wpAny _ _ (if ((1:Int)==0)=true then _ else _) _ _ s;rw[if_neg (by decide)];refine wpAny_bind (GG pl (wpAny_bind (GG pu (wpAny_bind (wpAny_pure ?_)))))
 show wpAny _ _ (match Builtin.Slice.sliceAdjust lo hi 1 (n:Int) with | (lo,hi)=>pure (lo,(1:Int),Builtin.Slice.slicePlaces lo hi 1)) _ _ s
 rw[PJ lo hi n];show wpAny _ _ (pure (((sIx n 0 lo:Nat):Int),(1:Int),Builtin.Slice.slicePlaces ((sIx n 0 lo:Nat):Int) ((sIx n n hi:Nat):Int) 1)) _ _ s;rw[Tr];exact wpAny_pure h
theorem OR(xs:Array Value)(i k:Nat):((List.range k).filterMap λ(m:Nat)=>xs[((i:Int)+(m:Int)*1).toNat]?).toArray=((xs.toList.drop i).take k).toArray:=by
 have e:(λ(m:Nat)=>xs[((i:Int)+(m:Int)*1).toNat]?)=λm=>xs[i+m]? :=by
  funext m;have:((i:Int)+(m:Int)*1).toNat=i+m:=⋯;rw[this]
 rw[e];have:=pick_run xs i k;rw[List.filterMap_map] at this;have e2:((λx=>xs[x]?) ∘ λx=>i+x)=λm=>xs[i+m]? :=rfl;rw[e2] at this;rw[this]
theorem getItem_tuple_cut{t sl:Addr}{items:Array Value}{vl vu:Value}{lo hi:Option Int}{Q:Value->Shared->Prop}(ht:IsTup s.heap t items)(hs:s.heap.IsSliceOf sl vl vu .none)(pl:IsPart vl lo)(pu:IsPart vu hi)
  (hw:¬(sIx items.size 0 lo=0/\sIx items.size items.size hi=items.size))
  (h:Q (.ref s.heap.objs.size) {s with heap:=s.heap.push {cls:=.type "tuple",data:=.seq ((items.toList.drop (sIx items.size 0 lo)).take (sIx items.size items.size hi-sIx items.size 0 lo)).toArray} })
  (hsz:items.size<=sizeLine):wpAny (model prog w) A (getItem (.ref t) (.ref sl)) Q E s:=by
 have htake:sizeOk (.seq ((items.toList.drop (sIx items.size 0 lo)).take (sIx items.size items.size hi-sIx items.size 0 lo)).toArray):=by
  show ((items.toList.drop (sIx items.size 0 lo)).take (sIx items.size items.size hi-sIx items.size 0 lo)).toArray.size<=sizeLine;rw[List.size_toArray,List.length_take,List.length_drop,Array.length_toList];omega
 have hj:sIx items.size items.size hi<=items.size:=sIx_le _ _ (Nat.le_refl _) hi;obtain⟨os,hos,hcs,hds⟩:=id hs;have hTs:s.TypeIs (.ref sl) "slice":=⟨os,hos,hcs⟩;unfold getItem
 try with_reducible refine wpAny_holding ?_
 first | refine wpAny_bind (wpAny_pure ?_) | skip
 refine wpAny_bind (wpAny_sequenceKey ht.typeIs (by decide) ?_);refine wpAny_bind (wpAny_callSpecial?_slot (name:=Str.ofString "__getitem__") ht.typeIs PyProof.Rows.slot_tuple_getitem
  (wpAny_call_entry PyProof.Rows.slot_tuple_getitem ht.typeIs entry_tuple_getitem ?_ (args_tuple_getitem _ _)))
 show wpAny _ _ (Builtin.Tuple.tupleItemsOf (.ref t) >>=_) _ _ s;refine wpAny_bind (tupleItemsOf_ ht ?_);refine wpAny_bind (wpAny_typeOf hTs ?_);rw[if_pos (by decide)];refine wpAny_bind (V8 hs pl pu ?_);have hno:¬((((sIx items.size 0 lo:Nat):Int)==0&&(1:Int)==1&&(sIx items.size items.size hi-sIx items.size 0 lo)==items.size)=true):=by
  intro q;rw[Bool.and_eq_true,Bool.and_eq_true] at q;have q1:((sIx items.size 0 lo:Nat):Int)=0:=eq_of_beq q.1.1;have q2:sIx items.size items.size hi-sIx items.size 0 lo=items.size:=eq_of_beq q.2;exact hw ⟨⋯,⋯⟩
 show wpAny _ _ (if (((sIx items.size 0 lo:Nat):Int)==0&&(1:Int)==1&&(sIx items.size items.size hi-sIx items.size 0 lo)==items.size)=true then _ else _) _ _ s;rw[if_neg hno,OR]
 first
  |exact wpAny_bind (m:=Builtin.Tuple.tupleExact _) (wpAny_newObj_type (wpAny_pure ⟨_,rfl,wpAny_pure h⟩) htake)
  |exact wpAny_bind (m:=Builtin.Tuple.tupleExact _) (wpAny_newObj_type (wpAny_bind (wpAny_pure (wpAny_pure ⟨_,rfl,wpAny_pure h⟩))) htake)
  |exact wpAny_bind (wpAny_bind (m:=Builtin.Tuple.tupleExact _) (wpAny_newObj_type (wpAny_pure (wpAny_pure ⟨_,rfl,wpAny_pure h⟩)) htake))
  |exact wpAny_bind (wpAny_bind (m:=Builtin.Tuple.tupleExact _) (wpAny_newObj_type (wpAny_pure ⟨_,rfl,wpAny_pure h⟩) htake))
end
end HT
namespace L2
open PySem PySem.Spec PyProof.Rows
noncomputable abbrev TO:=St->Hp->(Option Int->Hp->Prop)->Prop
def PO(X:Cx)(e:Option Expr)(t:TO):Prop:=
 ∀(pins:List (Addr×Obj)) (s:Shared) (σ:St) (H:Hp) (Q:Option Int->Hp->Prop),Inv X pins σ H s->t σ H Q->
  wpAny (model X.prog X.w) X.A (evalPart e X.env) (λu s'=>∃o H',Inv X pins σ H' s'/\IsPart u o/\Q o H') X.xe s
def Fd:TO:=λ_ H Q=>Q none H
def LK(t:TE):TO:=λσ H Q=>t σ H λx H1=>∃i,x=.int i/\Q (some i) H1
section
variable{X:Cx}{e:Expr}{te:TE}{lo hi:Option Expr}{tl th:TO}{pos p2:Pos}
theorem YZ:PO X none Fd:=by
 intro pins s σ H Q I h;rw[evalPart_none];exact eX ⟨none,H,I,.none,h⟩
theorem OF(h:PE X e te):PO X (some e) (LK te):=by
 intro pins s σ H Q I hw;rw[evalPart_some];refine fJ (h pins s σ H _ I hw) λu s1 ⟨x,H1,I1,r1,q1⟩=>?_;obtain⟨i,rfl,q⟩:=q1;obtain⟨t,rfl⟩:=r1;exact⟨some i,H1,I1,.int i t,q⟩
def qX(X:Cx)(r:V->Option Int->Option Int->Hp->VK->Prop):Prop:=
 ∀(pins:List (Addr×Obj)) (s:Shared) (σ:St) (H:Hp) (x:V) (v vl vu:Value) (lo hi:Option Int) (sl:Addr) (Q:VK),Inv X pins σ H s->RelV x v->s.heap.IsSliceOf sl vl vu .none->IsPart vl lo->IsPart vu hi->r x lo hi H Q->
  ∃T id,typeLookup (.type T) "__getitem__"=pure (some (.builtin id))/\s.TypeIs v T/\wpAny (model X.prog X.w) X.A (getItem v (.ref sl)) (EP X pins σ Q) X.xe s
def Kq(r:V->Option Int->Option Int->Hp->VK->Prop)(te:TE)(tl th:TO):TE:=λσ H Q=>te σ H λx H1=>tl σ H1 λl H2=>th σ H2 λu H3=>r x l u H3 Q
theorem To{r:V->Option Int->Option Int->Hp->VK->Prop}(hr:qX X r)(he:PE X e te)(hl:PO X lo tl)(hu:PO X hi th):PE X (.Subscript e (.Slice lo hi none p2) pos) (Kq r te tl th):=by
 intro pins s σ H Q I h;refine Subscript_ (fJ (he pins s σ H _ I h) λv s1 ⟨x,H1,I1,r1,q1⟩=>?_);refine wpAny_Slice (fJ (hl pins s1 σ H1 _ I1 q1) λvl s2 ⟨l,H2,I2,pl,q2⟩=>fJ (hu pins s2 σ H2 _ I2 q2) λvu s3 ⟨u,H3,I3,pu,q3⟩=>?_);rw[evalPart_none];refine eX ?_;have I4:Inv X pins σ H3 {s3 with heap:=s3.heap.push {cls:=.type "slice",data:=.fields #[vl,vu,.none]} }:=I3.kept (t':=s3.toks) λb ob q=>aS _ q
 obtain⟨T,id,hT,ht,hg⟩:=hr pins {s3 with heap:=s3.heap.push {cls:=.type "slice",data:=.fields #[vl,vu,.none]} } σ H3 x v vl vu l u s3.heap.objs.size Q I4 r1 (Heap.IsSliceOf.new ..) pl pu q3;show wpAny (model X.prog X.w) X.A (subscriptTail e (.Slice lo hi none p2) v (.ref s3.heap.objs.size)) (EP X pins σ Q) X.xe {s3 with heap:=s3.heap.push {cls:=.type "slice",data:=.fields #[vl,vu,.none]} };exact tail_any (ops:=[.ref s3.heap.objs.size,v]) ht hT hg (by with_unfolding_all rfl)
noncomputable def iI(xs:List V)(lo hi:Option Int):List V:=(xs.drop (HT.sIx xs.length 0 lo)).take (HT.sIx xs.length xs.length hi-HT.sIx xs.length 0 lo)
theorem Md(xs:List V)(lo hi:Option Int):(iI xs lo hi).length<=xs.length:=by
 unfold iI;rw[cE,cU];omega
def tG(K:FG):V->Option Int->Option Int->Hp->VK->Prop:=λx lo hi H Q=>∃a xs,x=.ref a/\SqT K H a xs/\
 ¬(HT.sIx xs.length 0 lo=0/\HT.sIx xs.length xs.length hi=xs.length)/\∀p,H p=none->Q (.ref p) (upd H p (.tup (iI xs lo hi)))
theorem YC:qX X (tG X.K):=by
 intro pins s σ H x v vl vu lo hi sl Q I rx hs pl pu h;obtain⟨a,xs,rfl,hx,hw,q⟩:=h;cases rx;obtain⟨its,r,ht,hz⟩:=I.tuple hx;have hlen:its.toArray.size=xs.length:=by rw[bE];exact r.length.symm
 refine⟨"tuple",_,PyProof.Rows.slot_tuple_getitem.lookup,ht.typeIs,?_⟩;refine HT.getItem_tuple_cut ht hs pl pu (by rw[hlen];exact hw) ?_ (by rw[hlen];exact hz);rw[hlen];refine⟨.ref s.heap.objs.size,_,I.laid (t':=s.toks) (o:=.tup (iI xs lo hi)) (λb ob q=>aS _ q) (aP _) ?_,rfl,q _ (I.hok.fresh (aP _))⟩;exact⟨bK (Md xs lo hi) hz,_,(r.drop (HT.sIx xs.length 0 lo)).take (HT.sIx xs.length xs.length hi-HT.sIx xs.length 0 lo),IsTup.new _ _⟩
end
noncomputable def kG(n:Nat)(i:Int):Option Nat:=if 0<=i then (if i<n then some i.toNat else none) else if -(n:Int)<=i then some (i+n).toNat else none
noncomputable def hZ{α:Type}(xs:List α)(i:Int):Option α:=(kG xs.length i).bind λj=>xs[j]?
theorem Kc{n:Nat}{i:Int}{j:Nat}(h:kG n i=some j):seqIndex? i n=some j/\j<n/\ -(n:Int)<=i/\i<n:=by
 unfold kG at h;by_cases h0:0<=i
 ·rw[if_pos h0] at h;by_cases h1:i<n
  ·rw[if_pos h1] at h;have e:i.toNat=j:=bH h;exact⟨by rw[seqIndex_of h0 h1,e],⋯,⋯,h1⟩
  ·rw[if_neg h1] at h;cases h
 ·rw[if_neg h0] at h;by_cases h1: -(n:Int)<=i
  ·rw[if_pos h1] at h;have e:(i+n).toNat=j:=bH h;exact⟨by rw[seqIndex_neg ⋯ h1,e],⋯,h1,⋯⟩
  ·rw[if_neg h1] at h;cases h
theorem uQ{α:Type}{xs:List α}{i:Int}{v:α}(h:hZ xs i=some v):∃j,seqIndex? i xs.length=some j/\xs[j]? =some v/\j<xs.length/\ -(xs.length:Int)<=i/\i<xs.length:=by
 unfold hZ at h;cases e:kG xs.length i with
 |none=>rw[e] at h;cases h
 |some j=>
  rw[e] at h;obtain⟨h1,h2,h3,h4⟩:=Kc e;exact⟨j,h1,h,h2,h3,h4⟩
theorem mF{α:Type}{xs:List α}{j:Nat}{v:α}(h:xs[j]? =some v):hZ xs (j:Int)=some v:=by
 have hj:j<xs.length:=(bB.mp h).1;have e:kG xs.length (j:Int)=some j:=by
  unfold kG;rw[if_pos ⋯,if_pos ⋯];simp
 unfold hZ;rw[e];exact h
def Og(b:Expr):Prop:=∀o i,subscripted b false o i=operate [o,i] (getItem o i)
def qf(X:Cx)(r:R2):Prop:=
 ∀(value slice:Expr) (pins:List (Addr×Obj)) (s:Shared) (σ:St) (H:Hp) (x y:V) (v u:Value) (Q:VK),Inv X pins σ H s->RelV x v->RelV y u->r x y H Q->
  subscripted slice false v u=operate [v,u] (getItem v u)->wpAny (model X.prog X.w) X.A (subscriptTail value slice v u) (EP X pins σ Q) X.xe s
def nV(X:Cx)(id:String)(r:V->List V->Hp->VK->Prop):Prop:=
 ∀(pins:List (Addr×Obj)) (s:Shared) (σ:St) (H:Hp) (x:V) (xs:List V) (v:Value) (us:List Value) (Q:VK),Inv X pins σ H s->RelV x v->Vals xs us->r x xs H Q->
  wpAny (model X.prog X.w) X.A (call (.builtin id) (v::us)) (EP X pins σ Q) X.xe s
section
variable{X:Cx}{a b:Expr}{ta tb:TE}{pos:Pos}
theorem XC{r:R2}(hr:qf X r)(ha:PE X a ta)(hb:PE X b tb)(hs:Og b):PE X (.Subscript a b pos) (mz r ta tb):=by
 intro pins s σ H Q I h;exact Subscript_ (vL ha hb I h λv u s2 x y H2 I2 rx ry q=>hr a b pins s2 σ H2 x y v u Q I2 rx ry q (hs _ _))
inductive Ti (K:FG) (x y:V) (H:Hp) (Q:VK):Prop
 |mk (p:Addr) (xs:List V) (i:Int) (v:V) (e:x=.ref p) (f:y=.int i) (s:SqL K H p xs) (a:hZ xs i=some v) (r:Q v H)
def wF(K:FG):R2:=Ti K
inductive T1 (K:FG) (x y:V) (H:Hp) (Q:VK):Prop
 |mk (p:Addr) (xs:List V) (i:Int) (v:V) (e:x=.ref p) (f:y=.int i) (s:SqT K H p xs) (a:hZ xs i=some v) (r:Q v H)
def uo(K:FG):R2:=T1 K
def vj:R2:=λx y H Q=>∃z i c,x=.str z/\y=.int i/\z.length<=sizeLine/\hZ z.cps.toList i=some c/\Q (.str ⟨#[c]⟩) H
theorem SR:qf X (wF X.K):=by
 intro value slice pins s σ H x y v u Q I rx ry h hs;obtain⟨p,xs,i,z,rfl,rfl,hq,he,q⟩:=h;cases rx;obtain⟨t,rfl⟩:=ry;obtain⟨its,r,pl,hz⟩:=I.list hq;obtain⟨j,h1,h2,h3,h4,h5⟩:=uQ he;obtain⟨w,ew,rw'⟩:=r.get h2;have hl:=r.length;have hn:=pN;have fU:EP X pins σ Q w s:=⟨z,H,I,rw',q⟩;by_cases h0:0<=i
 ·have hj:i.toNat=j:=by
   rw[seqIndex_of h0 h5] at h1;exact bH h1
  exact item_listR pl.isList h0 ⋯ (by rw[hj];simpa using ew) fU hs
 ·have hj:(i+(its.toArray.size:Int)).toNat=j:=by
   rw[seqIndex_neg ⋯ h4] at h1;rw[bE,←hl];exact bH h1
  exact subscriptTail_builtinR (x:=w) pl.isList.typeIs slot_list_getitem.lookup
   (wpAny_getItem_list_neg (Q:=λr s'=>r=w/\EP X pins σ Q r s') pl.isList ⋯ (by rw[bE]<;>omega) ⋯ (by rw[hj];simpa using ew) ⟨rfl,fU⟩) hs
theorem Zj:qf X (uo X.K):=by
 intro value slice pins s σ H x y v u Q I rx ry h hs;obtain⟨p,xs,i,z,rfl,rfl,hq,he,q⟩:=h;cases rx;obtain⟨t,rfl⟩:=ry;obtain⟨its,r,pl,hz⟩:=I.tuple hq;obtain⟨j,h1,h2,h3,h4,h5⟩:=uQ he;obtain⟨w,ew,rw'⟩:=r.get h2;have hl:=r.length;have hn:=pN;have fU:EP X pins σ Q w s:=⟨z,H,I,rw',q⟩;exact subscriptTail_builtinR (x:=w) pl.typeIs slot_tuple_getitem.lookup
  (getItem_tuple (j:=j) (Q:=λr s'=>r=w/\EP X pins σ Q r s') pl ⋯ ⋯ (by rw[bE,←hl];exact h1) (by simpa using ew) ⟨rfl,fU⟩) hs
theorem Rg:qf X vj:=by
 intro value slice pins s σ H x y v u Q I rx ry h hs;obtain⟨z,i,c,rfl,rfl,hz,he,q⟩:=h;obtain⟨t,rfl⟩:=rx;obtain⟨t',rfl⟩:=ry;obtain⟨j,h1,h2,h3,h4,h5⟩:=uQ he;have hl:z.cps.toList.length=z.length:=by simp[Str.length]
 rw[hl] at h1 h4 h5;have hn:=pN;exact tail_any (typeIs_str s z t) slot_str_getitem.lookup (getItem_str (c:=c) (by
  have e1:decide (i< -(2^63:Int))=false:=eV ⋯;have e2:decide (i ≥ 2^63)=false:=eV ⋯;rw[e1,e2,Bool.or_false]) (by rw[h1];simpa using h2) ⟨.str ⟨#[c]⟩,H,I.tok _,⟨()⟩,q⟩) hs
theorem Inv.lst{pins:List (Addr×Obj)}{σ:St}{H:Hp}{s:Shared}{p:Addr}{xs:List V}(I:Inv X pins σ H s)(h:H p=some (.lst xs)):
  ∃(its:List Value) (n:Nat),Vals xs its/\s.heap.get? p=some {cls:=.type "list",data:=.seq its.toArray n}/\xs.length<=sizeLine:=by
 obtain⟨z,its,n,r,e⟩:=I.hok p _ h;exact⟨its,n,r,e,z⟩
theorem Wc(lo hi:Option Int)(n:Nat):(sliceBounds lo hi none n).1=((HT.sIx n 0 lo:Nat):Int)/\(sliceBounds lo hi none n).2.1=((HT.sIx n n hi:Nat):Int)/\(sliceBounds lo hi none n).2.2=1:=by
 refine⟨?_,?_,rfl⟩
 ·cases lo with
  |none=>simp[sliceBounds,HT.sIx]
  |some i=>
   simp only[sliceBounds,HT.sIx,Option.getD_none,show (1:Int)>0 by decide,if_true];by_cases h:i<0
   ·simp only[h,if_true]<;>omega
   ·simp only[h,if_false]<;>omega
 ·cases hi with
  |none=>simp[sliceBounds,HT.sIx]
  |some i=>
   simp only[sliceBounds,HT.sIx,Option.getD_none,show (1:Int)>0 by decide,if_true];by_cases h:i<0
   ·simp only[h,if_true]<;>omega
   ·simp only[h,if_false]<;>omega
theorem QP(its:List Value)(lo hi:Option Int):slicePick its.toArray lo hi none=((its.drop (HT.sIx its.length 0 lo)).take (HT.sIx its.length its.length hi-HT.sIx its.length 0 lo)).toArray:=by
 obtain⟨h1,h2,h3⟩:=Wc lo hi its.toArray.size;unfold slicePick;rw[h1,h2,h3];simp only[sliceRange_one,pick_run,bE]<;>rfl
def tP(K:FG):V->Option Int->Option Int->Hp->VK->Prop:=λx lo hi H Q=>∃a xs,x=.ref a/\SqL K H a xs/\∀p,H p=none->Q (.ref p) (upd H p (.lst (iI xs lo hi)))
theorem aC9:qX X (tP X.K):=by
 intro pins s σ H x v vl vu lo hi sl Q I rx hs pl pu h;obtain⟨a,xs,rfl,hx,q⟩:=h;cases rx;obtain⟨its,r,ht,hz⟩:=I.list hx;have hlen:=r.length;refine⟨"list",_,slot_list_getitem.lookup,ht.isList.typeIs,?_⟩;refine wpAny_getItem_list_slice ht.isList hs pl pu .none (by simp) ?_ (by rw[bE]<;>omega);rw[QP,←hlen];refine⟨.ref s.heap.objs.size,_,I.laid (t':=s.toks) (o:=.lst (iI xs lo hi)) (λb ob q=>aS _ q) (aP _) ?_,rfl,q _ (I.hok.fresh (aP _))⟩
 exact⟨bK (Md xs lo hi) hz,_,0,(r.drop (HT.sIx xs.length 0 lo)).take (HT.sIx xs.length xs.length hi-HT.sIx xs.length 0 lo),bD _ rfl⟩
noncomputable def li:V->Bool
 |.non=>true
 |.bl _=>true
 |.int _=>true
 |.str _=>true
 |_=>false
noncomputable def mL:V->V->Bool
 |.non,.non=>true
 |.bl a,.bl b=>a==b
 |.bl a,.int b=>(if a then 1 else 0)==b
 |.int a,.bl b=>a==(if b then 1 else 0)
 |.int a,.int b=>a==b
 |.str a,.str b=>a==b
 |_,_=>false
theorem We{A:Around}{s:Shared}{y x:V}{u v:Value}(ry:RelV y u)(rx:RelV x v)(fy:li y=true)(fx:li x=true):SeqAt.EqAt A s u v (mL y x):=by
 cases y with
 |non=>
  cases ry;cases x with
  |non=>cases rx;exact SeqAt.EqAt.same _
  |bl b=>cases rx;exact SeqAt.EqAt.none_bool b
  |int b=>obtain⟨t,rfl⟩:=rx;exact SeqAt.EqAt.none_int b t
  |str b=>obtain⟨t,rfl⟩:=rx;exact SeqAt.EqAt.none_str b t
  |_=>exact absurd (show false=true from fx) bI
 |bl a=>
  cases ry;cases x with
  |non=>cases rx;exact SeqAt.EqAt.bool_none a
  |bl b=>cases rx;exact SeqAt.EqAt.bool_bool a b
  |int b=>obtain⟨t,rfl⟩:=rx;exact SeqAt.EqAt.bool_int a b t
  |str b=>obtain⟨t,rfl⟩:=rx;exact SeqAt.EqAt.bool_str a b t
  |_=>exact absurd (show false=true from fx) bI
 |int a=>
  obtain⟨t',rfl⟩:=ry;cases x with
  |non=>cases rx;exact SeqAt.EqAt.int_none a t'
  |bl b=>cases rx;exact SeqAt.EqAt.int_bool a t' b
  |int b=>obtain⟨t,rfl⟩:=rx;exact SeqAt.EqAt.int_int a t' b t
  |str b=>obtain⟨t,rfl⟩:=rx;exact SeqAt.EqAt.int_str a t' b t
  |_=>exact absurd (show false=true from fx) bI
 |str a=>
  obtain⟨t',rfl⟩:=ry;cases x with
  |non=>cases rx;exact SeqAt.EqAt.str_none a t'
  |bl b=>cases rx;exact SeqAt.EqAt.str_bool a t' b
  |int b=>obtain⟨t,rfl⟩:=rx;exact SeqAt.EqAt.str_int a t' b t
  |str b=>obtain⟨t,rfl⟩:=rx;exact SeqAt.EqAt.str_str a t' b t
  |_=>exact absurd (show false=true from fx) bI
 |_=>exact absurd (show false=true from fy) bI
noncomputable def lQ(x:V)(u:Value):Bool:=match u with
 |.none=>mL .non x
 |.bool b=>mL (.bl b) x
 |.int i _=>mL (.int i) x
 |.str z _=>mL (.str z) x
 |_=>false
theorem Eu{x y:V}{u:Value}(r:RelV y u)(f:li y=true):lQ x u=mL y x:=by
 cases y with
 |non=>cases r;rfl
 |bl b=>cases r;rfl
 |int i=>obtain⟨t,rfl⟩:=r;rfl
 |str z=>obtain⟨t,rfl⟩:=r;rfl
 |_=>exact absurd (show false=true from f) bI
theorem xw{x:V}:∀{xs:List V} {us:List Value},Vals xs us->xs.all li=true->us.any (lQ x)=xs.any λy=>mL y x
 |_,_,.nil,_=>rfl
 |y::xs,u::us,.cons r t,f=>by
  rw[List.all_cons,bL] at f;rw[bX,bX,Eu r f.1,xw t f.2]
theorem vd{A:Around}{s:Shared}{x:V}{v:Value}(rx:RelV x v)(fx:li x=true):∀{xs:List V} {us:List Value},Vals xs us->xs.all li=true->∀u∈us,SeqAt.EqAt A s u v (lQ x u)
 |_,_,.nil,_=>λu hu=>by cases hu
 |y::xs,u::us,.cons r t,f=>λu' hu=>by
  rw[List.all_cons,bL] at f;rcases aT.mp hu with rfl | hu
  ·rw[Eu r f.1];exact We r rx f.1 fx
  ·exact vd rx fx t f.2 u' hu
noncomputable def rN(x:V)(xs:List V):Bool:=xs.any λy=>mL y x
def v9(K:FG)(neg:Bool):R2:=λx y H Q=>∃p xs,y=.ref p/\(SqL K H p xs∨SqT K H p xs)/\li x=true/\xs.all li=true/\Q (.bl (if neg then !rN x xs else rN x xs)) H
theorem WC:gB X (compareOp .In) (v9 X.K false):=by
 intro pins s σ H x y v u Q I rx ry h;obtain⟨p,xs,rfl,hq,fx,fs,q⟩:=h;cases ry;rcases hq with hq | hq
 ·obtain⟨its,r,pl,hz⟩:=I.list hq;refine SeqAt.in_listAt (lQ x) pl.isList (λw hw=>vd rx fx r fs w (by simpa using hw)) ⟨.bl _,H,I,rfl,?_⟩;rw[show its.toArray.any (lQ x)=its.any (lQ x) by simp,xw r fs];exact q
 ·obtain⟨its,r,pl,hz⟩:=I.tuple hq;refine SeqAt.in_tupleAt (lQ x) pl (λw hw=>vd rx fx r fs w (by simpa using hw)) ⟨.bl _,H,I,rfl,?_⟩;rw[show its.toArray.any (lQ x)=its.any (lQ x) by simp,xw r fs];exact q
theorem VX:j6 X (.builtin "len") (λxs H Q=>∃p ys,xs=[.ref p]/\(SqL X.K H p ys∨SqT X.K H p ys)/\Q (.int ys.length) H):=by
 intro pins s σ H xs us Q I r h;obtain⟨p,ys,rfl,hq,q⟩:=h;obtain⟨u,rfl,rx⟩:=iO r;cases rx;have hn:=pN;rcases hq with hq | hq
 ·obtain⟨its,r',pl,hz⟩:=I.list hq;have hlen:=r'.length;exact Calls.call_len_list pl.isList (by simp only[bE]<;>omega) ⟨.int ys.length,H,I.tok _,⟨s.toks+1,by rw[bE,hlen]⟩,q⟩
 ·obtain⟨its,r',pl,hz⟩:=I.tuple hq;have hlen:=r'.length;exact len_tuple pl (by simp only[bE]<;>omega) ⟨.int ys.length,H,I.tok _,⟨s.toks+1,by rw[bE,hlen]⟩,q⟩
theorem ZU:j6 X (.builtin "len") (λxs H Q=>∃z,xs=[.str z]/\z.length<=sizeLine/\Q (.int z.length) H):=by
 intro pins s σ H xs us Q I r h;obtain⟨z,rfl,hz,q⟩:=h;obtain⟨u,rfl,t,rfl⟩:=iO r;have hn:=pN;exact len_str ⋯ ⟨.int z.length,H,I.tok _,⟨()⟩,q⟩
theorem VZ:j6 X (.type "tuple") (λxs H Q=>∃p ys,xs=[.ref p]/\((SqL X.K H p ys/\∀l,H l=none->Q (.ref l) (upd H l (.tup ys)))∨(SqT X.K H p ys/\Q (.ref p) H))):=by
 intro pins s σ H xs us Q I r h;obtain⟨p,ys,rfl,h⟩:=h;obtain⟨u,rfl,rx⟩:=iO r;cases rx;rcases h with ⟨hq,q⟩ | ⟨hq,q⟩
 ·obtain⟨its,r',pl,hz⟩:=I.list hq;have hlen:=r'.length;refine call_tuple_list pl.isList (λh' kp=>?_) (by simp only[bE]<;>omega);have I1:Inv X pins σ H {s with heap:=h'}:=I.kept (t':=s.toks) kp;have I2:Inv X pins σ (upd H h'.objs.size (.tup ys)) {s with heap:=h'.push {cls:=.type "tuple",data:=.seq its.toArray} }:=
   I1.laid (t':=s.toks) (λb o e=>aS _ e) (aP _) (show ObjOk X.prog X.w _ _ _ (.tup ys) from ⟨hz,its,r',IsTup.new _ _⟩)
  exact⟨.ref h'.objs.size,_,I2,rfl,q _ (I1.hok.fresh (aP _))⟩
 ·obtain⟨its,r',pl,hz⟩:=I.tuple hq;exact call_tuple_same pl ⟨.ref p,H,I,rfl,q⟩
def sN(K:FG)(T:String)(x:V)(H:Hp):Prop:=match x with
 |.str _=>T="str"
 |.int _=>T="int"
 |.ref p=>(T="list"/\∃xs,SqL K H p xs)∨(T="tuple"/\∃o,K.lookup p=some o/\o.cls=.type "tuple"/\o.dict=none)∨
   (T="dict"/\((∃kvs,H p=some (.dK kvs))∨∃kvs,H p=some (.dT kvs)))∨(T="set"/\∃S n,H p=some (.set S n))
 |_=>False
theorem HW{pins:List (Addr×Obj)}{σ:St}{H:Hp}{s:Shared}{T:String}{x:V}{v:Value}(I:Inv X pins σ H s)(r:RelV x v)(ty:sN X.K T x H):
  s.TypeIs v T/\∀a,v=.ref a->∃ob,s.heap.get? a=some ob/\ob.dict=none:=by
 cases x with
 |str z=>
  obtain⟨t,rfl⟩:=r;cases (show T="str" from ty);exact⟨typeIs_str s z t,λ_ e=>nomatch e⟩
 |int i=>
  obtain⟨t,rfl⟩:=r;cases (show T="int" from ty);exact⟨typeIs_int s i t,λ_ e=>nomatch e⟩
 |ref p=>
  cases r;rcases ty with ⟨rfl,xs,hq⟩ | ⟨rfl,o,hk,hc,hd⟩ | ⟨rfl,hk⟩ | ⟨rfl,S,n,hk⟩
  ·obtain⟨its,_,pl,_⟩:=I.list hq;refine⟨pl.isList.typeIs,λa e=>?_⟩;cases e;obtain⟨o,n,e,c,hd,_⟩:=pl;exact⟨o,e,hd⟩
  ·refine⟨⟨o,I.kIn p o hk,hc⟩,λa e=>?_⟩;cases e;exact⟨o,I.kIn _ o hk,hd⟩
  ·have z:∃o,s.heap.get? p=some o/\o.ExactDict:=by
    rcases hk with ⟨kvs,hk⟩ | ⟨kvs,hk⟩
    ·obtain⟨_,_,_,_,o,_,_,e,ex,_⟩:=I.hok p _ hk;exact⟨o,e,ex⟩
    ·obtain⟨_,_,_,_,o,_,_,e,ex,_⟩:=I.hok p _ hk;exact⟨o,e,ex⟩
   obtain⟨o,e,ex⟩:=z;refine⟨⟨o,e,ex.1⟩,λa e2=>?_⟩;cases e2;exact⟨o,e,ex.2.1⟩
  ·obtain⟨o,_,_,_,e,ex,_⟩:=I.hok p _ hk;refine⟨⟨o,e,ex.1⟩,λa e2=>?_⟩;cases e2;exact⟨o,e,ex.2.1⟩
 |_=>exact False.elim ty
def Of(K:FG)(T:String)(r:V->List V->Hp->VK->Prop)(to:TE):TE:=λσ H Q=>to σ H λx H1=>sN K T x H1/\r x [] H1 Q
def mZ(K:FG)(T:String)(r:V->List V->Hp->VK->Prop)(to:TE)(t:TA):TE:=λσ H Q=>to σ H λx H1=>sN K T x H1/\t σ H1 λxs H2=>r x xs H2 Q
variable{o e:Expr}{es:List Expr}{to:TE}{t:TA}{name:Str}{apos cpos:Pos}{T id:String}{r:V->List V->Hp->VK->Prop}
theorem ZS(pa:PlainAttrs T)(slot:Slot T name id)(hty:typeOf (.builtin id)=pure (.type "method_descriptor"))(hm:nV X id r)(ho:PE X o to)
  (hbase:attributeBase o name X.env (eval o X.env)=eval o X.env:=by rfl) (hline:(apos.endLine==cpos.line)=true:=by rfl):PE X (.Call (.Attribute o name apos) [] [] cpos) (Of X.K T r to):=by
 intro pins s σ H Q I h;refine wpAny_Call_method0_late hbase hline (fJ (ho pins s σ H _ I h) λv s1 ⟨x,H1,I1,r1,ty,q1⟩=>?_);obtain⟨h1,h2⟩:=HW I1 r1 ty;exact⟨T,id,pa,slot,hty,h1,h2,Calls.callWith_builtin rfl (PySem.evalArgs_none (hm pins s1 σ H1 x [] v [] Q I1 r1 .nil q1))⟩
theorem ou(pa:PlainAttrs T)(slot:Slot T name id)(hty:typeOf (.builtin id)=pure (.type "method_descriptor"))(hm:nV X id r)(ho:PE X o to)(ha:PA X (e::es) t)
  (hbase:attributeBase o name X.env (eval o X.env)=eval o X.env:=by rfl)
  (hfew:((backTo cpos (starEach (e::es) X.env)).all (λx=> !x.1)&&(backToKw cpos (keywordEach [] X.env)).all (λx=>x.1.isSome)
   &&decide ((e::es).length+([]:List Keyword).length+(if ([]:List Keyword).isEmpty then 0 else 1)<30))=true:=by rfl)
  (hline:(apos.endLine==cpos.line)=true:=by rfl) (hs:starEach (e::es) X.env=(false,eval e X.env)::starEach es X.env:=by rfl) (hplain:(backTo cpos (starEach es X.env)).any (·.1)=false:=by rfl):
  PE X (.Call (.Attribute o name apos) (e::es) [] cpos) (mZ X.K T r to t):=by
 intro pins s σ H Q I h;refine wpAny_Call_method_late hbase hfew hline rfl (fJ (ho pins s σ H _ I h) λv s1 ⟨x,H1,I1,r1,ty,q1⟩=>?_);obtain⟨h1,h2⟩:=HW I1 r1 ty;refine⟨T,id,pa,slot,hty,h1,h2,?_⟩;have hA:=ha cpos pins s1 σ H1 _ I1 q1;rw[hs] at hA ⊢;refine Calls.callWith_builtin (by show (false||(backTo cpos (starEach es X.env)).any (·.1))=false;rw[hplain]<;>rfl) (Calls.evalArgs_plain ?_)
 exact fJ hA λus s2 ⟨vs,H2,I2,r2,q2⟩=>hm pins s2 σ H2 x vs v us Q I2 r1 r2 q2
end
def Ar(X:Cx)(id:String)(r:V->List V->Hp->VK->Prop):Prop:=
 ∀(pins:List (Addr×Obj)) (s:Shared) (σ:St) (H:Hp) (x:V) (xs:List V) (v:Value) (us:List Value) (Q:VK),Inv X pins σ H s->RelV x v->Vals xs us->r x xs H Q->
  wpAny (model X.prog X.w) X.A (call (.builtin id) (v::us)) (EP X pins σ Q) X.xe s
theorem Vals.one:∀{x:V} {us:List Value},Vals [x] us->∃u,us=[u]/\RelV x u
 |_,_,.cons r .nil=>⟨(),r⟩
theorem Vals.eraseIdx:∀{xs:List V} {us:List Value} (i:Nat),Vals xs us->Vals (xs.eraseIdx i) (us.eraseIdx i)
 |_,_,_,.nil=>.nil
 |_,_,0,.cons _ t=>t
 |_,_,i+1,.cons r t=>.cons r (Vals.eraseIdx i t)
theorem L5{α:Type}:∀(l:List α) (i:Nat),(l.eraseIdx i).length<=l.length
 |[],_=>aP _
 |_::_,0=>cD _
 |_::r,i+1=>Nat.succ_le_succ (L5 r i)
section
variable{X:Cx}{pins:List (Addr×Obj)}{σ:St}{H:Hp}{s:Shared}{l b:Addr}{xs ys zs:List V}
theorem Inv.lset{its its':List Value}{n:Nat}{f:Array Value->Array Value}{t':Nat}(I:Inv X pins σ H s)(hH:H l=some (.lst xs))
  (e:s.heap.get? l=some {cls:=.type "list",data:=.seq its.toArray n}) (hf:f its.toArray=its'.toArray) (hv:Vals ys its') (hz:ys.length<=sizeLine):
  Inv X pins σ (upd H l (.lst ys)) {s with heap:=s.heap.update l (Obj.mapSeq f),toks:=t'}:=by
 have q:=PySem.IsL.update e f;rw[hf] at q;refine I.write (x:=l) (e:=l) (by rw[hH];exact trivial) (.inl rfl) (λb' u hb hu=>(cF s.heap (Obj.mapSeq f) (Ne.symm hb)).trans hu) ⟨_,q⟩ ?_;exact⟨hz,its',_,hv,q⟩
theorem Inv.lnew{its:List Value}{t':Nat}(I:Inv X pins σ H s)(hv:Vals ys its)(hz:ys.length<=sizeLine):
  Inv X pins σ (upd H s.heap.objs.size (.lst ys)) {s with heap:=s.heap.push {cls:=.type "list",data:=.seq its.toArray},toks:=t'}:=
 I.laid (λ_ _ q=>aS _ q) (aP _) ⟨hz,its,0,hv,bD _ rfl⟩
theorem Inv.fresh(I:Inv X pins σ H s):H s.heap.objs.size=none:=I.hok.fresh (aP _)
theorem Inv.lstM(I:Inv X pins σ H s)(hH:H l=some (.lst xs)):xs.length<=sizeLine/\∃(its:List Value) (n:Nat),Vals xs its/\xs.length=its.length/\s.heap.get? l=some {cls:=.type "list",data:=.seq its.toArray n}:=by
 obtain⟨z,its,n,r,e⟩:=I.hok l _ hH;exact⟨z,its,n,r,r.length,e⟩
end
section
variable{X:Cx}
def Bj:V->List V->Hp->VK->Prop:=λx vs H Q=>∃l xs y,x=.ref l/\vs=[y]/\H l=some (.lst xs)/\xs.length<sizeLine/\Q .non (upd H l (.lst (xs++[y])))
theorem KF:Ar X "list.append" Bj:=by
 intro pins s σ H x vs v us Q I rx rv h;obtain⟨l,xs,y,rfl,rfl,hH,hz,q⟩:=h;cases rx;obtain⟨u,rfl,ru⟩:=rv.one;obtain⟨z,its,n,r,hl,e⟩:=I.lstM hH;refine call_meets F.slot_list_append ⟨_,e,rfl⟩ F.entry_list_append (F.args_list_append_2 _ _) (PySem.list_append l its.toArray n u (by rw[bE];omega)) ⟨e,?_⟩;refine⟨.non,_,I.lset (its':=its++[u]) hH e (by simp) (r.append (.cons ru .nil)) ?_,rfl,q⟩;rw[aV,b8];omega
def K5:V->List V->Hp->VK->Prop:=λx vs H Q=>∃l xs i k y,x=.ref l/\vs=[.int i]/\H l=some (.lst xs)/\ -(2^63)<=i/\i<2^63/\seqIndex? i xs.length=some k/\xs[k]? =some y/\Q y (upd H l (.lst (xs.eraseIdx k)))
theorem P2:Ar X "list.pop" K5:=by
 intro pins s σ H x vs v us Q I rx rv h;obtain⟨l,xs,i,k,y,rfl,rfl,hH,h1,h2,hk,hy,q⟩:=h;cases rx;obtain⟨u,rfl,ru⟩:=rv.one;obtain⟨t,rfl⟩:=ru;obtain⟨z,its,n,r,hl,e⟩:=I.lstM hH;obtain⟨w,hw,rw'⟩:=r.get hy;refine call_meets F.slot_list_pop ⟨_,e,rfl⟩ F.entry_list_pop (F.args_list_pop_2 _ _)
  (MeetsSeq.list_pop_at l its.toArray n i t k w (fitsIndex_both h1 h2) (by rw[bE,←hl];exact hk) (by rw[←b6];exact hw) (by rw[bE];omega)) ⟨e,?_⟩
 refine⟨y,_,I.lset (its':=its.eraseIdx k) hH e ?_ (r.eraseIdx k) ?_,rw',q⟩
 ·show its.toArray.eraseIdxIfInBounds k=(its.eraseIdx k).toArray;rw[List.eraseIdxIfInBounds_toArray]
 ·have:=L5 xs k;omega
def DI:R2:=λx y H Q=>∃l b xs zs,x=.ref l/\y=.ref b/\H l=some (.lst xs)/\H b=some (.lst zs)/\xs.length+zs.length<=sizeLine/\∀p,H p=none->Q (.ref p) (upd H p (.lst (xs++zs)))
theorem SB:gB X (binaryOp .Add) DI:=by
 intro pins s σ H x y v u Q I rx ry h;obtain⟨l,b,xs,zs,rfl,rfl,hH,hB,hz,q⟩:=h;cases rx;cases ry;obtain⟨z,its,n,r,hl,e⟩:=I.lstM hH;obtain⟨z2,its2,n2,r2,hl2,e2⟩:=I.lstM hB;refine PySem.P.add_list e e2 ?_ (by rw[bE,bE];omega);have ea:its.toArray++its2.toArray=(its++its2).toArray:=by simp
 rw[ea];exact⟨.ref _,_,I.lnew (t':=s.toks) (r.append r2) (by rw[aV];omega),rfl,q _ I.fresh⟩
variable{prog:Program}{w:World}{A:Around}{E:Value->Shared->Prop}{s:Shared}
end
end L2
namespace Att
open PySem PySem.W PySem.Calls PyProof.Rows
theorem Yy{P:Params}{h:Heap}:∀(ns:List Int) (vs:List Value),WellAll P h vs (ns.map WData.int)->IntsAre vs ns:=by
 intro ns;induction ns with
 |nil=>
  intro vs w;rw[List.map_nil] at w;cases w;exact .nil
 |cons n ns ih=>
  intro vs w;rw[List.map_cons] at w;cases w with
  |cons a b=>
   cases a;exact .cons _ _ (ih _ b)
theorem RT{l:OpenLaw}{n:Nat}(hn:l.most=some n){P:Params}{h:Heap}{args:List WData}{vals:List Value}
  (hpre:l.row.toRowW.claim.pre args=true) (hwl:WellAll P h vals args):
  ∃a vs ns,vals=[Value.ref a]/\args=[WData.list (ns.map WData.int)]/\h.get? a=some {cls:=.type "list",data:=.seq vs.toArray}/\IntsAre vs ns/\ns.length<=n:=by
 have hsh:WShape.hasAll [] args [.list .int]=true:=(pre_splitW hpre).1;have hc:l.pre.holds [] {args:=args}=true:=(pre_splitW hpre).2;obtain⟨d,r,rfl,h1,h2⟩:=hasAllW_cons hsh;obtain rfl:=hasAllW_nil h2;obtain⟨xs,rfl,h3⟩:=hasW_list h1;obtain⟨ns,rfl⟩:=items_int h3;have hlen:ns.length<=n:=by
  unfold OpenLaw.pre at hc;have h4:(WTm.not (.lt (.lit (.int (n:Int))) (.len (.arg 0)))).holds [] {args:=[.list (ns.map .int)]}=true:=by
   have h4:=(holds_andW hc).1;rw[hn] at h4;exact h4
  have h5:=condW_of h4 (w_not (w_lt w_lit (w_len_list (w_arg rfl))));rw[List.length_map] at h5;refine Nat.le_of_not_lt λq=>?_;have q':(n:Int)<((ns.length:Nat):Int):=⋯
  first
   |(rw[decide_eq_true q'] at h5;exact absurd h5 (by decide))
   |(simp at h5;omega)
 cases hwl with
 |cons w1 w2=>
  cases w2;cases w1 with
  |list ho hall=>exact⟨_,_,ns,rfl,rfl,ho,Yy ns _ hall,hlen⟩
theorem UZ(l:OpenLaw)(args:List WData):l.row.toRowW.claim.post args (.bool true) args=true:=
 postW_of (r:=l.row.toRowW) (X:=(true==true))
  (show WShape.has [] (.bool true) .bool=true by first | rfl | decide | simp[WShape.has,WShape.arms,WShape.armsAll])
  (show (WTm.eq .res (.lit (.bool true))).value [] {args:=args,res:=some (.bool true),after:=args}=some (.bool (true==true)) from w_eq_bool (w_res rfl) w_lit) rfl
theorem attach_call{l:OpenLaw}{n:Nat}{q:Program}{loose:List Str}{XP:(Str->Option Value)->Heap->Prop}{YP:World->Heap->Prop}{d:DefRec}
  (hn:l.most=some n) (hdf:d.params.defaults=[])
  (call:∀(w:World) (s₀ s₁:Shared) (mg mb:Str->Option Value) (fa:Addr) (o:Obj) (pm cd doc:Value) (a:Addr) (vs:List Value) (ns:List Int),
   Ground q loose [] XP w s₀ mg mb s₁.heap->YP w s₁.heap->
   s₁.heap.get? fa=some o->o.data=.func (docDef d.name d.params d.body d.scope pm cd doc)->s₁.heap.CodeRec cd d.name->mg d.name=some (.ref fa)->
   s₁.heap.get? a=some {cls:=.type "list",data:=.seq vs.toArray}->IntsAre vs ns->ns.length<=n->s₁.gens= #[]->
   codeAny (model l.prog w) callerA (.call (.ref fa) ⟨[.ref a],[]⟩) (λr s'=>r=.ok (.ret (.bool true))/\OldK s₁.heap s'.heap/\s'.os=s₁.os/\AllBare s'.gens) s₁):
  WalkO q loose XP YP l.row.toRowW d [] (λf vs=>PySem.call f vs):=by
 intro w s₀ s₁ mg mb G Y fa o pm cd doc dV kV ho hd hcd hD hmg hg args vals as hpre hlay hrd hwl hlo;obtain rfl:dV=.none:=Dflts.none hD hdf;obtain rfl:kV=.none:=Dflts.noKw hD;obtain⟨a,vs,ns,rfl,rfl,hobj,hints,hlen⟩:=RT hn hpre hwl;refine enter_call (codeAny_mono (call w s₀ s₁ mg mb fa o pm cd doc a vs ns G Y ho (fd_plain hd) hcd hmg hobj hints hlen hg) λr s' hq=>?_);obtain⟨rfl,h2,h3,h4⟩:=hq;exact⟨.inl ⟨.bool true,.bool true,[],rfl,λ_=>rfl,.bool true,UZ l _,λ_=>⟨List.Pairwise.nil,λ_ hm=>(nomatch hm)⟩⟩,h2,h3,h4⟩
end Att
namespace L2
open PySem PySem.Spec PyProof.Rows
theorem rS:∀{vs:List Value} {ns:List Int},IntsAre vs ns->Vals (ns.map V.int) vs
 |_,_,.nil=>.nil
 |_,_,.cons n t h=>.cons ⟨t,rfl⟩ (rS h)
def xC(H:Hp):Prop:=∀b,H b=none∨∃o xs,H b=some (.frz o (.lst xs))
theorem Yj{P:Program}{w:World}{K:FG}{mg mb:Str->Option Value}{CX:kN}{k:Nat}{fa a:Addr}{fd:FuncData}{x:Str}{sp:Sp}{s₁:Shared}{vs:List Value}{ns:List Int}
  (KX:K.In s₁.heap) (hns:s₁.heap.Ns mainGlobals mg) (hb:s₁.heap.Ns builtinsNs mb) (hbb:∀x:Str,x≠"__name__"->mb x=bootBuiltins x) (hlim:s₁.heap.NoLimit) (hg:s₁.gens= #[])
  (ha:s₁.heap.get? a=some {cls:=.type "list",data:=.seq vs.toArray}) (hi:IntsAre vs ns) (hl:ns.length<=sizeLine) (hr:Room k callerA)
  (F:∀base:Heap,K.In base->base.Ns mainGlobals mg->gk P w K mg base CX k fa fd [x] sp) (hbind:∀(s:Shared) (u:Value),BindsTo s fd ⟨[u],[]⟩ [(x,u)])
  (hsp:∀H:Hp,xC H->SqL K H a (ns.map V.int)->sp [.ref a] H (λv _=>v=.bl true) λ_ _ _=>False)
  (hCX:∀H e s',CX [] H s₁ (λ_ _ _=>False) e s'->False):
  codeAny (model P w) callerA (.call (.ref fa) ⟨[.ref a],[]⟩) (λr s'=>r=.ok (.ret (.bool true))/\OldK s₁.heap s'.heap/\s'.os=s₁.os/\AllBare s'.gens) s₁:=by
 have rv:=rS hi;have lenV:=hi.length
 -- from an abstract heap in which nothing but the script may be tracked
 have core:∀H:Hp,xC H->SqL K H a (ns.map V.int)->HOk P w H s₁.heap->(∀b,H b≠none->b=a)->(H a≠none->K.lookup a=none)->
   codeAny (model P w) callerA (.call (.ref fa) ⟨[.ref a],[]⟩) (λr s'=>r=.ok (.ret (.bool true))/\OldK s₁.heap s'.heap/\s'.os=s₁.os/\AllBare s'.gens) s₁:=by
  intro H hO hS hok hA hK;have base_of:∀{b:Addr} {o:Obj},s₁.heap.get? b=some o->H b=none->(lX s₁.heap H).get? b=some o:=λe n=>ZL e n;have noA:∀{b:Addr} {o:Obj} {es:Array DictEntry} {ep:Nat},s₁.heap.get? b=some o->o.data=.dict es ep->H b=none:=λ{b o es ep} e d=>by
   cases q:H b with
   |none=>rfl
   |some u=>
    have e':b=a:=hA b (by rw[q];simp);subst e';rw[ha] at e;cases e;have d':Data.seq vs.toArray _=Data.dict es ep:=d;cases d'
  have nsK:∀{b:Addr} {m:Str->Option Value},s₁.heap.Ns b m->(lX s₁.heap H).Ns b m:=λ{b m} ⟨o,es,ep,e,d,r⟩=>⟨o,es,ep,base_of e (noA e d),d,r⟩;have hKb:K.In (lX s₁.heap H):=λb o e=>base_of (KX b o e) (by
   cases q:H b with
   |none=>rfl
   |some u=>
    have e':b=a:=hA b (by rw[q];simp);subst e';rw[hK (by rw[q];simp)] at e;cases e)
  have hM:Mod K mg (lX s₁.heap H):=⟨hKb,nsK hns,⟨mb,nsK hb,hbb⟩,let ⟨mc,h1,h2⟩:=hlim;⟨mc,nsK h1,h2⟩⟩;have e0:Env0 P w K mg (lX s₁.heap H) callerA [] s₁ H:=⟨rfl,hM,λb o e=>O8 e,Nat.le_of_eq (P4 _ _),trivial,λb hb=>absurd (show b∈([]:List Addr) from hb) (by simp),hok,.of_eq hg⟩;refine eP ((F _ hKb (nsK hns)).run callerA [] s₁ H ⟨[.ref a],[]⟩ [.ref a] [.ref a] _ _ hr e0 (hbind s₁ (.ref a)) (.cons rfl .nil) (hsp H hO hS)) λr s' h=>?_
  cases r with
  |error e=>exact (hCX H e s' h).elim
  |ok fl=>
   cases fl with
   |next=>exact False.elim h
   |brk=>exact False.elim h
   |cont=>exact False.elim h
   |ret u=>
    obtain⟨v,H',os,bare,un,hok',r',q⟩:=h;have q':v=.bl true:=q;subst q';obtain rfl:u=Value.bool true:=r';refine⟨rfl,OldK.of_keep λb o e=>?_,os,bare⟩;cases q:H b with
    |none=>exact un.keep b o e q (by intro z;exact absurd (show b∈([]:List Addr) from z) (by simp)) (by simp)
    |some u=>
     rcases hO b with z | ⟨ob,xs,z⟩
     ·rw[q] at z;cases z
     ·have z2:=un.frzs b ob _ z;obtain⟨e1,_⟩:=hok b _ z;obtain⟨e2,_⟩:=hok' b _ z2;rw[e] at e1;cases e1;exact e2
 cases hk:K.lookup a with
 |some o=>
  -- the script is one of the module's own objects
  have e:=KX a o hk;rw[ha] at e;cases e;refine core (λ_=>none) (λ_=>.inl rfl) (.inr ⟨_,vs.toArray,_,hk,rfl,rfl,rfl,by rw[bE,lenV];exact hl,by simpa using rv⟩) (λb u z=>by have z':(none:Option HO)=some u:=z;cases z') (λb z=>absurd rfl z) λz=>absurd rfl z
 |none=>
  refine core (λb=>if b=a then some (.frz {cls:=.type "list",data:=.seq vs.toArray} (.lst (ns.map V.int))) else none) (λb=>?_) (.inl (.inr ⟨{cls:=.type "list",data:=.seq vs.toArray},if_pos rfl⟩)) (λb u z=>?_) (λb z=>?_) λ_=>hk
  ·by_cases hb:b=a
   ·exact .inr ⟨_,_,if_pos hb⟩
   ·exact .inl (if_neg hb)
  ·by_cases hb:b=a
   ·have z':=(if_pos hb).symm.trans z;cases z';subst hb;exact⟨ha,by rw[aQ];exact hl,vs,_,rv,ha⟩
   ·have z':=(if_neg hb).symm.trans z;cases z'
  ·by_cases hb:b=a
   ·exact hb
   ·exact absurd (if_neg hb) z
theorem walk_of{l:PySem.W.OpenLaw}{n k:Nat}{q:Program}{loose:List Str}{XP:(Str->Option Value)->Heap->Prop}{YP:World->Heap->Prop}{d:DefRec}{K:Params->FG}{CX:World->kN}{sp:World->Sp}{x:Str}
  (hn:l.most=some n) (hn2:n<=sizeLine) (hdf:d.params.defaults=[]) (hr:Room k callerA)
  (hY:∀(w:World) (h:Heap),YP w h->(K w.params).In h)
  (F:∀(w:World) (mg:Str->Option Value) (fa:Addr) (h:Heap),(K w.params).In h->h.Ns mainGlobals mg->mg d.name=some (.ref fa)->
   ∃fd:FuncData,(∀(s:Shared) (u:Value),BindsTo s fd ⟨[u],[]⟩ [(x,u)])/\
    ∀base:Heap,(K w.params).In base->base.Ns mainGlobals mg->gk l.prog w (K w.params) mg base (CX w) k fa fd [x] (sp w))
  (hsp:∀(w:World) (H:Hp) (a:Addr) (ns:List Int),ns.length<=n->xC H->SqL (K w.params) H a (ns.map V.int)->sp w [.ref a] H (λv _=>v=.bl true) λ_ _ _=>False)
  (hCX:∀(w:World) (H:Hp) (s:Shared) (e:Value) (s':Shared),CX w [] H s (λ_ _ _=>False) e s'->False):
  PySem.W.WalkO q loose XP YP l.row.toRowW d [] (λf vs=>PySem.call f vs):=by
 refine Att.attach_call hn hdf λw s₀ s₁ mg mb fa o pm cd doc a vs ns G Y ho hd hcd hmg hobj hints hlen hg=>?_;have KX:=hY w _ Y;obtain⟨fd,hb,hF⟩:=F w mg fa _ KX G.T.g hmg;exact Yj KX G.T.g G.T.b G.T.builtins G.T.nolimit hg hobj hints (bK hlen hn2) hr hF hb (λH hO hS=>hsp w H a ns hlen hO hS) λH e s'=>hCX w H s₁ e s'
noncomputable def g9(s:Stmt)(j:Nat):Stmt:=match s with
 |.ClassDef _ _ _ body _ _ _ _ _ _ _=>body.getD j (.Pass ⟨0,0,0,0⟩)
 |_=>.Pass ⟨0,0,0,0⟩
noncomputable def jx(s:Stmt):Arguments:=match s with
 |.FunctionDef _ a _ _ _ _ _ _ _ _=>a
 |_=>{posonlyargs:=[],args:=[],vararg:=none,kwonlyargs:=[],kw_defaults:=[],kwarg:=none,defaults:=[]}
noncomputable def i5(s:Stmt):List Stmt:=match s with
 |.FunctionDef _ _ b _ _ _ _ _ _ _=>b
 |_=>[]
noncomputable def ft(s:Stmt):Scope:=match s with
 |.FunctionDef _ _ _ _ _ _ sc _ _ _=>sc
 |_=>{kind:=.function,names:=[],isGenerator:=false,isCoroutine:=false}
abbrev jj:kN:=λ_ _ _ _ _ _=>False
abbrev E0:XK:=λ_ _ _=>False
theorem nW{X:Cx}:l9 jj X E0:=λ_ _ _ _ _ _ _ h=>h.elim
structure Fun(K:FG)(x qual:Str)(st:Stmt)(f:Addr)(fd:FuncData):Prop where
 ex:∃(oc:Value) (od:Option Addr) (kV doc pm:Value) (an:Option Addr) (cdv ct:Value) (osl:Array (Option Value)),
  fd=PySem.W.fnOf x qual (jx st) (i5 st) (ft st) .none kV doc pm an cdv ct/\K.lookup f=some ⟨oc,od,.func fd,osl⟩/\PySem.W.codeIn K cdv qual=true
 kp:PySem.W.keepIn K (.ref f)=true
section
variable{P:Program}{w:World}{K:FG}{mg:Str->Option Value}{base:Heap}
theorem Fun.ok{x qual:Str}{st:Stmt}{f:Addr}{fd:FuncData}{N ps:List Str}{k:Nat}{sp:Sp}(F:Fun K x qual st f fd)(S:eZ N ps (ft st))(len:∀vs H Q E,sp vs H Q E->vs.length=ps.length)
  (hbody:∀(cdv:Value) (A:Around) (outer:List Env) (s:Shared) (H:Hp) (vs:List V) (Q:VK) (E:XK),Room k (A.deeper (envOfC qual (ft st) s.heap.objs.size f cdv))->sp vs H Q E->
   ∃t,PSs (mG jj P w K mg base N qual (ft st) f cdv A outer s H E).nox (i5 st) t/\t {nx:=λ_ H'=>Q .non H',rt:=Q} (start N vs) H):gk P w K mg base jj (k+1) f fd ps sp:=by
 obtain⟨oc,od,kV,doc,pm,an,cdv,ct,osl,rfl,lk,hcd⟩:=F.ex;refine D7 lk hcd S len λA outer s H vs Q E hr hsp=>?_;obtain⟨t,h,q⟩:=hbody cdv A outer s H vs Q E hr hsp;exact⟨t,h.nox,q⟩
theorem Fun.binds{x qual:Str}{st:Stmt}{f:Addr}{fd:FuncData}{ps:List Str}(F:Fun K x qual st f fd)
  (h:∀(kV doc pm:Value) (an:Option Addr) (cdv ct:Value) (us:List Value),us.length=ps.length->bindArgs (PySem.W.fnOf x qual (jx st) (i5 st) (ft st) .none kV doc pm an cdv ct) ⟨us,[]⟩=pure (ps.zip us)):Binds K fd ps []:=by
 obtain⟨oc,od,kV,doc,pm,an,cdv,ct,osl,rfl,lk,hcd⟩:=F.ex;exact .all (h kV doc pm an cdv ct)
theorem wM{x qual:Str}{st:Stmt}{f:Addr}{oc:Value}{od an:Option Addr}{osl:Array (Option Value)}{kV doc pm cdv ct:Value}(l:K.lookup f=some ⟨oc,od,.func (PySem.W.fnOf x qual (jx st) (i5 st) (ft st) .none kV doc pm an cdv ct),osl⟩)
  (c:PySem.W.codeIn K cdv qual=true) (k:PySem.W.keepIn K (.ref f)=true):Fun K x qual st f (PySem.W.fnOf x qual (jx st) (i5 st) (ft st) .none kV doc pm an cdv ct):=⟨⟨oc,od,kV,doc,pm,an,cdv,ct,osl,rfl,l,c⟩,k⟩
variable{X:Cx}
theorem pv(i:Nat){x:Str}{pos:Pos}(hN:X.N[i]? =some x:=by rfl)(hv:rk X.env.scope x:=by first | exact Or.inl rfl | exact Or.inr (Or.inl rfl) | exact Or.inr (Or.inr rfl))(hd:(x==("__debug__":Str))=false:=by decide)
  (hcd:(x==("__classdict__":Str))=false:=by decide):PE X (.Name x pos) (sJ i):=Ap hN hv hd hcd
end
theorem gf{A B:Prop}(h:B):if false=true then A else B:=by
 rw[if_neg bI];exact h
theorem gZ{A B:Prop}(h:A):if true=true then A else B:=by
 rw[if_pos rfl];exact h
theorem wR{c A B:Prop}[Decidable c](h1:c->A)(h2:¬c->B):if c then A else B:=by
 by_cases h:c
 ·rw[if_pos h];exact h1 h
 ·rw[if_neg h];exact h2 h
def Same(H H':Hp):Prop:=∀b o,H b=some o->H' b=some o
theorem Same.refl(H:Hp):Same H H:=λ_ _ h=>h
theorem Same.trans{H H1 H2:Hp}(a:Same H H1)(b:Same H1 H2):Same H H2:=λc o h=>b c o (a c o h)
theorem Same.free{H H':Hp}(e:Same H H'){l:Addr}(h:H' l=Option.none):H l=Option.none:=by
 cases q:H l with
 |none=>rfl
 |some o=>
  rw[e l o q] at h;cases h
theorem Same.seq{K:FG}{H H':Hp}{a:Addr}{xs:List V}(e:Same H H')(h:SqL K H a xs):SqL K H' a xs:=by
 rcases h with (h | ⟨o,h⟩) | h
 ·exact .inl (.inl (e _ _ h))
 ·exact .inl (.inr ⟨o,e _ _ h⟩)
 ·exact .inr h
section
variable{X:Cx}
theorem ZC:j6 X (.builtin "isinstance") (λxs H Q=>∃i:Int,xs=[.int i,.ty "int"]/\Q (.bl true) H):=by
 intro pins s σ H xs us Q I r h;obtain⟨i,rfl,q⟩:=h;obtain⟨u,w',rfl,⟨t,rfl⟩,r2⟩:=oU r;cases r2;exact PySem.IsiPair.int_int ⟨.bl true,H,I,rfl,q⟩
theorem TV:j6 X (.builtin "isinstance") (λxs H Q=>∃i:Int,xs=[.int i,.ty "bool"]/\Q (.bl false) H):=by
 intro pins s σ H xs us Q I r h;obtain⟨i,rfl,q⟩:=h;obtain⟨u,w',rfl,⟨t,rfl⟩,r2⟩:=oU r;cases r2;exact PySem.IsiPair.int_bool ⟨.bl false,H,I.tok _,rfl,q⟩
end
structure Df(P:Program)(w:World)(K:FG)(mg:Str->Option Value)(base:Heap)(x:Str)(k:Nat)(ps:List Str)(sp:Sp):Prop where
 ex:∃(f:Addr) (fd:FuncData),gk P w K mg base jj k f fd ps sp/\Binds K fd ps []/\mg x=some (.ref f)/\PySem.W.keepIn K (.ref f)=true
structure Fn(K:FG)(mg:Str->Option Value)(x:Str)(st:Stmt)(ps:List Str):Prop where
 ex:∃(f:Addr) (fd:FuncData),Fun K x x st f fd/\Binds K fd ps []/\mg x=some (.ref f)
section
variable{P:Program}{w:World}{K:FG}{mg:Str->Option Value}{base:Heap}{x:Str}{st:Stmt}{ps N:List Str}{k:Nat}{sp:Sp}
theorem Fn.df(F:Fn K mg x st ps)(S:eZ N ps (ft st))(len:∀vs H Q E,sp vs H Q E->vs.length=ps.length)
  (hbody:∀(f:Addr) (cdv:Value) (A:Around) (outer:List Env) (s:Shared) (H:Hp) (vs:List V) (Q:VK) (E:XK),Room k (A.deeper (envOfC x (ft st) s.heap.objs.size f cdv))->sp vs H Q E->
   ∃t,PSs (mG jj P w K mg base N x (ft st) f cdv A outer s H E).nox (i5 st) t/\t {nx:=λ_ H'=>Q .non H',rt:=Q} (start N vs) H):Df P w K mg base x (k+1) ps sp:=by
 obtain⟨f,fd,F1,hb,hm⟩:=F.ex;exact⟨⟨f,fd,F1.ok S len (hbody f),hb,hm,F1.kp⟩⟩
theorem fN{h:Heap}{f:Addr}{oc:Value}{od an:Option Addr}{osl:Array (Option Value)}{kV doc pm cdv ct:Value}(X:K.In h)(G:h.Ns mainGlobals mg)
  (a:PySem.W.nsIn K mainGlobals x=some (some (.ref f))) (l:K.lookup f=some ⟨oc,od,.func (PySem.W.fnOf x x (jx st) (i5 st) (ft st) .none kV doc pm an cdv ct),osl⟩)
  (c:PySem.W.codeIn K cdv x=true) (k:PySem.W.keepIn K (.ref f)=true)
  (hb:∀(kV doc pm:Value) (an:Option Addr) (cdv ct:Value) (us:List Value),us.length=ps.length->bindArgs (PySem.W.fnOf x x (jx st) (i5 st) (ft st) .none kV doc pm an cdv ct) ⟨us,[]⟩=pure (ps.zip us)):Fn K mg x st ps:=by
 have F:=wM (st:=st) l c k;exact⟨⟨f,_,F,F.binds (ps:=ps) hb,PySem.W.mg_of X G a⟩⟩
end
section
variable{X:Cx}
theorem WK{x:Str}{k k':Nat}{ps:List Str}{sp:Sp}{e:Expr}{es:List Expr}{t:TA}{p pos:Pos}(D:Df X.prog X.w X.K X.mg X.base x k ps sp)(hr:Room k' X.A)(ha:PA X (e::es) t)(hk:k<=k':=by decide)(hg:Gl X x:=by rfl)
  (hdb:(x==("__debug__":Str))=false:=by decide) (he:starEach (e::es) X.env=(false,eval e X.env)::starEach es X.env:=by rfl) (hpl:(backTo pos (starEach es X.env)).any (·.1)=false:=by rfl):
  PE X (.Call (.Name x p) (e::es) [] pos) (oS sp [] E0 t):=by
 obtain⟨f,fd,F,hb,hm,kp⟩:=D.ex;exact Q1 F (hr.mono hk) hg hm kp hb .nil nW ha hdb he hpl
end
theorem fm{H:Hp}{p:Addr}(h:H p=none)(o:HO):Same H (upd H p o):=λb u q=>by rw[fG (g6 q h)];exact q
theorem int_eq{a b:Int}:(V.int a=V.int b)↔a=b:=⟨λh=>V.int.inj h,λh=>by rw[h]⟩
theorem gn{a b:Int}{A B:Prop}(h1:a=b->A)(h2:¬a=b->B):if decide (V.int a=V.int b)=true then A else B:=
 wR (λc=>h1 (int_eq.mp (eQ c))) (λc=>h2 λe=>c (eS (int_eq.mpr e)))
theorem wB{a b:Int}{A B:Prop}(h1:¬a=b->A)(h2:a=b->B):if (!decide (V.int a=V.int b))=true then A else B:=by
 by_cases e:a=b
 ·rw[eS (int_eq.mpr e)];exact gf (h2 e)
 ·rw[eV λq=>e (int_eq.mp q)];exact gZ (h1 e)
theorem io{c:Prop}[Decidable c]{A B:Prop}(h1:c->A)(h2:¬c->B):if decide c=true then A else B:=
 wR (λq=>h1 (eQ q)) (λq=>h2 λe=>q (eS e))
theorem tM{a b:Int}{A B:Prop}(e:a=b)(h:B):if (!decide (V.int a=V.int b))=true then A else B:=by
 rw[eS (int_eq.mpr e)];exact gf h
noncomputable def pT:Expr->Option Int
 |.Constant (.int i) _ _=>some i
 |_=>none
def BY(is:List Int):TA:=λ_ H Q=>Q (is.map V.int) H
theorem Lp{X:Cx}:∀{es:List Expr} (is:List Int),es.map pT=is.map some->PA X es (BY is)
 |[],[],_=>k6
 |[],_::_,h=>by cases h
 |_::_,[],h=>by cases h
 |e::es,i::is,h=>by
  have h1:pT e=some i:=(List.cons.inj h).1;have h2:es.map pT=is.map some:=(List.cons.inj h).2;obtain⟨j,pos,rfl⟩:∃j pos,e=.Constant (.int i) j pos:=by
   unfold pT at h1;split at h1
   ·cases h1;exact⟨_,()⟩
   ·cases h1
  exact kK GN (Lp is h2)
structure jC(X:Cx)(scope:Scope)(cl:List (Str×Addr)):Prop where
 is:closureFor scope X.env=pure cl
 sub:∀y c,cl.lookup y=some c->X.env.cells.lookup y=some c
 has:∀y,scope.names.lookup y=some .free->∃c,cl.lookup y=some c
 nocell:∀y∈scope.names,y.2≠ .cell
 kind:scope.kind=.function
 names:∀y∈scope.names,y.2=.local->scope.names.lookup y.1=some .local
noncomputable def hW(X:Cx)(N:List Str)(scope:Scope)(cl:List (Str×Addr))(C:Addr)(ex:List Addr)(pins:List (Addr×Obj))(s:Shared)(H:Hp):Cx:=
 {X with N:=N,s₀:=s,H₀:=H,env:=compEnvC scope cl C X.env,outer:=X.stack,stack:=X.stack,ex:=ex,fn:=λ_=>false,pn:=X.pn++pins,xe:=λ_ _=>False}
noncomputable def gT(js:List Nat)(σ:St):St:=js.map λj=>(σ[j]?).getD none
noncomputable def MF(ifs:List Expr)(env:Env):Sem Bool:=
 forIn ifs true λc r=>if r=true then (do let ok ←isTrue c env (eval c env);pure (ForInStep.yield ok)) else pure (ForInStep.yield r)
def PF(X:Cx)(ifs:List Expr)(t:TT):Prop:=
 ∀(pins:List (Addr×Obj)) (s:Shared) (σ:St) (H:Hp) (Q:Bool->Hp->Prop),Inv X pins σ H s->t σ H Q->
  wpAny (model X.prog X.w) X.A (MF ifs X.env) (TP X pins σ Q) X.xe s
def Os:TT:=λ_ H Q=>Q true H
theorem Wx{X:Cx}:PF X [] Os:=λ_ _ _ H _ I h=>wpAny_tests_nil ⟨H,I,h⟩
theorem S5{X:Cx}{c:Expr}{t:TT}(h:PT X c t):PF X [c] t:=λpins s σ H Q I q=>wpAny_tests_one (h pins s σ H Q I q)
def mj(J:It)(js:List Nat)(σ:St)(tt:TT)(te:TE)(Q:VK)(H1:Hp):Prop:=∀D,H1 D=none->∃W:Nat->Nat->Hp->Prop,(∃m,W 0 m (upd H1 D (.lst [])))/\∀i m H2,W i m H2->
 (J.stop i H2/\Q (.ref D) H2)∨(J.go i H2/\∀v H3,J.yld i H2 v H3->tt (some v::gT js σ) H3 λb H4=>if b=true then
  te (some v::gT js σ) H4 λy H5=>∃ys,H5 D=some (.lst ys)/\ys.length<sizeLine/\∃m',m'<m/\W (i+1) m' (upd H5 D (.lst (ys++[y])))
  else ∃m',m'<m/\W (i+1) m' H4)
def Cr(wi:TI)(js:List Nat)(tt:TT)(te:TE):TE:=λσ H Q=>wi σ H λJ H1=>mj J js σ tt te Q H1
noncomputable def lW(env:Env)(n:Str)(k:NameKind):NameKind:=if (k==NameKind.free&&env.scope.kind== .function&&env.kindOf n==some .cell) then .cell else k
theorem VW{env:Env}{n:Str}{k:NameKind}:(if (k==NameKind.free&&env.scope.kind== .function&&env.kindOf n==some .cell) then (n,NameKind.cell) else (n,k))=(n,lW env n k):=by
 unfold lW;split<;>rfl
theorem CL{env:Env}:∀(names:List (Str×NameKind)) (x:Str),(relabel {kind:=.function,names:=names,isGenerator:=false,isCoroutine:=false} env).names.lookup x=(names.lookup x).map (lW env x)
 |[],_=>rfl
 |(n,k)::r,x=>by
  have ih:=CL (env:=env) r x;unfold relabel at ih ⊢;dsimp only at ih ⊢;rw[bT];dsimp only;rw[VW,dG,dG,ih];cases hx:x==n with
  |true=>
   have e:x=n:=by simpa using hx
   rw[e];rfl
  |false=>rfl
theorem xc{env:Env}(scope:Scope)(x:Str):(relabel scope env).names.lookup x=(scope.names.lookup x).map (lW env x):=CL scope.names x
theorem Xg{env:Env}{x:Str}{o:Option NameKind}(hc:o≠some .cell)(h:o.map (lW env x)=some .cell∨o.map (lW env x)=some .free):o=some .free:=by
 cases o with
 |none=>rcases h with h | h<;>cases h
 |some k=>
  by_cases e:k=.free
  ·rw[e]
  ·have z:lW env x k=k:=by
    unfold lW;have e':(k==NameKind.free)=false:=by simpa using e
    rw[e'];rfl
   rw[Option.map_some,z] at h;rcases h with h | h
   ·exact absurd h hc
   ·exact h
theorem YY{env:Env}{scope:Scope}{x:Str}(h:scope.names.lookup x=some .free):(relabel scope env).names.lookup x=some .cell∨(relabel scope env).names.lookup x=some .free:=by
 rw[xc,h,Option.map_some];unfold lW;split
 ·exact .inl rfl
 ·exact .inr rfl
theorem Sq{prog:Program}{w:World}{A:Around}{R:Result->Shared->Prop}{s:Shared}{elt tg iter:Expr}{ifs:List Expr}{scope:Scope}{pos:Pos}{it acc:Value}{env:Env}{EN:Value->Shared->Prop}
  (hEN:EN=notedBy (model prog w) A env λe s'=>R (.error e) s') (B:Nat->Shared->Prop)
  (turn:∀n s,B n s->wpAny (model prog w) A (pyNext it) (λr s₁=>match r with
   |none=>R (.ok .next) s₁
   |some v=>wpAny (model prog w) A (letOwnedTupleGo tg it v) (λ_ s₂=>wpAny (model prog w) A (assign tg env v) (λ_ s₃=>
     wpAny (model prog w) A (MF ifs env) (λok s₄=>
      if ok=true then wpAny (model prog w) A (eval elt env) (λz s₅=>wpAny (model prog w) A (call (.builtin "list.append") [acc,z]) (λ_ s₆=>∃m,m<n/\B m s₆) EN s₅) EN s₄
      else ∃m,m<n/\B m s₄) EN s₃) EN s₂) EN s₁) EN s) (n:Nat) (h:B n s):
  codeAny (model prog w) A (.compLoop (.ListComp elt [⟨tg,iter,ifs,0⟩] scope pos) 0 it acc env) R s:=by
 subst hEN;refine codeAny_loop rfl B (λn s hI=>?_) n h;refine wpAny_noted (m:=compTurn (.ListComp elt [⟨tg,iter,ifs,0⟩] scope pos) 0 it acc env) ?_;rw[compTurn_list];refine eE (wpAny_standAt (eE (eG (turn n s hI) (λr s₁ h₁=>?_) λ_ _ z=>z)));cases r with
 |none=>exact eX h₁
 |some v=>
  refine eE (eG h₁ (λ_ s₂ h₂=>?_) λ_ _ z=>z);refine eE (eG h₂ (λ_ s₃ h₃=>?_) λ_ _ z=>z);refine eE (eG h₃ (λok s₄ h₄=>?_) λ_ _ z=>z);cases ok with
  |false=>exact eX ⟨rfl,h₄⟩
  |true=>
   refine eE (eE (eG h₄ (λz s₅ h₅=>?_) λ_ _ q=>q));exact eE (eG h₅ (λ_ s₆ h₆=>eX (eX ⟨rfl,h₆⟩)) λ_ _ q=>q)
theorem wt(env:Env):∀(names:List (Str×NameKind)) (acc:List (Str×Addr)),names.all (λy=>y.2 != .free||(env.cells.lookup y.1).isSome)=true->
  ∃cl:List (Str×Addr),(forIn (m:=Sem) names acc λx r=>(do
   let (name,kind):=x
   if kind== .free then do let c ←cellOf env name;pure (ForInStep.yield ((name,c)::r)) else pure (ForInStep.yield r)))=(pure cl:Sem _)/\
   (∀y c,cl.lookup y=some c->env.cells.lookup y=some c∨acc.lookup y=some c)/\(∀y,(∃c,acc.lookup y=some c)->∃c,cl.lookup y=some c)/\(∀y,(y,NameKind.free)∈names->∃c,cl.lookup y=some c)
 |[],acc,_=>⟨acc,rfl,λ_ _ h=>.inr h,λ_ h=>h,λ_ h=>nomatch h⟩
 |(n,k)::r,acc,h=>by
  rw[List.all_cons,bL] at h;by_cases hk:k=.free
  ·subst hk;have h1:(env.cells.lookup n).isSome=true:=by simpa using h.1
   obtain⟨c,hc⟩:=dW.mp h1;obtain⟨cl,e,p1,p2,p3⟩:=wt env r ((n,c)::acc) h.2;refine⟨cl,?_,λy c' hy=>?_,λy hy=>?_,λy hy=>?_⟩
   ·rw[←e];have q:cellOf env n=(pure c:Sem Addr):=by unfold cellOf;rw[hc]
    rw[List.forIn_cons];dsimp only;rw[if_pos (show (NameKind.free==NameKind.free)=true from rfl),q];rfl
   ·rcases p1 y c' hy with z | z
    ·exact .inl z
    ·rw[dG] at z;cases hyn:y==n with
     |true=>
      rw[hyn] at z;have e1:y=n:=by simpa using hyn
      have e2:c=c':=by simpa using z
      rw[e1,←e2];exact .inl hc
     |false=>
      rw[hyn] at z;exact .inr z
   ·refine p2 y ?_;rw[dG];cases hyn:y==n with
    |true=>exact⟨c,rfl⟩
    |false=>exact hy
   ·rcases aT.mp hy with z | z
    ·refine p2 y ⟨c,?_⟩;have e1:y=n:=(Prod.mk.inj z).1;rw[e1,dG];simp
    ·exact p3 y z
  ·obtain⟨cl,e,p1,p2,p3⟩:=wt env r acc h.2;have hk':(k==NameKind.free)=false:=by simpa using hk
   refine⟨cl,?_,p1,p2,λy hy=>?_⟩
   ·rw[←e];rw[List.forIn_cons];dsimp only;rw[if_neg (by rw[hk'];exact bI)];rfl
   ·rcases aT.mp hy with z | z
    ·exact absurd (Prod.mk.inj z).2.symm hk
    ·exact p3 y z
theorem wD{X:Cx}{scope:Scope}(h:scope.names.all (λy=>y.2 != .free||(X.env.cells.lookup y.1).isSome)=true)(h2:scope.names.all (λy=>y.2 != .cell)=true)(h3:scope.kind=.function)
  (h4:scope.names.all (λy=>y.2 != .local||scope.names.lookup y.1==some .local)=true):∃cl,jC X scope cl:=by
 obtain⟨cl,e,p1,p2,p3⟩:=wt X.env scope.names [] h;refine⟨cl,?_,λy c hy=>?_,λy hy=>p3 y (PySem.mem_of_lookup hy),λy hy=>by simpa using cG.mp h2 y hy,h3,λy hy hl=>?_⟩
 ·unfold closureFor;exact Eq.trans (congrArg (λt:Sem (List (Str×Addr))=>t >>=λr=>(pure r:Sem (List (Str×Addr)))) e) rfl
 ·rcases p1 y c hy with z | z
  ·exact z
  ·simp at z
 ·have q:=cG.mp h4 y hy;simpa [hl] using q
section
variable{js:List Nat}{σ:St}{tt:TT}{te:TE}{Q:VK}{H1:Hp}
theorem qR{lo:Int}{n:Nat}(R:Nat->List V->Prop)(hn:n<=sizeLine)(h0:R 0 [])
  (hs:∀(i:Nat) (l:List V) (D:Addr) (H2:Hp) (E:V->Hp->Prop) (F:Hp->Prop),i<n->R i l->H1 D=none->Same H1 H2->H2 D=some (.lst l)->(∀y H5,Same H2 H5->R (i+1) (l++[y])->E y H5)->(∀H4,Same H2 H4->R (i+1) l->F H4)->
   tt (some (.int (lo+i))::gT js σ) H2 λb H4=>if b=true then te (some (.int (lo+i))::gT js σ) H4 E else F H4)
  (hd:∀(D:Addr) (H2:Hp) (l:List V),R n l->H1 D=none->Same H1 H2->H2 D=some (.lst l)->Q (.ref D) H2):mj (lB lo n) js σ tt te Q H1:=by
 intro D hD;refine⟨λi m H2=>m=n-i/\i<=n/\Same H1 H2/\∃l,H2 D=some (.lst l)/\l.length<=i/\R i l,⟨n,by simp,a9 _,fm hD _,[],fk,aP _,h0⟩,?_⟩;rintro i m H2 ⟨rfl,hi,s2,l,h2,hll,hR⟩;by_cases hlt:i<n
 ·refine .inr ⟨hlt,λv H3 y=>?_⟩;obtain⟨e,ev⟩:=y;subst e ev;refine hs i l D _ _ _ hlt hR hD s2 h2 (λz H5 s5 r5=>?_) (λH4 s4 r4=>?_)
  ·refine⟨l,s5 _ _ h2,cZ hll (bJ hlt hn),n-(i+1),⋯,rfl,hlt,λb o hb=>?_,l++[z],fk,by rw[aV,b8];omega,r5⟩;rw[fG (g6 hb hD)];exact s5 _ _ (s2 _ _ hb)
  ·exact⟨n-(i+1),⋯,rfl,hlt,s2.trans s4,l,s4 _ _ h2,⋯,r4⟩
 ·have e:i=n:=⋯;subst e;exact .inl ⟨aP _,hd D H2 l hR hD s2 h2⟩
end
structure E(X:Cx)(e:Expr)(t:TE):Prop where
 h:PE X e t
structure T(X:Cx)(e:Expr)(t:TT):Prop where
 h:PT X e t
structure TW(X:Cx)(e:Expr)(t:TT):Prop where
 h:PW X e t
structure As(X:Cx)(es:List Expr)(t:TA):Prop where
 h:PA X es t
structure S(X:Cx)(st:Stmt)(t:TS):Prop where
 h:PS X st t
structure Ss(X:Cx)(sts:List Stmt)(t:TS):Prop where
 h:PSs X sts t
structure Il(X:Cx)(tg iter:Expr)(wi:TI):Prop where
 h:PI X tg iter wi
structure Gt(X:Cx)(tg:Expr)(t:TG):Prop where
 h:PG X tg t
structure oj(X:Cx)(ts:List Expr)(t:jr):Prop where
 h:qc X ts t
structure Fs(X:Cx)(ifs:List Expr)(t:TT):Prop where
 h:PF X ifs t
structure gF(X:Cx)(f:Value->Value->Sem Value)(r:R2):Prop where
 h:gB X f r
structure NU(X:Cx)(f:Value->Sem Value)(r:V->Hp->VK->Prop):Prop where
 h:r8 X f r
structure ig(X:Cx)(f:Value)(r:List V->Hp->VK->Prop):Prop where
 h:j6 X f r
structure oz(X:Cx)(r:R2):Prop where
 h:qf X r
section
variable{X:Cx}{a b c e:Expr}{pos p:Pos}{ta tb tc te:TE}{t u:TT}{rest es:List Expr}{tA:TA}{op op':CmpOp}{r r':R2}{x:Str}
theorem v_(i:Nat)(hN:X.N[i]? =some x:=by rfl)(hv:rk X.env.scope x:=by first | exact Or.inl rfl | exact Or.inr (Or.inl rfl) | exact Or.inr (Or.inr rfl))(hd:(x==("__debug__":Str))=false:=by decide)(hcd:(x==("__classdict__":Str))=false:=by decide):
  E X (.Name x pos) (sJ i):=⟨Ap hN hv hd hcd⟩
theorem eI{i j}:E X (.Constant (.int i) j pos) (tC (.int i)):=⟨GN⟩
theorem eB{k j}:E X (.Constant (.bool k) j pos) (tC (.bl k)):=⟨RA⟩
theorem eN{j}:E X (.Constant .none j pos) (tC .non):=⟨Zz⟩
theorem f6{v:V}{w':Value}(hm:X.mg x=some w')(q:RelV v w')(hg:Gl X x:=by rfl)(hd:(x==("__debug__":Str))=false:=by decide):E X (.Name x pos) (tC v):=⟨Z1 hg hm q hd⟩
theorem lc{n:String}(hm:X.mg x=none)(hv:bootBuiltins x=some (.type n))(hg:Gl X x:=by rfl)(hn:x≠"__name__":=by decide)(hd:(x==("__debug__":Str))=false:=by decide):E X (.Name x pos) (tC (.ty n)):=⟨W9 hg hm hv rfl hn hd⟩
theorem fg{o:Operator}(ho:gF X (binaryOp o) r)(ha:E X a ta)(hb:E X b tb):E X (.BinOp a o b pos) (mz r ta tb):=⟨Tv ho.h ha.h hb.h⟩
theorem lV{o:UnaryOp}{r1:V->Hp->VK->Prop}(ho:NU X (unaryOp o) r1)(ha:E X a ta):E X (.UnaryOp o a pos) (Dq r1 ta):=⟨Sj ho.h ha.h⟩
theorem jA(ho:gF X (compareOp op) r)(ha:E X a ta)(hb:E X b tb)(hm:behindInMarks op b=false:=by first | exact JO _ | rfl):E X (.Compare a [op] [b] pos) (mz r ta tb):=⟨Yw ho.h ha.h hb.h hm⟩
theorem wm(ho:gF X (compareOp op) r)(ho':gF X (compareOp op') r')(ha:E X a ta)(hb:E X b tb)(hc:E X c tc)(hm:lastMarks [op,op'] [b,c]=false:=by with_unfolding_all rfl):T X (.Compare a [op,op'] [b,c] pos) (q9 (K4 r r' ta tb tc)):=⟨WA ho.h ho'.h ha.h hb.h hc.h hm⟩
theorem lx{o}(ha:E X a ta):E X (.BoolOp o [a] pos) ta:=⟨Rr ha.h⟩
theorem oB(ha:E X a ta)(hb:E X (.BoolOp .And (b::rest) pos) tb):E X (.BoolOp .And (a::b::rest) pos) (Fc ta tb):=⟨T3 ha.h hb.h⟩
theorem rE(ha:E X a ta)(hb:E X (.BoolOp .Or (b::rest) pos) tb):E X (.BoolOp .Or (a::b::rest) pos) (Cz ta tb):=⟨WW ha.h hb.h⟩
theorem zy(ha:E X a ta):E X (.UnaryOp .Not a pos) (MG ta):=⟨Vl ha.h⟩
theorem l6(hc:T X c t)(ha:E X a ta)(hb:E X b tb):E X (.IfExp c a b pos) (Gz t ta tb):=⟨Qv hc.h ha.h hb.h⟩
theorem fH(ho:gF X (compareOp op) r)(ha:E X a ta)(hb:E X b tb)(hm:behindInMarks op b=false:=by first | exact JO _ | rfl):T X (.Compare a [op] [b] pos) (q9 (mz r ta tb)):=⟨SS ho.h ha.h hb.h hm⟩
theorem jE(ha:T X a t):T X (.UnaryOp .Not a pos) (HQ t):=⟨Pf ha.h⟩
theorem ix(ha:E X e te)(he:∀whole,isTrue e X.env whole=(do let v ←whole;standAt e.pos;holding [v] (truthy v)):=by intro _;rfl):T X e (L2.tB te):=⟨Ru ha.h he⟩
theorem qU(ha:T X a t):TW X (.BoolOp .And [a] pos) t:=⟨UR ha.h⟩
theorem ka(ha:T X a t):TW X (.BoolOp .Or [a] pos) t:=⟨UP ha.h⟩
theorem qI(ha:T X a t)(hb:TW X (.BoolOp .And (b::rest) pos) u):TW X (.BoolOp .And (a::b::rest) pos) (B9 t u):=⟨W7 ha.h hb.h⟩
theorem jY(ha:T X a t)(hb:TW X (.BoolOp .Or (b::rest) pos) u):TW X (.BoolOp .Or (a::b::rest) pos) (D1 t u):=⟨Xq ha.h hb.h⟩
theorem tW(ha:TW X e t):T X e t:=⟨ha.h.pt⟩
theorem aN:As X [] iU:=⟨k6⟩
theorem aC(ha:E X e te)(hr:As X es tA)(hs:starEach (e::es) X.env=(false,eval e X.env)::starEach es X.env:=by rfl):As X (e::es) (je te tA):=⟨kK ha.h hr.h hs⟩
theorem qD(is:List Int)(h:es.map pT=is.map some:=by rfl):As X es (BY is):=⟨Lp is h⟩
theorem gM(ha:As X es tA):E X (.List es pos) (GE tA):=⟨Yi ha.h⟩
theorem iH{k}(ha:As X es tA):E X (.Tuple es k pos) (Bw tA):=⟨Qs ha.h⟩
theorem fo(hr:oz X r)(ha:E X a ta)(hb:E X b tb)(hs:Og b:=by intro _ _;rfl):E X (.Subscript a b pos) (mz r ta tb):=⟨XC hr.h ha.h hb.h hs⟩
theorem eD{k k':Nat}{ps:List Str}{sp:Sp}(D:Df X.prog X.w X.K X.mg X.base x k ps sp)(hr:Room k' X.A)(ha:As X (e::es) tA)(hk:k<=k':=by decide)(hg:Gl X x:=by rfl)
  (hdb:(x==("__debug__":Str))=false:=by decide) (he:starEach (e::es) X.env=(false,eval e X.env)::starEach es X.env:=by rfl) (hpl:(backTo pos (starEach es X.env)).any (·.1)=false:=by rfl):
  E X (.Call (.Name x p) (e::es) [] pos) (oS sp [] E0 tA):=⟨WK D hr ha.h hk hg hdb he hpl⟩
theorem gy{id:String}{rc:List V->Hp->VK->Prop}(hc:ig X (.builtin id) rc)(hm:X.mg x=none)(hv:bootBuiltins x=some (.builtin id))(ha:As X (e::es) tA)(hg:Gl X x:=by rfl)(hn:x≠"__name__":=by decide)(hdb:(x==("__debug__":Str))=false:=by decide)
  (he:starEach (e::es) X.env=(false,eval e X.env)::starEach es X.env:=by rfl) (hpl:(backTo pos (starEach es X.env)).any (·.1)=false:=by rfl):E X (.Call (.Name x p) (e::es) [] pos) (rV rc tA):=⟨Z8 hc.h hg hm hv ha.h hn hdb he hpl⟩
theorem hU{n:String}{rc:List V->Hp->VK->Prop}(hc:ig X (.type n) rc)(hm:X.mg x=none)(hv:bootBuiltins x=some (.type n))(ha:As X (e::es) tA)(hg:Gl X x:=by rfl)(hn:x≠"__name__":=by decide)(hdb:(x==("__debug__":Str))=false:=by decide)
  (he:starEach (e::es) X.env=(false,eval e X.env)::starEach es X.env:=by rfl) (hpl:(backTo pos (starEach es X.env)).any (·.1)=false:=by rfl):E X (.Call (.Name x p) (e::es) [] pos) (rV rc tA):=⟨ZA hc.h hg hm hv ha.h hn hdb he hpl⟩
end
section
variable{X:Cx}
theorem fV:gF X (binaryOp .Add) (ja λi j=>.int (i+j)):=⟨TF⟩
theorem f9:gF X (binaryOp .Sub) (ja λi j=>.int (i-j)):=⟨YU⟩
theorem iu:gF X (binaryOp .Mult) (rI CMul λi j=>.int (i*j)):=⟨V7⟩
theorem km:gF X (binaryOp .FloorDiv) (rI Hu λi j=>.int (i / j)):=⟨Pd⟩
theorem gr:gF X (binaryOp .Mod) (rI (λ_ j=>0<j) λi j=>.int (i%j)):=⟨RM⟩
theorem qi:gF X (binaryOp .Pow) (rI rh λi j=>.int (i^j.toNat)):=⟨Tw⟩
theorem ly:gF X (binaryOp .LShift) (rI rh λi j=>.int (i*2^j.toNat)):=⟨Re⟩
theorem sQ:gF X (binaryOp .RShift) (rI (λ_ j=>0<=j) λi j=>.int (i / 2^j.toNat)):=⟨Tj⟩
theorem oE:gF X (binaryOp .BitAnd) (ja λi j=>.int (Builtin.bitAnd i j)):=⟨RC⟩
theorem mT:gF X (binaryOp .BitOr) (ja λi j=>.int (Builtin.bitOr i j)):=⟨WV⟩
theorem zN:gF X (binaryOp .Add) DI:=⟨SB⟩
theorem gp:gF X (compareOp .Eq) zm:=⟨OI⟩
theorem mn:gF X (compareOp .NotEq) AE:=⟨X0⟩
theorem ng:gF X (compareOp .Lt) (ja λi j=>.bl (decide (i<j))):=⟨V3⟩
theorem lY:gF X (compareOp .LtE) (ja λi j=>.bl (decide (i<=j))):=⟨WD⟩
theorem j5:gF X (compareOp .Gt) (ja λi j=>.bl (decide (j<i))):=⟨Rp⟩
theorem S6:gF X (compareOp .GtE) (ja λi j=>.bl (decide (j<=i))):=⟨ZG⟩
theorem xL:oz X (wF X.K):=⟨SR⟩
theorem xT:oz X (uo X.K):=⟨Zj⟩
theorem vb:ig X (.builtin "len") (λxs H Q=>∃p ys,xs=[.ref p]/\(SqL X.K H p ys∨SqT X.K H p ys)/\Q (.int ys.length) H):=⟨VX⟩
theorem wo:ig X (.builtin "abs") (λxs H Q=>∃i,xs=[.int i]/\Q (.int (if i<0 then -i else i)) H):=⟨P6⟩
theorem vx:ig X (.type "int") (λxs H Q=>(∃i,xs=[.int i]/\Q (.int i) H)∨∃k,xs=[.bl k]/\Q (.int (if k then 1 else 0)) H):=⟨SL⟩
theorem Vm:ig X (.builtin "isinstance") (λxs H Q=>∃i:Int,xs=[.int i,.ty "int"]/\Q (.bl true) H):=⟨ZC⟩
theorem Rf:ig X (.builtin "isinstance") (λxs H Q=>∃i:Int,xs=[.int i,.ty "bool"]/\Q (.bl false) H):=⟨TV⟩
variable{e c iter tg:Expr}{te:TE}{tt:TT}{tA:TA}{wi:TI}{g:TG}{t u tb:TS}{st:Stmt}{rest body ba bb:List Stmt}{pos pos' p:Pos}{x:Str}{a1 a2:Expr}
theorem fW:Ss X [] yK:=⟨Pj⟩
theorem Zt(h1:S X st t)(h2:Ss X rest u):Ss X (st::rest) (vf t u):=⟨ZJ h1.h h2.h⟩
theorem fh(h1:S X st t):Ss X [st] t:=⟨YH h1.h⟩
theorem jw:S X st M0:=⟨YN⟩
theorem fq(he:E X e te):S X (.Return (some e) pos) (AY te):=⟨W5 he.h⟩
theorem fR(hc:T X c tt)(ha:Ss X ba t)(hb:Ss X bb u):S X (.If c ba bb pos) (Es tt t u):=⟨P5 hc.h ha.h hb.h⟩
theorem kr(he:E X e te)(hs:swapsWith e none pos.line X.env=pure false:=by rfl):S X (.Expr e pos) (LN te):=⟨Tq he.h hs⟩
theorem fu(i:Nat)(he:E X e te)(hN:X.N.Nodup)(hi:X.N[i]? =some x:=by rfl)(hx:oX X.env.scope x:=by first | exact Or.inl rfl | exact Or.inr rfl)(hs:swapsWith e (some (.Name x pos')) pos.line X.env=pure false:=by rfl)
  (hf:X.fn x=true∨X.env.scope.names.lookup x=some .local:=by first | exact .inl rfl | exact .inr rfl):S X (.Assign [.Name x pos'] e pos) (pZ te (jT i)):=⟨R0 hN hi hx he.h hs hf⟩
theorem gN(i:Nat)(hN:X.N.Nodup)(hi:X.N[i]? =some x:=by rfl)(hx:oX X.env.scope x:=by first | exact Or.inl rfl | exact Or.inr rfl)(hf:X.fn x=true∨X.env.scope.names.lookup x=some .local:=by first | exact .inl rfl | exact .inr rfl):Gt X (.Name x pos) (jT i):=⟨N0 hN hi hx hf⟩
theorem iz(hi:Il X tg iter wi)(hg:Gt X tg g)(hb:Ss X body tb)(hp:PassesOwn (model X.prog X.w) X.A X.env X.xe)(hc:X.calm=true:=by rfl)(hs:∀x,foldedSetIterable iter X.env x=pure x:=by intro _;rfl):S X (.For tg iter body [] pos) (Kg wi g tb):=⟨YL hp hc hi.h hg.h hb.h hs⟩
theorem rF(hc:T X c tt)(hb:Ss X body tb)(hp:PassesOwn (model X.prog X.w) X.A X.env X.xe):S X (.While c body [] pos) (uX tt tb):=⟨Oz hp hc.h hb.h⟩
theorem iL(hl:E X e te):Il X tg e (uG X.K te):=⟨TY hl.h⟩
theorem iT(hl:E X e te):Il X tg e (KB X.K te):=⟨Yl hl.h⟩
theorem mR(hm:X.mg "range"=none)(ha:As X [a1] tA)(hg:Gl X "range":=by rfl)(hs:starEach [a1] X.env=[(false,eval a1 X.env)]:=by rfl):Il X tg (.Call (.Name "range" p) [a1] [] pos) (Ki tA):=⟨Ro hg hm ha.h hs⟩
theorem Nt(hm:X.mg "range"=none)(ha:As X [a1,a2] tA)(hg:Gl X "range":=by rfl)(hs:starEach [a1,a2] X.env=[(false,eval a1 X.env),(false,eval a2 X.env)]:=by rfl)(hs2:starEach [a2] X.env=[(false,eval a2 X.env)]:=by rfl):
  Il X tg (.Call (.Name "range" p) [a1,a2] [] pos) (BH tA):=⟨Q6 hg hm ha.h hs hs2⟩
end
def Go(P:Program)(w:World)(K:FG)(mg:Str->Option Value)(base:Heap)(N:List Str)(x:Str)(st:Stmt)(f:Addr)(cdv:Value)(A:Around)(outer:List Env)(s:Shared)(H:Hp)(vs:List V)(Q:VK)(E:XK):Prop:=
 ∃t,Ss (mG jj P w K mg base N x (ft st) f cdv A outer s H E).nox (i5 st) t/\t {nx:=λ_ H'=>Q .non H',rt:=Q} (start N vs) H
section
variable{P:Program}{w:World}{K:FG}{mg:Str->Option Value}{base:Heap}{x:Str}{st:Stmt}{ps N:List Str}{k:Nat}{sp:Sp}
theorem Fn.dfs(F:Fn K mg x st ps)(S':eZ N ps (ft st))(len:∀vs H Q E,sp vs H Q E->vs.length=ps.length)
  (hbody:∀(f:Addr) (cdv:Value) (A:Around) (outer:List Env) (s:Shared) (H:Hp) (vs:List V) (Q:VK) (E:XK),Room k (A.deeper (envOfC x (ft st) s.heap.objs.size f cdv))->sp vs H Q E->
   Go P w K mg base N x st f cdv A outer s H vs Q E):Df P w K mg base x (k+1) ps sp:=
 F.df S' len λf cdv A outer s H vs Q E hr h=>by
  obtain⟨t,h1,h2⟩:=hbody f cdv A outer s H vs Q E hr h;exact⟨t,h1.h,h2⟩
theorem Fun.oks{f:Addr}{fd:FuncData}(F:Fun K x x st f fd)(S':eZ N ps (ft st))(len:∀vs H Q E,sp vs H Q E->vs.length=ps.length)
  (hbody:∀(cdv:Value) (A:Around) (outer:List Env) (s:Shared) (H:Hp) (vs:List V) (Q:VK) (E:XK),Room k (A.deeper (envOfC x (ft st) s.heap.objs.size f cdv))->sp vs H Q E->
   Go P w K mg base N x st f cdv A outer s H vs Q E):gk P w K mg base jj (k+1) f fd ps sp:=
 F.ok S' len λcdv A outer s H vs Q E hr h=>by
  obtain⟨t,h1,h2⟩:=hbody cdv A outer s H vs Q E hr h;exact⟨t,h1.h,h2⟩
end
end L2
namespace L2
open PySem PySem.Spec PyProof.Rows PySem.SeqAt
theorem rT:∀{is:List Int} {us:List Value},Vals (is.map V.int) us->IntsAre us is
 |[],_,.nil=>.nil
 |_::_,_,.cons ⟨_,rfl⟩ r=>.cons _ _ (rT r)
section
variable{X:Cx}
theorem VB(hc:X.calm=true):j6 X (.builtin "sum") (λxs H Q=>∃(p:Addr) (is:List Int),xs=[.ref p]/\SqL X.K H p (is.map V.int)/\Q (.int is.sum) H):=by
 intro pins s σ H xs us Q I r h;obtain⟨p,is,rfl,hq,q⟩:=h;obtain⟨u,rfl,r1⟩:=iO r;cases r1;obtain⟨its,rv,pl,hz⟩:=I.list hq;have hi:=rT rv;obtain⟨ys,hy⟩:=hi.allInts.items;have hl:s.heap.IsList p (intItems ys):=by rw[←hy];exact pl.isList
 refine sum_intListG (I.ok.hd hc) hl λh' tk t' hk=>?_;have e1:is=ys.toList.map (·.1):=by
  rw[←nums_intItems,←hy];exact hi.numsOf.symm
 have e2:preSum (numAt ys) ys.size=is.sum:=by
  rw[preSum_eq,dH (by simp),e1]
 rw[e2];exact⟨.int is.sum,H,I.kept hk,⟨()⟩,q⟩
noncomputable def n9(tup:Bool)(is:List Int):PyData:=if tup then .tuple (is.map PyData.int) else .list (is.map PyData.int)
def vq(K:FG)(H:Hp)(a:Addr)(tup:Bool)(is:List Int):Prop:=if tup then SqT K H a (is.map V.int) else SqL K H a (is.map V.int)
theorem qx{pins:List (Addr×Obj)}{σ:St}{H:Hp}{s:Shared}{a:Addr}{tup:Bool}{is:List Int}(I:Inv X pins σ H s)(h:vq X.K H a tup is):∃as,Reads s.heap (.ref a) (n9 tup is) as:=by
 cases tup with
 |false=>
  obtain⟨its,rv,pl,hz⟩:=I.list (show SqL X.K H a (is.map V.int) from h);exact⟨_,PySem.W.reads_of_ints pl.isList (rT rv)⟩
 |true=>
  obtain⟨its,rv,⟨o,ho,hc,n,hd⟩,hz⟩:=I.tuple (show SqT X.K H a (is.map V.int) from h);exact⟨_,Reads.tuple ho hc hd (by simpa using PySem.W.readsAll_of_ints (rT rv))⟩
theorem si(tup:Bool)(is:List Int):shaped (n9 tup is)=true:=by
 cases tup with
 |false=>exact PySem.W.shaped_ints is
 |true=>
  have h1:=PySem.W.depthAll_ints is;have h2:PyData.depth (.tuple (is.map PyData.int))<=64:=by simp only[PyData.depth];omega
  show (PyData.canLay0 (.tuple (is.map PyData.int))&&decide (PyData.depth (.tuple (is.map PyData.int))<=64))=true;rw[bL];exact⟨by simp only[PyData.canLay0];exact PySem.W.canLayAll0_ints is,eS h2⟩
theorem L8(tup:Bool)(is js:List Int):noMix (n9 tup is) (n9 tup js)=true:=by
 cases tup with
 |false=>show noMix (.list _) (.list _)=true;simp only[noMix];exact PySem.W.noMix_ints is js
 |true=>show noMix (.tuple _) (.tuple _)=true;simp only[noMix];exact PySem.W.noMix_ints is js
theorem Jd(tup:Bool)(is js:List Int):same (n9 tup is) (n9 tup js)=decide (is=js):=by
 cases tup with
 |false=>show same (.list _) (.list _)=_;simp only[same];exact PySem.W.same_ints is js
 |true=>show same (.tuple _) (.tuple _)=_;simp only[same];exact PySem.W.same_ints is js
def qM(K:FG)(neg:Bool):R2:=λx y H Q=>∃(a b:Addr) (tup:Bool) (is js:List Int),x=.ref a/\y=.ref b/\vq K H a tup is/\vq K H b tup js/\Q (.bl (if neg then !decide (is=js) else decide (is=js))) H
theorem RZ(hu:X.A.units+64<cLine):gB X (compareOp .Eq) (qM X.K false):=by
 intro pins s σ H x y v u Q I rx ry h;obtain⟨a,b,tup,is,js,rfl,rfl,ha,hb,q⟩:=h;cases rx;cases ry;obtain⟨as,ra⟩:=qx I ha;obtain⟨bs,rb⟩:=qx I hb;exact eq_dataH_same ra rb (si _ _) (si _ _) hu (L8 _ _ _) (by rw[Jd];exact⟨.bl _,H,I,rfl,q⟩)
theorem SN(hu:X.A.units+64<cLine):gB X (compareOp .NotEq) (qM X.K true):=by
 intro pins s σ H x y v u Q I rx ry h;obtain⟨a,b,tup,is,js,rfl,rfl,ha,hb,q⟩:=h;cases rx;cases ry;obtain⟨as,ra⟩:=qx I ha;obtain⟨bs,rb⟩:=qx I hb;exact ne_dataH_same ra rb (si _ _) (si _ _) hu (L8 _ _ _) (by rw[Jd];exact⟨.bl _,H,I,rfl,q⟩)
variable{elt iter:Expr}{x y:Str}{px py pos spos:Pos}{ifs:List Expr}{scope:Scope}{wi:TI}{tt:TT}{te:TE}
theorem jV:Fs X [] Os:=⟨Wx⟩
theorem NY{c:Expr}(h:T X c tt):Fs X [c] tt:=⟨S5 h.h⟩
theorem sW(hc:X.calm=true:=by rfl):ig X (.builtin "sum") (λxs H Q=>∃(p:Addr) (is:List Int),xs=[.ref p]/\SqL X.K H p (is.map V.int)/\Q (.int is.sum) H):=⟨VB hc⟩
theorem uI(hu:X.A.units+64<cLine):gF X (compareOp .Eq) (qM X.K false):=⟨RZ hu⟩
theorem G6(hu:X.A.units+64<cLine):gF X (compareOp .NotEq) (qM X.K true):=⟨SN hu⟩
theorem VU{es:List Expr}{k n:Nat}{t:jr}(h:oj X es t)(hc:X.calm=true:=by rfl)(hn:(assignEach es X.env).length=n:=by rfl)(hst:(assignEach es X.env).findIdx? (·.1)=none:=by rfl):Gt X (.Tuple es k pos) (qY X.K n t):=⟨Zp hc h.h hn hst⟩
theorem kW:oj X [] uB:=⟨Z7⟩
theorem gE{e:Expr}{es:List Expr}{t:TG}{u:jr}(h1:Gt X e t)(h2:oj X es u)(hs:(assignEach (e::es) X.env).map (·.2)=assign e X.env::(assignEach es X.env).map (·.2):=by rfl):oj X (e::es) (sy t u):=⟨Px h1.h h2.h hs⟩
theorem vB{tg e:Expr}{g:TG}(he:E X e te)(hg:Gt X tg g)(hs:swapsWithSole [tg] e pos.line X.env=pure false:=by rfl)(hw:swappedStores [tg] e X.env=pure none:=by rfl)
  (h1:(assignEach [tg] X.env).map (·.2)=[assign tg X.env]:=by rfl):S X (.Assign [tg] e pos) (pZ te g):=⟨Zl he.h hg.h hs hw h1⟩
end
section
variable{js:List Nat}{σ:St}{tt:TT}{te:TE}{Q:VK}{H1:Hp}
theorem qN{K:FG}{a:Addr}{xs:List V}(R:Nat->List V->Prop)(hn:xs.length<=sizeLine)(h0:R 0 [])(hq:SqL K H1 a xs)
  (hs:∀(i:Nat) (v:V) (l:List V) (D:Addr) (H2:Hp) (E:V->Hp->Prop) (F:Hp->Prop),xs[i]? =some v->R i l->H1 D=none->Same H1 H2->H2 D=some (.lst l)->(∀y H5,Same H2 H5->R (i+1) (l++[y])->E y H5)->(∀H4,Same H2 H4->R (i+1) l->F H4)->
   tt (some v::gT js σ) H2 λb H4=>if b=true then te (some v::gT js σ) H4 E else F H4)
  (hd:∀(D:Addr) (H2:Hp) (l:List V),R xs.length l->H1 D=none->Same H1 H2->H2 D=some (.lst l)->Q (.ref D) H2):mj (mW K a) js σ tt te Q H1:=by
 intro D hD;refine⟨λi m H2=>m=xs.length-i/\i<=xs.length/\Same H1 H2/\∃l,H2 D=some (.lst l)/\l.length<=i/\R i l,⟨xs.length,by simp,a9 _,fm hD _,[],fk,aP _,h0⟩,?_⟩;rintro i m H2 ⟨rfl,hi,s2,l,h2,hll,hR⟩;by_cases hlt:i<xs.length
 ·refine .inr ⟨⟨xs,xs[i],s2.seq hq,by simp[hlt]⟩,λv H3 y=>?_⟩;obtain⟨e,ev⟩:=y;subst e;have hv:=ev xs (s2.seq hq);refine hs i v l D _ _ _ hv hR hD s2 h2 (λz H5 s5 r5=>?_) (λH4 s4 r4=>?_)
  ·refine⟨l,s5 _ _ h2,cZ hll (bJ hlt hn),xs.length-(i+1),⋯,rfl,hlt,λb o hb=>?_,l++[z],fk,by rw[aV,b8];omega,r5⟩;rw[fG (g6 hb hD)];exact s5 _ _ (s2 _ _ hb)
  ·exact⟨xs.length-(i+1),⋯,rfl,hlt,s2.trans s4,l,s4 _ _ h2,⋯,r4⟩
 ·have e:i=xs.length:=⋯;subst e;exact .inl ⟨⟨xs,s2.seq hq,aP _⟩,hd D H2 l hR hD s2 h2⟩
def IntsR(i:Nat)(l:List V):Prop:=∃zs:List Int,l=zs.map V.int/\zs.length<=i
theorem IntsR.nil:IntsR 0 []:=⟨[],rfl,aP _⟩
theorem IntsR.one{i:Nat}{l:List V}(h:IntsR i l)(z:Int):IntsR (i+1) (l++[.int z]):=by
 obtain⟨zs,rfl,hl⟩:=h;exact⟨zs++[z],by rw[aY];rfl,by rw[aV,b8];omega⟩
theorem Same.tup{K:FG}{H H':Hp}{a:Addr}{xs:List V}(e:Same H H')(h:SqT K H a xs):SqT K H' a xs:=by
 rcases h with (h | ⟨o,h⟩) | h
 ·exact .inl (.inl (e _ _ h))
 ·exact .inl (.inr ⟨o,e _ _ h⟩)
 ·exact .inr h
theorem qC{c:TT}{tb:TS}{D:g8}{σ:St}{H:Hp}(Pv:St->Hp->Prop)(μ:St->Hp->Nat)(h0:Pv σ H)
  (hs:∀σ H,Pv σ H->c σ H λb H1=>if b=true then ∃N:St->Hp->Prop,(∀σ' H',N σ' H'->∃m',m'<μ σ H/\m'=μ σ' H'/\Pv σ' H')/\tb {D with nx:=N,ct:=N,bk:=D.nx} σ H1 else D.nx σ H1):uX c tb D σ H:=
 ⟨λm σ H=>m=μ σ H/\Pv σ H,⟨(),h0⟩,by
  rintro m σ H ⟨rfl,p⟩;exact hs σ H p⟩
theorem lK{X:Cx}:NU X (unaryOp .USub) (rU λi=>.int (-i)):=⟨Ys⟩
end
section
variable{prog:Program}{w:World}{A:Around}{E:Value->Shared->Prop}{s:Shared}
theorem GU{it l:Addr}{its:Array Value}(hne:l≠it):∀(n i:Nat) (s:Shared) (Q:List Value->Shared->Prop),s.heap.IsListIter it l i->s.heap.IsList l its->i+n<=its.size->
  (∀h',h'.IsListIter it l (i+n)->Heap.SameBut it s.heap h'->Q ((its.toList.drop i).take n) {s with heap:=h'})->wpAny (model prog w) A (draw (.ref it) n) Q E s
 |0,i,s,Q,hit,_,_,hQ=>by
  have z:wpAny (model prog w) A (pure ([]:List Value)) Q E s:=eX (by simpa using hQ s.heap hit (Heap.SameBut.refl ..));exact z
 |n+1,i,s,Q,hit,hl,hle,hQ=>by
  have hi:i<its.size:=⋯;have z:wpAny (model prog w) A (pyNext (.ref it)) (λr s₁=>wpAny (model prog w) A (match r with | none=>pure [] | some v=>(do let rest ←holding [v] (draw (.ref it) n);pure (v::rest))) Q E s₁) E s:=by
   refine wpAny_pyNext_list_item hit hl (x:=its[i]) (by simp[hi]) λh₁ hit₁ hs₁=>?_;refine eE (eK (GU hne n (i+1) _ _ hit₁ (hl.extBut hs₁.extBut hne) ⋯ λh₂ hit₂ hs₂=>eX ?_));have hd:its.toList.drop i=its[i]::its.toList.drop (i+1):=by simp[List.drop_eq_getElem_cons,hi]
   have e:i+(n+1)=i+1+n:=⋯;have q:=hQ h₂ (by rw[e];exact hit₂) (hs₁.trans hs₂);rw[hd,List.take_succ_cons] at q;exact q
  exact eE z
theorem WZ{l:Addr}{its:Array Value}{Q:List Value->Shared->Prop}(hh:A.handled=none)(hl:s.heap.IsList l its)(hQ:∀h',Heap.ExtBut s.heap.objs.size s.heap h'->Q its.toList {s with heap:=h'}):
  wpAny (model prog w) A (unpackItems (.ref l) its.size none) Q E s:=by
 have hne:l≠s.heap.objs.size:=by
  obtain⟨o,ho,_⟩:=hl;exact aU (aR ho)
 unfold unpackItems;refine eE ?_;unfold notIterableAtAll;refine eE (wpAny_specialOf hl.typeIs slot_list_iter.lookup (eX ?_));simp only[Bool.false_eq_true,if_false];refine eE (eK (wpAny_pyIter_list hl (eE (eK (GU hne its.size 0 _ _ ⟨_,bD _ rfl,rfl,rfl⟩ (hl.push _) ⋯ λh₁ hit₁ hs₁=>?_)))));have all:List.take its.size (List.drop 0 its.toList)=its.toList:=by
  rw[List.drop_zero];exact dH (by simp)
 rw[all,if_neg (by simp)];have hl₁:h₁.IsList l its:=(hl.push _).extBut hs₁.extBut hne;refine eE (eK (wpAny_pyNext_list_end hh hit₁ hl₁ (by simp) λh₂ he₂=>?_));simp only[Option.isSome_none,Bool.false_eq_true,if_false];exact eX (hQ h₂ λb o hb e=>he₂ b o hb (hs₁.extBut b o hb (aS _ e)))
end
inductive V9 (K:FG) (n:Nat) (t:jr) (v:V) (σ:St) (H:Hp) (Q:St->Hp->Prop):Prop
 |mk (a:Addr) (xs:List V) (e:v=.ref a) (s:SqL K H a xs) (l:xs.length=n) (r:t xs σ H Q)
def SF(K:FG)(n:Nat)(t:jr):TG:=V9 K n t
section
variable{X:Cx}{pos:Pos}
theorem Ci{es:List Expr}{k n:Nat}{t:jr}(h:oj X es t)(hc:X.calm=true:=by rfl)(hn:(assignEach es X.env).length=n:=by rfl)(hst:(assignEach es X.env).findIdx? (·.1)=none:=by rfl):Gt X (.Tuple es k pos) (SF X.K n t):=by
 refine⟨λpins s σ H v u Q I r hw=>?_⟩;obtain⟨a,xs,e1,hq,hl,hw⟩:=hw;subst e1;cases r;obtain⟨its,rv,pl,hz⟩:=I.list hq;rw[assign_Tuple];refine eE (wpAny_standAt ?_);unfold unpack;have e2:(assignEach es X.env).length=its.toArray.size:=by rw[hn,←hl,rv.length,bE]
 rw[e2,hst];refine eE (eK (WZ (I.ok.hd hc) pl.isList λh' hx=>?_));have I1:Inv X pins σ H {s with heap:=h'}:=I.kept (t':=s.toks) λb o e=>hx b o (aU (aR e)) e;exact h.h pins _ σ H xs _ Q I1 (by simpa using rv) hw
theorem lI{o e:Expr}{to te:TE}{apos cpos:Pos}(ho:E X o to)(he:E X e te)(hbase:attributeBase o "append" X.env (eval o X.env)=eval o X.env:=by rfl)
  (hfew:((backTo cpos (starEach [e] X.env)).all (λx=> !x.1)&&(backToKw cpos (keywordEach [] X.env)).all (λx=>x.1.isSome)&&decide (([e]:List Expr).length+([]:List Keyword).length+(if ([]:List Keyword).isEmpty then 0 else 1)<30))=true:=by rfl)
  (hline:(apos.endLine==cpos.line)=true:=by rfl) (hs:starEach [e] X.env=(false,eval e X.env)::starEach [] X.env:=by rfl) (hplain:(backTo cpos (starEach [] X.env)).any (·.1)=false:=by rfl):
  E X (.Call (.Attribute o "append" apos) [e] [] cpos) (mZ X.K "list" Bj to (je te iU)):=
 ⟨ou PySem.F.plainAttrs_list PySem.F.slot_list_append PySem.F.type_list_append KF ho.h (kK he.h k6 hs) hbase hfew hline hs hplain⟩
variable{js:List Nat}{σ:St}{tt:TT}{te:TE}{Q:VK}{H1:Hp}
end
def Digs(ds ss:List Int):Prop:=Paired (λd z:Int=>0<=d/\d<z) ds ss
theorem Digs.snoc{ds ss:List Int}{d z:Int}(h:Digs ds ss)(h0:0<=d)(h1:d<z):Digs (ds++[d]) (ss++[z]):=Paired.snoc h ⟨h0,h1⟩
theorem Digs.len{ds ss:List Int}(h:Digs ds ss):ds.length=ss.length:=Paired.length h
theorem kB{H H2:Hp}{p:Addr}{o:HO}(hn:H p=none)(s:Same H H2):Same H (upd H2 p o):=λb u h=>by
 rw[fG (g6 h hn)];exact s b u h
theorem GI{a m b:Int}(h0:0<m)(h1:m<=18446744073709551616):CMul (a%m) b:=.inl ⟨Int.lt_of_lt_of_le (by decide) (dI a (Int.ne_of_gt h0)),Int.lt_of_lt_of_le (dX a h0) h1⟩
theorem YV:(10:Int)^(18:Int).toNat=1000000000000000000:=by decide +kernel
structure FnM(K:FG)(C:Addr)(m qual:Str)(st:Stmt)(ps:List Str):Prop where
 ex:∃(f:Addr) (fd:FuncData),Fun K m qual st f fd/\Binds K fd ps []/\jv K C m f
structure n8(P:Program)(w:World)(K:FG)(mg:Str->Option Value)(base:Heap)(C:Addr)(m:Str)(k:Nat)(ps:List Str)(sp:Sp):Prop where
 ex:∃(f:Addr) (fd:FuncData),gk P w K mg base jj k f fd ps sp/\Binds K fd ps []/\jv K C m f
structure Cd(K:FG)(mg:Str->Option Value)(x:Str)(C:Addr):Prop where
 at_:mg x=some (.ref C)
 cl:Cls K C
 makes:PySem.W.makesIn K C=true
 kp:PySem.W.keepIn K (.ref C)=true
section
variable{P:Program}{w:World}{K:FG}{mg:Str->Option Value}{base:Heap}{m qual:Str}{st:Stmt}{ps N:List Str}{k:Nat}{sp:Sp}{C:Addr}
theorem FnM.dfs(F:FnM K C m qual st ps)(S':eZ N ps (ft st))(len:∀vs H Q E,sp vs H Q E->vs.length=ps.length)
  (hbody:∀(f:Addr) (cdv:Value) (A:Around) (outer:List Env) (s:Shared) (H:Hp) (vs:List V) (Q:VK) (E:XK),Room k (A.deeper (envOfC qual (ft st) s.heap.objs.size f cdv))->sp vs H Q E->
   Go P w K mg base N qual st f cdv A outer s H vs Q E):n8 P w K mg base C m (k+1) ps sp:=by
 obtain⟨f,fd,F1,hb,hm⟩:=F.ex;refine⟨⟨f,fd,F1.ok S' len λcdv A outer s H vs Q E hr h=>?_,hb,hm⟩⟩;obtain⟨t,h1,h2⟩:=hbody f cdv A outer s H vs Q E hr h;exact⟨t,h1.h,h2⟩
theorem ii{f:Addr}{oc:Value}{od an:Option Addr}{osl:Array (Option Value)}{kV doc pm cdv ct:Value}
  (a:PySem.W.findIn K (.ref C) m=some (some (.ref f))) (i:PySem.W.isFn K (.ref f)=true) (l:K.lookup f=some ⟨oc,od,.func (PySem.W.fnOf m qual (jx st) (i5 st) (ft st) .none kV doc pm an cdv ct),osl⟩)
  (c:PySem.W.codeIn K cdv qual=true) (k:PySem.W.keepIn K (.ref f)=true)
  (hb:∀(kV doc pm:Value) (an:Option Addr) (cdv ct:Value) (us:List Value),us.length=ps.length->bindArgs (PySem.W.fnOf m qual (jx st) (i5 st) (ft st) .none kV doc pm an cdv ct) ⟨us,[]⟩=pure (ps.zip us)):FnM K C m qual st ps:=by
 have F:=wM (st:=st) l c k;exact⟨⟨f,_,F,F.binds (ps:=ps) hb,⟨a,i,k⟩⟩⟩
variable{X:Cx}{x:Str}{k':Nat}{e o value:Expr}{es:List Expr}{ta tv:TE}{t:TA}{p pos apos pos':Pos}{f:Str}
theorem mf(c:Cd X.K X.mg x C)(D:n8 X.prog X.w X.K X.mg X.base C "__init__" k ps sp)(hr:Room k' X.A)(ha:As X (e::es) t)(hk:k+1<=k':=by decide)(hg:Gl X x:=by rfl)(hdb:(x==("__debug__":Str))=false:=by decide)
  (he:starEach (e::es) X.env=(false,eval e X.env)::starEach es X.env:=by rfl) (hpl:(backTo pos (starEach es X.env)).any (·.1)=false:=by rfl):E X (.Call (.Name x p) (e::es) [] pos) (rW C sp [] E0 t):=by
 obtain⟨f,fd,F,hb,hm⟩:=D.ex;exact⟨Vr ⟨c.makes,hm.at_,hm.fn,c.kp⟩ F (hr.mono hk) hg c.at_ hb .nil nW ha.h hdb he hpl⟩
theorem i8{pl:Sem Bool}(c:Cls X.K C)(D:n8 X.prog X.w X.K X.mg X.base C m k ps sp)(hr:Room k' X.A)(ho:E X o ta)(ha:As X (e::es) t)(hk:k<=k':=by decide)
  (hst:starEach (e::es) X.env=(false,eval e X.env)::starEach es X.env:=by rfl) (hpl:(backTo pos (starEach es X.env)).any (·.1)=false:=by rfl)
  (ht:eval (.Call (.Attribute o m apos) (e::es) [] pos) X.env=(do
   let ov ←eval o X.env
   standAt apos.atName
   let (f,first) ←holding [ov] (getMethod ov m pl)
   callWith pos f first (backTo pos (starEach (e::es) X.env)) (backToKw pos (keywordEach [] X.env))):=by rfl):E X (.Call (.Attribute o m apos) (e::es) [] pos) (rG C m sp [] E0 ta t):=by
 obtain⟨f,fd,F,hb,hm⟩:=D.ex;exact⟨PM ho.h c hm F (hr.mono hk) hb .nil nW ha.h hst hpl ht⟩
theorem Q0(he:E X e ta)(hb:attributeBase e f X.env (eval e X.env)=eval e X.env:=by rfl):E X (.Attribute e f pos) (wZ X.K ta f):=⟨V5 he.h hb⟩
theorem jn(ha:E X o ta)(hv:E X value tv)(hs:swapsWith value (some (.Attribute o f pos')) pos.line X.env=pure false:=by rfl):S X (.Assign [.Attribute o f pos'] value pos) (BP X.K ta tv f):=⟨ZN ha.h hv.h hs⟩
def vR(C:Addr):TE:=λ_ H Q=>∀x dx,H x=none->H dx=none->dx≠x->Q (.ref x) (upd (upd H dx (.own x)) x (.ins C dx []))
theorem xu(c:Cd X.K X.mg x C)(hi:PySem.W.findIn X.K (.ref C) "__init__"=some (some (.builtin "object.__init__")))(hg:Gl X x:=by rfl)(hdb:(x==("__debug__":Str))=false:=by decide):E X (.Call (.Name x p) [] [] pos) (vR C):=by
 refine⟨λpins s σ H Q I h=>?_⟩;refine eW (m7 I hg c.at_ ?_ hdb);refine PySem.W.callWith_K0 I.kIn c.kp (wpAny_call ?_);have hq:=h (s.heap.objs.size+1) s.heap.objs.size (I.hok.fresh (cD _)) (I.hok.fresh (aP _)) (aU (cS _));have I2:=Inv.made (C:=C) I;have e2:((s.heap.push PySem.W.emptyDict).push (PySem.W.instObj C s.heap.objs.size)).get? (s.heap.objs.size+1)=some (PySem.W.instObj C s.heap.objs.size):=by
  have:=bD (s.heap.push PySem.W.emptyDict) (o:=PySem.W.instObj C s.heap.objs.size) rfl
  rwa [cN] at this
 have Y:=PySem.W.makes_of (M:=model X.prog X.w) I.kIn c.makes;refine Qg I.kIn c.makes hi (λself=>PySem.W.Looks.of_pure (PySem.W.oi_bind self)) ?_;have t1:PySem.W.Looks (model X.prog X.w) ((s.heap.push PySem.W.emptyDict).push (PySem.W.instObj C s.heap.objs.size)) (typeOf (.ref (s.heap.objs.size+1))) (.ref C):=(PySem.W.Looks.ld e2).andThen .now;have t2:PySem.W.Looks (model X.prog X.w) ((s.heap.push PySem.W.emptyDict).push (PySem.W.instObj C s.heap.objs.size)) (isInstance (.ref (s.heap.objs.size+1)) (.type "object")) true:=t1.andThen (Y.top.keeps λb o q=>aS _ (aS _ q))
 refine codeAny_call_builtin PySem.W.oi_plain PySem.W.entry_oi (@PySem.W.check_slot (model X.prog X.w) _ _ _ "object.__init__" "object" "__init__" (.ref (s.heap.objs.size+1)) [] [] _ PySem.W.oi_kind PySem.W.oi_split t2 (PySem.W.oi_args (.ref (s.heap.objs.size+1))) ?_);rw[PySem.W.oi_run];exact eX (And.intro rfl ⟨V.ref (s.heap.objs.size+1),_,I2,rfl,hq⟩)
end
structure Po(X:Cx)(o:Option Expr)(t:TO):Prop where
 h:PO X o t
structure oK(X:Cx)(r:V->Option Int->Option Int->Hp->VK->Prop):Prop where
 h:qX X r
section
variable{X:Cx}{e:Expr}{te:TE}{lo hi:Option Expr}{tl th:TO}{pos p2:Pos}
theorem kn:Po X none Fd:=⟨YZ⟩
theorem kI(h:E X e te):Po X (some e) (LK te):=⟨OF h.h⟩
theorem R4:oK X (tP X.K):=⟨aC9⟩
theorem kJ{r:V->Option Int->Option Int->Hp->VK->Prop}(hr:oK X r)(he:E X e te)(hl:Po X lo tl)(hu:Po X hi th):E X (.Subscript e (.Slice lo hi none p2) pos) (Kq r te tl th):=⟨To hr.h he.h hl.h hu.h⟩
end
noncomputable def NP(xs:List Int)(lo hi:Option Int):List Int:=(xs.drop (HT.sIx xs.length 0 lo)).take (HT.sIx xs.length xs.length hi-HT.sIx xs.length 0 lo)
structure vK(K:FG)(x qual:Str)(st:Stmt)(f:Addr)(fd:FuncData):Prop where
 ex:∃(oc:Value) (od:Option Addr) (dV kV doc pm:Value) (an:Option Addr) (cdv ct:Value) (osl:Array (Option Value)),
  fd=PySem.W.fnOf x qual (jx st) (i5 st) (ft st) dV kV doc pm an cdv ct/\K.lookup f=some ⟨oc,od,.func fd,osl⟩/\PySem.W.codeIn K cdv qual=true
 kp:PySem.W.keepIn K (.ref f)=true
structure FnMD(K:FG)(C:Addr)(m qual:Str)(st:Stmt)(ps:List Str)(dvs:List V):Prop where
 ex:∃(f:Addr) (fd:FuncData) (ds:List Value),vK K m qual st f fd/\Binds K fd ps []/\Vals dvs ds/\Binds K fd ps ds/\jv K C m f
structure DfMD(P:Program)(w:World)(K:FG)(mg:Str->Option Value)(base:Heap)(C:Addr)(m:Str)(k:Nat)(ps:List Str)(sp:Sp)(dvs:List V):Prop where
 ex:∃(f:Addr) (fd:FuncData) (ds:List Value),gk P w K mg base jj k f fd ps sp/\Binds K fd ps []/\Vals dvs ds/\Binds K fd ps ds/\jv K C m f
section
variable{P:Program}{w:World}{K:FG}{mg:Str->Option Value}{base:Heap}{m qual:Str}{st:Stmt}{ps N:List Str}{k:Nat}{sp:Sp}{C:Addr}{dvs:List V}
theorem DfMD.dfm(D:DfMD P w K mg base C m k ps sp dvs):n8 P w K mg base C m k ps sp:=by
 obtain⟨f,fd,ds,a,b,_,_,e⟩:=D.ex;exact⟨⟨f,fd,a,b,e⟩⟩
theorem FnMD.dfs(F:FnMD K C m qual st ps dvs)(S':eZ N ps (ft st))(len:∀vs H Q E,sp vs H Q E->vs.length=ps.length)
  (hbody:∀(f:Addr) (cdv:Value) (A:Around) (outer:List Env) (s:Shared) (H:Hp) (vs:List V) (Q:VK) (E:XK),Room k (A.deeper (envOfC qual (ft st) s.heap.objs.size f cdv))->sp vs H Q E->
   Go P w K mg base N qual st f cdv A outer s H vs Q E):DfMD P w K mg base C m (k+1) ps sp dvs:=by
 obtain⟨f,fd,ds,F1,hb,hv,hbd,hm⟩:=F.ex;refine⟨⟨f,fd,ds,?_,hb,hv,hbd,hm⟩⟩;obtain⟨oc,od,dV,kV,doc,pm,an,cdv,ct,osl,rfl,lk,hcd⟩:=F1.ex;refine D7 lk hcd S' len λA outer s H vs Q E hr hsp=>?_;obtain⟨t,h,q⟩:=hbody f cdv A outer s H vs Q E hr hsp;exact⟨t,h.h.nox,q⟩
theorem B8{f:Addr}{oc:Value}{od an:Option Addr}{osl:Array (Option Value)}{dV kV doc pm cdv ct:Value}{ds:List Value}
  (a:PySem.W.findIn K (.ref C) m=some (some (.ref f))) (i:PySem.W.isFn K (.ref f)=true) (l:K.lookup f=some ⟨oc,od,.func (PySem.W.fnOf m qual (jx st) (i5 st) (ft st) dV kV doc pm an cdv ct),osl⟩)
  (c:PySem.W.codeIn K cdv qual=true) (k:PySem.W.keepIn K (.ref f)=true)
  (hb:Binds K (PySem.W.fnOf m qual (jx st) (i5 st) (ft st) dV kV doc pm an cdv ct) ps []) (hv:Vals dvs ds) (hd:Binds K (PySem.W.fnOf m qual (jx st) (i5 st) (ft st) dV kV doc pm an cdv ct) ps ds):FnMD K C m qual st ps dvs:=
 ⟨⟨f,_,ds,⟨⟨oc,od,dV,kV,doc,pm,an,cdv,ct,osl,rfl,l,c⟩,k⟩,hb,hv,hd,⟨a,i,k⟩⟩⟩
variable{X:Cx}{x:Str}{k':Nat}{p pos:Pos}
theorem tD(c:Cd X.K X.mg x C)(D:DfMD X.prog X.w X.K X.mg X.base C "__init__" k ps sp dvs)(hr:Room k' X.A)(hk:k+1<=k':=by decide)(hg:Gl X x:=by rfl)(hdb:(x==("__debug__":Str))=false:=by decide):
  E X (.Call (.Name x p) [] [] pos) (rW C sp dvs E0 iU):=by
 obtain⟨f,fd,ds,F,_,hv,hb,hm⟩:=D.ex;exact⟨Ri ⟨c.makes,hm.at_,hm.fn,c.kp⟩ F (hr.mono hk) hg c.at_ hb hv nW hdb⟩
end
theorem xS{H:Hp}{xo dx:Addr}{a b:HO}(nx:H xo=none)(ndx:H dx=none):Same H (upd (upd H dx a) xo b):=λz u hb=>by
 rw[fG (g6 hb nx),fG (g6 hb ndx)];exact hb
theorem nU{H:Hp}{xo dx:Addr}{a b c:HO}(nx:H xo=none)(ndx:H dx=none):Same H (upd (upd (upd H dx a) xo b) xo c):=λz u hb=>by
 rw[fG (g6 hb nx)];exact xS nx ndx z u hb
theorem Tc{H:Hp}{xo dx:Addr}{a b c d:HO}(nx:H xo=none)(ndx:H dx=none):Same H (upd (upd (upd (upd H dx a) xo b) xo c) xo d):=λz u hb=>by
 rw[fG (g6 hb nx)];exact nU nx ndx z u hb
end L2
namespace L2
open PySem PyProof.Rows
noncomputable def LV(p:Nat->Bool):Nat->Nat
 |0=>0
 |n+1=>LV p n+(if p n=true then 2^n else 0)
@[irreducible] noncomputable def kE(p:Nat->Bool)(n:Nat):Nat:=LV p n
theorem vS(p:Nat->Bool):kE p 0=0:=by rw[kE];rfl
theorem xG(p:Nat->Bool)(n:Nat):kE p (n+1)=kE p n+(if p n=true then 2^n else 0):=by rw[kE,kE];rfl
theorem vM(p:Nat->Bool):∀n,kE p n<2^n
 |0=>by rw[vS];decide
 |n+1=>by
  have h:=vM p n;rw[xG,Nat.pow_succ];split<;>omega
theorem G8(p:Nat->Bool):∀n i,(kE p n).testBit i=(decide (i<n)&&p i)
 |0,i=>by rw[vS];simp
 |n+1,i=>by
  have h:=vM p n;have ih:=G8 p n i;rw[xG];by_cases hp:p n=true
  ·rw[if_pos hp,Nat.add_comm];rcases dJ i n with hi | hi | hi
   ·rw[Nat.testBit_two_pow_add_gt hi,ih];simp[hi,b9 hi]
   ·subst hi;rw[Nat.testBit_two_pow_add_eq,ih];simp[hp]
   ·have h2:2^n+kE p n<2^i:=bJ (by rw[Nat.pow_succ];omega) (Nat.pow_le_pow_right (by decide) hi);rw[Nat.testBit_lt_two_pow h2];have:¬i<n+1:=⋯;simp[this]
  ·rw[if_neg hp,Nat.add_zero,ih];by_cases e:i=n
   ·subst e;simp[hp]
   ·have:(i<n+1)↔(i<n):=⋯;simp[this]
noncomputable def tb(m:Int)(i:Nat):Bool:=m.toNat.testBit i
theorem jH(k:Nat):((2^k:Nat):Int)=(2:Int)^k:=by rw[Int.natCast_pow];rfl
theorem il(k:Nat):(0:Int)<2^k:=by rw[←jH];exact Int.natCast_pos.mpr (Nat.two_pow_pos k)
theorem FJ{m:Int}(h:0<=m)(k:Nat):m / 2^k=((m.toNat >>> k:Nat):Int):=by
 obtain⟨n,rfl⟩:=bF h;rw[bP,Nat.shiftRight_eq_div_pow,←jH,Int.natCast_ediv]
theorem L4(a b:Nat):Builtin.bitAnd (a:Int) (b:Int)=((a&&& b:Nat):Int):=bitAnd_pp (dD a) (dD b)
theorem rJ(a b:Nat):Builtin.bitOr (a:Int) (b:Int)=((a||| b:Nat):Int):=by
 rw[bitOr_and,L4];have:=nat_or_add_and a b;omega
theorem og{m:Int}(h:0<=m)(k:Nat):(Builtin.bitAnd (m / 2^k) 1=1)↔tb m k=true:=by
 rw[FJ h,show (1:Int)=((1:Nat):Int) from rfl,L4];unfold tb;rw[Nat.testBit_eq_decide_div_mod_eq,Nat.shiftRight_eq_div_pow];have:m.toNat / 2^k&&& 1=m.toNat / 2^k%2:=Nat.and_two_pow_sub_one_eq_mod _ 1;rw[this];simp only[eU];omega
theorem pQ{a b:Int}(ha:0<=a)(hb:0<=b):0<=Builtin.bitAnd a b:=by rw[bitAnd_pp ha hb];exact dD _
theorem mM{a b:Int}(ha:0<=a)(hb:0<=b):0<=Builtin.bitOr a b:=by
 obtain⟨x,rfl⟩:=bF ha;obtain⟨y,rfl⟩:=bF hb;rw[rJ];exact dD _
theorem lU{a b:Int}(ha:0<=a)(hb:0<=b)(i:Nat):tb (Builtin.bitAnd a b) i=(tb a i&&tb b i):=by
 unfold tb;rw[bitAnd_pp ha hb,bP,Nat.testBit_and]
theorem oi{a b:Int}(ha:0<=a)(hb:0<=b)(i:Nat):tb (Builtin.bitOr a b) i=(tb a i||tb b i):=by
 obtain⟨x,rfl⟩:=bF ha;obtain⟨y,rfl⟩:=bF hb;unfold tb;rw[rJ,bP,Nat.testBit_or,bP,bP]
theorem lP(k i:Nat):tb (2^k) i=decide (k=i):=by
 unfold tb;rw[←jH,bP,Nat.testBit_two_pow]
theorem ju(i:Nat):tb 0 i=false:=by unfold tb;simp
theorem jS{a b:Int}(ha:0<=a)(hb:0<=b)(h:∀i,tb a i=tb b i):a=b:=by
 have:a.toNat=b.toNat:=Nat.eq_of_testBit_eq h;omega
theorem rd{m:Int}(h:0<=m)(k i:Nat):tb (m*2^k) i=(decide (k<=i)&&tb m (i-k)):=by
 obtain⟨x,rfl⟩:=bF h;unfold tb;rw[←jH,←Int.natCast_mul,bP,bP,←Nat.shiftLeft_eq,Nat.testBit_shiftLeft]
theorem Xd{m:Int}(h:0<=m)(k i:Nat):tb (m / 2^k) i=tb m (k+i):=by
 rw[FJ h];unfold tb;rw[bP,Nat.testBit_shiftRight]
theorem qg{m:Int}{n i:Nat}(h:m<2^n)(hi:n<=i):tb m i=false:=by
 unfold tb;refine Nat.testBit_lt_two_pow (bJ ?_ (Nat.pow_le_pow_right (by decide) hi));by_cases h0:0<=m
 ·have:=jH n;omega
 ·have:m.toNat=0:=⋯;rw[this];exact Nat.two_pow_pos n
@[irreducible] noncomputable def lC(p:Nat->Bool)(n:Nat):Int:=(kE p n:Nat)
theorem oN(p:Nat->Bool)(n:Nat):lC p n=(kE p n:Nat):=by rw[lC]
theorem K8(p:Nat->Bool)(n:Nat):0<=lC p n:=by rw[oN];exact dD _
theorem WI(p:Nat->Bool):lC p 0=0:=by rw[oN,vS];rfl
theorem yN(p:Nat->Bool)(n i:Nat):tb (lC p n) i=(decide (i<n)&&p i):=by
 unfold tb;rw[oN,bP,G8]
theorem LI(p:Nat->Bool)(n:Nat):lC p (n+1)=lC p n+(if p n=true then 2^n else 0):=by
 rw[oN,oN,xG,Int.natCast_add];split
 ·rw[jH]
 ·rfl
theorem WL(p:Nat->Bool)(n:Nat):lC p n<2^n:=by
 have:=vM p n;have e:=jH n;rw[oN];omega
theorem rq(n i:Nat):tb (2^n-1) i=decide (i<n):=by
 have h:=jH n;have:((2:Int)^n-1).toNat=2^n-1:=by
  have:=Nat.two_pow_pos n;omega
 unfold tb;rw[this,Nat.testBit_two_pow_sub_one]
noncomputable def Bx(p:Nat->Bool)(lo:Int):Nat->List Int
 |0=>[]
 |n+1=>Bx p lo n++(if p n=true then [lo+(n:Int)] else [])
@[irreducible] noncomputable def flt(p:Nat->Bool)(lo:Int)(n:Nat):List Int:=Bx p lo n
theorem q0(p:Nat->Bool)(lo:Int):flt p lo 0=[]:=by rw[flt];rfl
theorem XZ{p:Nat->Bool}{lo:Int}{α:Type}{f:Int->α}:[]=(flt p lo 0).map f:=by rw[q0];rfl
theorem B7(p:Nat->Bool)(lo:Int)(n:Nat):flt p lo (n+1)=flt p lo n++(if p n=true then [lo+(n:Int)] else []):=by rw[flt,flt];rfl
theorem rM{p:Nat->Bool}{lo:Int}{n:Nat}(h:p n=true):flt p lo (n+1)=flt p lo n++[lo+(n:Int)]:=by
 rw[B7,if_pos h]
theorem qa{p:Nat->Bool}{lo:Int}{n:Nat}(h:p n=false):flt p lo (n+1)=flt p lo n:=by
 rw[B7,h,if_neg bI,cC]
theorem flt_mem{p:Nat->Bool}{lo z:Int}:∀{n:Nat},z∈flt p lo n↔∃i,i<n/\p i=true/\z=lo+(i:Int)
 |0=>by rw[q0];exact⟨λh=>(nomatch h),λ⟨i,h,_⟩=>absurd h (dM i)⟩
 |n+1=>by
  by_cases c:p n=true
  ·rw[rM c,bS,flt_mem,aW];refine⟨λh=>?_,λ⟨i,h1,h2,h3⟩=>?_⟩
   ·rcases h with ⟨i,h1,h2,h3⟩ | h
    ·exact⟨i,⋯,h2,h3⟩
    ·exact⟨n,⋯,c,h⟩
   ·by_cases e:i=n
    ·subst e;exact .inr h3
    ·exact .inl ⟨i,⋯,h2,h3⟩
  ·rw[qa (by simpa using c),flt_mem];refine⟨λ⟨i,h1,h2,h3⟩=>⟨i,⋯,h2,h3⟩,λ⟨i,h1,h2,h3⟩=>⟨i,?_,h2,h3⟩⟩;have:i≠n:=λe=>c (e▸h2);omega
theorem P9{p:Nat->Bool}{lo:Int}{n k:Nat}(h:∀i,n<=i->p i=false)(hk:n<=k):flt p lo k=flt p lo n:=by
 obtain⟨d,rfl⟩:=Nat.exists_eq_add_of_le hk;clear hk;induction d with
 |zero=>rfl
 |succ d ih=>rw[show n+(d+1)=(n+d)+1 from rfl,qa (h _ ⋯),ih]
noncomputable def f7(zs:List Int):Int:=zs.foldl (λa z=>Builtin.bitOr a (1*2^z.toNat)) 0
theorem Ob(zs:List Int)(z:Int):f7 (zs++[z])=Builtin.bitOr (f7 zs) (1*2^z.toNat):=by unfold f7;rw[List.foldl_append];rfl
theorem uK:∀(zs:List Int) (a:Int),0<=a->0<=zs.foldl (λa z=>Builtin.bitOr a (1*2^z.toNat)) a/\∀i,tb (zs.foldl (λa z=>Builtin.bitOr a (1*2^z.toNat)) a) i=(tb a i||zs.any λz=>decide (z.toNat=i))
 |[],a,h=>⟨h,λi=>by simp⟩
 |z::zs,a,h=>by
  have e:(1*2^z.toNat:Int)=2^z.toNat:=⋯;have p:=cA (il z.toNat);obtain⟨h1,h2⟩:=uK zs (Builtin.bitOr a (1*2^z.toNat)) (by rw[e];exact mM h p);refine⟨h1,λi=>?_⟩;show tb (zs.foldl _ (Builtin.bitOr a (1*2^z.toNat))) i=_;rw[h2 i,e,oi h p,lP,bX,Bool.or_assoc]
theorem jG(zs:List Int):0<=f7 zs:=(uK zs 0 (aZ 0)).1
theorem oP(zs:List Int)(i:Nat):tb (f7 zs) i=zs.any λz=>decide (z.toNat=i):=by
 have h:=(uK zs 0 (aZ 0)).2 i;rw[ju,Bool.false_or] at h;exact h
theorem W3{m:Int}(h:0<=m):m<2^Builtin.Int.intBits m:=by
 unfold Builtin.Int.intBits;split
 ·rename_i c;have:m=0:=by simpa using c
  rw[this];decide
 ·have:=Nat.lt_log2_self (n:=m.natAbs);have e:=jH (m.natAbs.log2+1);omega
theorem rL{m:Int}{n:Nat}(h:0<=m)(hn:m<2^n):Builtin.Int.intBits m<=n:=by
 unfold Builtin.Int.intBits;split
 ·exact a9 _
 ·rename_i c;have h0:m≠0:=by simpa using c
  have e:=jH n;have:m.natAbs.log2<n:=(Nat.log2_lt ⋯).mpr ⋯;omega
noncomputable def kF(m:Int):List Int:=flt (tb m) 0 (Builtin.Int.intBits m)
theorem nZ{m:Int}{n:Nat}(h:0<=m)(hn:m<2^n):kF m=flt (tb m) 0 n:=
 (P9 (λi hi=>qg (W3 h) hi) (rL h hn)).symm
theorem QS{m:Int}(h:0<=m)(k:Nat):decide (Builtin.bitAnd (m / 2^k) 1=1)=tb m k:=by
 by_cases c:tb m k=true
 ·rw[c];exact eS ((og h _).mpr c)
 ·have c':tb m k=false:=by simpa using c
  rw[c'];exact eV λq=>c ((og h _).mp q)
end L2
namespace L2
open PySem PyProof.Rows
theorem vG(p:Nat->Bool)(lo:Int):∀n,(flt p lo n).Pairwise (·<·)
 |0=>by rw[q0];exact .nil
 |n+1=>by
  by_cases c:p n=true
  ·rw[rM c,cV];refine⟨vG p lo n,List.pairwise_singleton _ _,λa ha b hb=>?_⟩;obtain⟨i,h1,_,rfl⟩:=flt_mem.mp ha;have:b=lo+(n:Int):=by simpa using hb
   omega
  ·rw[qa (by simpa using c)];exact vG p lo n
theorem Th{a b:Int}{n:Nat}(ha:0<=a)(hb:0<=b)(h1:a<2^n)(h2:b<2^n):Builtin.bitOr a b<2^n:=by
 obtain⟨x,rfl⟩:=bF ha;obtain⟨y,rfl⟩:=bF hb;have e:=jH n;have:x||| y<2^n:=Nat.or_lt_two_pow ⋯ ⋯
 rw[rJ];omega
section
variable{X:Cx}{tg:Expr}
theorem NK{a b c:Int}(hc:0<c):0<=Builtin.Range.rangeSize a b c:=by
 unfold Builtin.Range.rangeSize;rw[if_pos hc];split
 ·have:0<=(b-a-1) / c:=Int.ediv_nonneg ⋯ ⋯;omega
 ·exact aZ 0
end
noncomputable def lR(a:Addr)(lo hi st:Int):HO:=.ext λh=>∃t u v,h.get? a=some {cls:=.type "range",data:=.fields #[.int lo t,.int hi u,.int st v]}
section
variable{X:Cx}
theorem Kl{pins:List (Addr×Obj)}{σ:St}{H:Hp}{s:Shared}{Q:VK}{lo hi st:Int}{t u v:Tok}{tk:Nat}(I:Inv X pins σ H s)(q:∀p,H p=none->Q (.ref p) (upd H p (lR p lo hi st))):
  EP X pins σ Q (.ref s.heap.objs.size) {s with heap:=s.heap.push {cls:=.type "range",data:=.fields #[.int lo t,.int hi u,.int st v]},toks:=tk}:=by
 refine⟨.ref s.heap.objs.size,upd H s.heap.objs.size (lR s.heap.objs.size lo hi st),I.laid (t':=tk) (λb u e=>aS _ e) (aP _) ?_,rfl,q _ (I.hok.fresh (aP _))⟩;have e:=bD s.heap (o:={cls:=.type "range",data:=.fields #[.int lo t,.int hi u,.int st v]}) rfl;exact⟨⟨t,u,v,e⟩,⟨_,e⟩,λh1 h2 ⟨t,u,v,z⟩ k=>⟨t,u,v,k _ z⟩⟩
theorem um:ig X (.type "range") (λxs H Q=>∃i j,xs=[.int i,.int j]/\∀p,H p=none->Q (.ref p) (upd H p (lR p i j 1))):=by
 refine⟨λpins s σ H xs us Q I r h=>?_⟩;obtain⟨i,j,rfl,q⟩:=h;obtain⟨u,u',rfl,⟨t,rfl⟩,⟨t',rfl⟩⟩:=oU r;exact call_range_2 (Kl I q)
theorem tF:ig X (.type "range") (λxs H Q=>∃i j c,xs=[.int i,.int j,.int c]/\(0<c/\c<1073741824)/\∀p,H p=none->Q (.ref p) (upd H p (lR p i j c))):=by
 refine⟨λpins s σ H xs us Q I r h=>?_⟩;obtain⟨i,j,c,rfl,⟨c0,c1⟩,q⟩:=h;cases r with
 |cons r rr=>
  cases rr with
  |cons r' rr=>
   cases rr with
   |cons r'' rr=>
    cases rr;obtain⟨t,rfl⟩:=r;obtain⟨t',rfl⟩:=r';obtain⟨t'',rfl⟩:=r'';exact call_range_3 (Int.ne_of_gt c0) (Kl I q) (.inl (PyProof.noPylong_small ⋯))
theorem TQ{lo st:Int}:∀{n:Nat} {acc:Array Value},ItemsOf (λi v=>∃t,v=.int (lo+i*st) t) acc n->Vals ((List.range n).map λi:Nat=>V.int (lo+i*st)) acc.toList:=by
 intro n acc h;obtain⟨hz,hi⟩:=h;have key:∀(m:Nat),m<=n->Vals ((List.range m).map λi:Nat=>V.int (lo+i*st)) (acc.toList.take m):=by
  intro m;induction m with
  |zero=>intro _;exact .nil
  |succ m ih=>
   intro hm;have hlt:m<acc.toList.length:=by rw[bO];omega
   obtain⟨t,e⟩:=hi m acc.toList[m] (by rw[←b6];exact bC hlt);rw[dN,aY,cH,bC hlt];exact (ih ⋯).append (.cons ⟨t,e⟩ .nil)
 have:=key n (aP _)
 rwa [dH (by rw[bO];omega)] at this
theorem BS(hc:X.calm=true:=by rfl):ig X (.type "list") (λxs H Q=>∃(p:Addr) (lo hi st:Int) (n:Nat),xs=[.ref p]/\H p=some (lR p lo hi st)/\Builtin.Range.small lo hi st=true/\Builtin.Range.rangeSize lo hi st=(n:Int)/\n<=100000/\
  ∀l,H l=none->Q (.ref l) (upd H l (.lst ((List.range n).map λi:Nat=>V.int (lo+i*st))))):=by
 refine⟨λpins s σ H xs us Q I r h=>?_⟩;obtain⟨p,lo,hi,st,n,rfl,hp,hs,hn,hl,q⟩:=h;obtain⟨u,rfl,rx⟩:=iO r;cases rx;obtain⟨⟨t,u,v,e⟩,_,_⟩:=I.hok p _ hp;refine call_list_range (I.ok.hd hc) e hs hn (bK hl (by decide)) λh' tk acc c' kp hS hI=>?_;have hz:((List.range n).map λi:Nat=>V.int (lo+i*st)).length<=sizeLine:=by
  rw[aQ,bY,eJ];omega
 exact⟨.ref s.heap.objs.size,_,I.laid (t':=tk) kp (aP _) (show ObjOk X.prog X.w _ h' _ (.lst _) from ⟨hz,acc.toList,c',TQ hI,by simpa using hS⟩),rfl,q _ (I.hok.fresh (aP _))⟩
def NQ:V->List V->Hp->VK->Prop:=λx vs H Q=>∃i,x=.int i/\vs=[]/\Q (.int (Builtin.Int.intBits i:Nat)) H
theorem YE:nV X "int.bit_length" NQ:=by
 intro pins s σ H x xs v us Q I rx rv h;obtain⟨i,rfl,rfl,q⟩:=h;cases rv;obtain⟨t,rfl⟩:=rx;exact call_int_bit_length ⟨.int _,H,I.tok _,⟨()⟩,q⟩
theorem DN{o:Expr}{to:TE}{apos cpos:Pos}(ho:E X o to)(hbase:attributeBase o "bit_length" X.env (eval o X.env)=eval o X.env:=by rfl)(hline:(apos.endLine==cpos.line)=true:=by rfl):
  E X (.Call (.Attribute o "bit_length" apos) [] [] cpos) (Of X.K "int" NQ to):=⟨ZS PySem.F.plainAttrs_int PySem.F.slot_int_bit_length PySem.F.type_int_bit_length YE ho.h hbase hline⟩
theorem wN:ig X (.type "tuple") (λxs H Q=>∃p ys,xs=[.ref p]/\((SqL X.K H p ys/\∀l,H l=none->Q (.ref l) (upd H l (.tup ys)))∨(SqT X.K H p ys/\Q (.ref p) H))):=⟨VZ⟩
theorem jX:gF X (compareOp .Is) (λx y H Q=>y=.non/\Q (.bl (decide (x=.non))) H):=⟨XW⟩
theorem LY:gF X (compareOp .IsNot) (λx y H Q=>y=.non/\Q (.bl (!decide (x=.non))) H):=⟨Qb⟩
theorem Yv:gF X (compareOp .In) (v9 X.K false):=⟨WC⟩
end
theorem Same.none{H H':Hp}{D:Addr}(s:Same H H')(h:H' D=none):H D=none:=by
 cases e:H D with
 |none=>rfl
 |some o=>exact absurd (h.symm.trans (s _ _ e)) (by simp)
def Keep(H H':Hp):Prop:=∀b o,(∀xs,o≠ .lst xs)->H b=some o->H' b=some o
theorem Same.keep{H H':Hp}(s:Same H H'):Keep H H':=λb o _ h=>s b o h
theorem Keep.trans{H H1 H2:Hp}(a:Keep H H1)(b:Keep H1 H2):Keep H H2:=λc o n h=>b c o n (a c o n h)
theorem tT{H:Hp}{D:Addr}{l l':List V}(h:H D=some (.lst l)):Keep H (upd H D (.lst l')):=λb o n hb=>by
 by_cases e:b=D
 ·subst e;rw[h] at hb;cases hb;exact absurd rfl (n l)
 ·rw[fG e];exact hb
theorem Keep.tup{H H':Hp}(k:Keep H H'){b:Addr}{xs:List V}(h:H b=some (.tup xs)):H' b=some (.tup xs):=k b _ (λ_ z=>nomatch z) h
theorem Keep.ins{H H':Hp}(k:Keep H H'){b C dx:Addr}{fs:List (Str×V)}(h:H b=some (.ins C dx fs)):H' b=some (.ins C dx fs):=k b _ (λ_ z=>nomatch z) h
section
variable{X:Cx}{K:FG}
theorem fO(hK:X.K=K:=by rfl):oz X (wF K):=hK▸xL
theorem gg(hK:X.K=K:=by rfl):oz X (uo K):=hK▸xT
theorem FS(hK:X.K=K:=by rfl):gF X (compareOp .In) (v9 K false):=hK▸Yv
theorem jQ(hK:X.K=K:=by rfl):ig X (.builtin "len") (λxs H Q=>∃p ys,xs=[.ref p]/\(SqL K H p ys∨SqT K H p ys)/\Q (.int ys.length) H):=hK▸vb
theorem oQ(hK:X.K=K:=by rfl):oK X (tP K):=hK▸R4
end
inductive Kd where
 |int | bool | str | non | list | tuple | dict
noncomputable def Kd.nm:Kd->String
 |.int=>"int" | .bool=>"bool" | .str=>"str" | .non=>"NoneType" | .list=>"list" | .tuple=>"tuple" | .dict=>"dict"
noncomputable def Kd.isa:Kd->Kd->Bool
 |.int,.int=>true | .bool,.int=>true | .bool,.bool=>true | .str,.str=>true | .list,.list=>true | .tuple,.tuple=>true | .dict,.dict=>true | _,_=>false
def KindV(K:FG)(H:Hp):V->Kd->Prop
 |.int _,k=>k=.int
 |.bl _,k=>k=.bool
 |.str _,k=>k=.str
 |.non,k=>k=.non
 |.ref a,k=>(k=.list/\∃xs,SqL K H a xs)∨(k=.tuple/\∃xs,SqT K H a xs)∨(k=.dict/\∃kvs,H a=some (.dK kvs))
 |_,_=>False
theorem mS{X:Cx}:ig X (.builtin "isinstance") (λxs H Q=>∃(v:V) (n k:Kd),xs=[v,.ty n.nm]/\n.nm≠"NoneType"/\KindV X.K H v k/\Q (.bl (Kd.isa k n)) H):=by
 refine⟨λpins s σ H xs us Q I r h=>?_⟩;obtain⟨v,n,k,rfl,hn,hk,q⟩:=h;obtain⟨u,w',rfl,r1,r2⟩:=oU r;cases r2;have fU:∀tk,EP X pins σ Q (.bool (Kd.isa k n)) {s with toks:=tk}:=λtk=>⟨.bl _,H,I.tok _,rfl,q⟩;have fin0:EP X pins σ Q (.bool (Kd.isa k n)) s:=⟨.bl _,H,I,rfl,q⟩;cases v with
 |int i=>
  obtain⟨t,rfl⟩:=r1;cases (show k=Kd.int from hk);cases n with
  |int=>exact PySem.IsiPair.int_int fin0
  |bool=>exact PySem.IsiPair.int_bool (fU _)
  |str=>exact PySem.IsiPair.int_str (fU _)
  |list=>exact PySem.IsiPair.int_list (fU _)
  |tuple=>exact PySem.IsiPair.int_tuple (fU _)
  |dict=>exact PySem.IsiPair.int_dict (fU _)
  |non=>exact absurd rfl hn
 |bl b=>
  cases r1;cases (show k=Kd.bool from hk);cases n with
  |int=>exact PySem.IsiPair.bool_int fin0
  |bool=>exact PySem.IsiPair.bool_bool fin0
  |str=>exact PySem.IsiPair.bool_str (fU _)
  |list=>exact PySem.IsiPair.bool_list (fU _)
  |tuple=>exact PySem.IsiPair.bool_tuple (fU _)
  |dict=>exact PySem.IsiPair.bool_dict (fU _)
  |non=>exact absurd rfl hn
 |str x=>
  obtain⟨t,rfl⟩:=r1;cases (show k=Kd.str from hk);cases n with
  |int=>exact PySem.IsiPair.str_int (fU _)
  |bool=>exact PySem.IsiPair.str_bool (fU _)
  |str=>exact PySem.IsiPair.str_str fin0
  |list=>exact PySem.IsiPair.str_list (fU _)
  |tuple=>exact PySem.IsiPair.str_tuple (fU _)
  |dict=>exact PySem.IsiPair.str_dict (fU _)
  |non=>exact absurd rfl hn
 |non=>
  cases r1;cases (show k=Kd.non from hk);cases n with
  |int=>exact PySem.IsiPair.NoneType_int (fU _)
  |bool=>exact PySem.IsiPair.NoneType_bool (fU _)
  |str=>exact PySem.IsiPair.NoneType_str (fU _)
  |list=>exact PySem.IsiPair.NoneType_list (fU _)
  |tuple=>exact PySem.IsiPair.NoneType_tuple (fU _)
  |dict=>exact PySem.IsiPair.NoneType_dict (fU _)
  |non=>exact absurd rfl hn
 |ref a=>
  cases r1;rcases hk with ⟨rfl,ys,hq⟩ | ⟨rfl,ys,hq⟩ | ⟨rfl,kvs,hq⟩
  ·obtain⟨its,rv,pl,_⟩:=I.list hq;obtain⟨o,ho,hc,_⟩:=pl.isList;cases n with
   |int=>exact PySem.IsiPair.list_int ho hc (fU _)
   |bool=>exact PySem.IsiPair.list_bool ho hc (fU _)
   |str=>exact PySem.IsiPair.list_str ho hc (fU _)
   |list=>exact PySem.IsiPair.list_list ho hc fin0
   |tuple=>exact PySem.IsiPair.list_tuple ho hc (fU _)
   |dict=>exact PySem.IsiPair.list_dict ho hc (fU _)
   |non=>exact absurd rfl hn
  ·obtain⟨its,rv,⟨o,ho,hc,_⟩,_⟩:=I.tuple hq;cases n with
   |int=>exact PySem.IsiPair.tuple_int ho hc (fU _)
   |bool=>exact PySem.IsiPair.tuple_bool ho hc (fU _)
   |str=>exact PySem.IsiPair.tuple_str ho hc (fU _)
   |list=>exact PySem.IsiPair.tuple_list ho hc (fU _)
   |tuple=>exact PySem.IsiPair.tuple_tuple ho hc fin0
   |dict=>exact PySem.IsiPair.tuple_dict ho hc (fU _)
   |non=>exact absurd rfl hn
  ·obtain⟨_,_,_,_,o,_,_,ho,ex,_⟩:=I.hok a _ hq;cases n with
   |int=>exact PySem.IsiPair.dict_int ho ex.1 (fU _)
   |bool=>exact PySem.IsiPair.dict_bool ho ex.1 (fU _)
   |str=>exact PySem.IsiPair.dict_str ho ex.1 (fU _)
   |list=>exact PySem.IsiPair.dict_list ho ex.1 (fU _)
   |tuple=>exact PySem.IsiPair.dict_tuple ho ex.1 (fU _)
   |dict=>exact PySem.IsiPair.dict_dict ho ex.1 fin0
   |non=>exact absurd rfl hn
 |byt b=>exact False.elim hk
 |flt b=>exact False.elim hk
 |ty n=>exact False.elim hk
end L2
namespace L2
open PySem PySem.Spec PyProof.Rows PySem.Builtin PySem.Builtin.Str
noncomputable abbrev Tx(l:List Nat):Str:=⟨l.toArray⟩
theorem Tx_inj{a b:List Nat}:Tx a=Tx b↔a=b:=⟨λh=>by
 have:(Tx a).cps.toList=(Tx b).cps.toList:=by rw[h]
 simpa using this,λh=>by rw[h]⟩
theorem JL(x:Str):Tx x.cps.toList=x:=by cases x;simp
theorem i6(a:List Nat):(Tx a).length=a.length:=by simp[Str.length]
noncomputable def qA(x:Str):It:=⟨λi _=>i<x.cps.size,λi H v H'=>H'=H/\∃c,x.cps[i]? =some c/\v=.str ⟨#[c]⟩,λi _=>i=x.cps.size⟩
theorem Qu{P:Program}{w:World}{K:FG}{tg:Expr}(x:Str)(t:Tok)(it:Addr):iQ P w K tg (qA x) [it] it (λi h=>h.IsStrIter it "str_ascii_iterator" x t i) where
 mem:=by simp
 obj:=λi h st b hb=>by
  have e:b=it:=by simpa using hb
  subst e;obtain⟨o,e,c,d⟩:=st;exact⟨o,e,λv z=>by rw[d] at z;cases z⟩
 keep:=λi h h' st k=>by
  obtain⟨o,e,r⟩:=st;exact⟨o,k it (by simp) o e,r⟩
 item:=by
  intro X hP hw hK hc i pins s σ H E I hf st hg;subst hP hw hK;obtain⟨f0,f1,f2,f3,f4,f5⟩:=hf it (by simp);have hg:i<x.cps.size:=hg;refine wpAny_pyNext_ascii_item st (c:=x.cps[i]) (by simp[hg]) λh' st' sb=>?_;have I1:Inv X pins σ H {s with heap:=h',toks:=s.toks+1}:=I.turned (λb o hb e=>sb.extBut b o hb e) f0 f1 f3 f4 f5;obtain⟨o,e,c,d⟩:=id st';exact⟨(),pM (s:={s with heap:=h',toks:=s.toks+1}) e c d (by decide) ⟨.str ⟨#[x.cps[i]]⟩,H,I1,⟨()⟩,⟨rfl,x.cps[i],by simp[hg],rfl⟩,st',λb hb=>(hf b hb).1⟩⟩
 done:=by
  intro X hP hw hK hc i pins s σ H E I hf st hg;subst hP hw hK;obtain⟨f0,f1,f2,f3,f4,f5⟩:=hf it (by simp);have hg:i=x.cps.size:=hg;exact wpAny_pyNext_ascii_end (I.ok.hd hc) st (by simp[hg]) λh' eb=>⟨rfl,I.turned (t':=s.toks) (λb o hb e=>eb b o hb e) f0 f1 f3 f4 f5⟩
 self:=λ_ _ _ _ _ st h=>wpAny_pyIter_striter_ascii st h
theorem TJ{P:Program}{w:World}{K:FG}{tg:Expr}(x:Str)(t:Tok)(it:Addr):iQ P w K tg (qA x) [it] it (λi h=>h.IsStrIter it "str_iterator" x t i) where
 mem:=by simp
 obj:=λi h st b hb=>by
  have e:b=it:=by simpa using hb
  subst e;obtain⟨o,e,c,d⟩:=st;exact⟨o,e,λv z=>by rw[d] at z;cases z⟩
 keep:=λi h h' st k=>by
  obtain⟨o,e,r⟩:=st;exact⟨o,k it (by simp) o e,r⟩
 item:=by
  intro X hP hw hK hc i pins s σ H E I hf st hg;subst hP hw hK;obtain⟨f0,f1,f2,f3,f4,f5⟩:=hf it (by simp);have hg:i<x.cps.size:=hg;refine wpAny_pyNext_wide_item st (c:=x.cps[i]) (by simp[hg]) λh' st' sb=>?_;have I1:Inv X pins σ H {s with heap:=h',toks:=s.toks+1}:=I.turned (λb o hb e=>sb.extBut b o hb e) f0 f1 f3 f4 f5;obtain⟨o,e,c,d⟩:=id st';exact⟨(),pM (s:={s with heap:=h',toks:=s.toks+1}) e c d (by decide) ⟨.str ⟨#[x.cps[i]]⟩,H,I1,⟨()⟩,⟨rfl,x.cps[i],by simp[hg],rfl⟩,st',λb hb=>(hf b hb).1⟩⟩
 done:=by
  intro X hP hw hK hc i pins s σ H E I hf st hg;subst hP hw hK;obtain⟨f0,f1,f2,f3,f4,f5⟩:=hf it (by simp);have hg:i=x.cps.size:=hg;exact wpAny_pyNext_wide_end (I.ok.hd hc) st (by simp[hg]) λh' eb=>⟨rfl,I.turned (t':=s.toks) (λb o hb e=>eb b o hb e) f0 f1 f3 f4 f5⟩
 self:=λ_ _ _ _ _ st h=>wpAny_pyIter_striter_wide st h
section
variable{X:Cx}{tg:Expr}
def x4(tl:TE):TI:=λσ H R=>tl σ H λx H1=>∃z,x=.str z/\R (qA z) H1
theorem iX{l:Expr}{tl:TE}(hl:E X l tl):Il X tg l (x4 tl):=by
 refine⟨λpins s σ H R I h=>?_⟩;refine fJ (hl.h pins s σ H _ I h) λu s1 ⟨x,H1,I1,r1,q1⟩=>?_;obtain⟨z,rfl,q⟩:=q1;obtain⟨t,rfl⟩:=r1;have fp:∀b∈[s1.heap.objs.size],jJ X pins H1 b:=λb hb=>by
  have e:b=s1.heap.objs.size:=by simpa using hb
  subst e;exact I1.fpOk (aP _) (I1.hok.fresh (aP _))
 cases ha:z.cps.all (·<128)
 ·exact wpAny_pyIter_wide ha ⟨s1.heap.objs.size,[s1.heap.objs.size],_,_,H1,rfl,I1.kept (t':=s1.toks) λb o e=>aS _ e,TJ z t _,⟨_,bD _ rfl,rfl,rfl⟩,fp,q⟩
 ·exact wpAny_pyIter_ascii ha ⟨s1.heap.objs.size,[s1.heap.objs.size],_,_,H1,rfl,I1.kept (t':=s1.toks) λb o e=>aS _ e,Qu z t _,⟨_,bD _ rfl,rfl,rfl⟩,fp,q⟩
variable{js:List Nat}{σ:St}{tt:TT}{te:TE}{Q:VK}{H1:Hp}
theorem aB6{xs:List Nat}(R:Nat->List V->Prop)(hn:xs.length<=sizeLine)(h0:R 0 [])
  (hs:∀(i:Nat) (c:Nat) (l:List V) (D:Addr) (H2:Hp) (E:V->Hp->Prop) (F:Hp->Prop),xs[i]? =some c->R i l->H1 D=none->Same H1 H2->H2 D=some (.lst l)->(∀y H5,Same H2 H5->R (i+1) (l++[y])->E y H5)->(∀H4,Same H2 H4->R (i+1) l->F H4)->
   tt (some (.str (Tx [c]))::gT js σ) H2 λb H4=>if b=true then te (some (.str (Tx [c]))::gT js σ) H4 E else F H4)
  (hd:∀(D:Addr) (H2:Hp) (l:List V),R xs.length l->H1 D=none->Same H1 H2->H2 D=some (.lst l)->Q (.ref D) H2):mj (qA (Tx xs)) js σ tt te Q H1:=by
 intro D hD;have hz:(Tx xs).cps.size=xs.length:=by simp
 refine⟨λi m H2=>m=xs.length-i/\i<=xs.length/\Same H1 H2/\∃l,H2 D=some (.lst l)/\l.length<=i/\R i l,⟨xs.length,by simp,a9 _,fm hD _,[],fk,aP _,h0⟩,?_⟩;rintro i m H2 ⟨rfl,hi,s2,l,h2,hll,hR⟩;by_cases hlt:i<xs.length
 ·refine .inr ⟨show i<(Tx xs).cps.size by rw[hz];exact hlt,λv H3 y=>?_⟩;obtain⟨e,c,ec,ev⟩:=y;subst e ev;refine hs i c l D _ _ _ (by simpa using ec) hR hD s2 h2 (λz H5 s5 r5=>?_) (λH4 s4 r4=>?_)
  ·refine⟨l,s5 _ _ h2,cZ hll (bJ hlt hn),xs.length-(i+1),⋯,rfl,hlt,λb o hb=>?_,l++[z],fk,by rw[aV,b8];omega,r5⟩;rw[fG (g6 hb hD)];exact s5 _ _ (s2 _ _ hb)
  ·exact⟨xs.length-(i+1),⋯,rfl,hlt,s2.trans s4,l,s4 _ _ h2,⋯,r4⟩
 ·have e:i=xs.length:=⋯;subst e;exact .inl ⟨show xs.length=(Tx xs).cps.size by rw[hz],hd D H2 l hR hD s2 h2⟩
end
section
variable{X:Cx}
theorem SG{prog:Program}{w:World}{A:Around}{its:Array Value}{bs:List Bool}(r:Vals (bs.map V.bl) its.toList):TruthOf prog w A (λi v=>its[i]? =some v) (λi=>bs.getD i false):=by
 intro i v s Q E hv hq;have hv':its.toList[i]? =some v:=by rw[b6];exact hv
 have hi:i<bs.length:=by
  have h1:=r.length;rw[aQ] at h1;rcases bU i its.toList.length with z | z
  ·omega
  ·rw[List.getElem?_eq_none z] at hv';cases hv'
 obtain⟨u,hu,ru⟩:=r.get (i:=i) (x:=V.bl bs[i]) (by rw[aX,bC hi];rfl);rw[hv'] at hu;cases hu;cases ru;have e:bs.getD i false=bs[i]:=by simp[List.getD,bC hi]
 have hq:Q (bs.getD i false) s:=hq;rw[e] at hq;exact eY hq
theorem Qh(bs:List Bool):(List.range bs.length).all (λi=>bs.getD i false)=bs.all id:=by
 rw[cR,cG,cG];refine⟨λh b hb=>?_,λh i hi=>?_⟩
 ·obtain⟨i,hi,e⟩:=List.getElem_of_mem hb;have:=h i (bW.mpr hi);rw[show bs.getD i false=bs[i] by simp[List.getD,bC hi],e] at this;exact this
 ·have hi:=bW.mp hi;rw[show bs.getD i false=bs[i] by simp[List.getD,bC hi]];exact h _ (List.getElem_mem hi)
theorem Gs(hc:X.calm=true:=by rfl):ig X (.builtin "all") (λxs H Q=>∃(p:Addr) (bs:List Bool),xs=[.ref p]/\SqL X.K H p (bs.map V.bl)/\Q (.bl (bs.all id)) H):=by
 refine⟨λpins s σ H xs us Q I r h=>?_⟩;obtain⟨p,bs,rfl,hq,q⟩:=h;obtain⟨u,rfl,r1⟩:=iO r;cases r1;obtain⟨its,rv,pl,hz⟩:=I.list hq;have hne:p≠s.heap.objs.size:=by
  obtain⟨o,ho,_⟩:=pl.isList;exact aU (aR ho)
 refine call_all_walk (wpAny_pyIter_list pl.isList ⟨s.heap.objs.size,[s.heap.objs.size,p],[s.heap.objs.size],its.toArray.size,(λi v=>its.toArray[i]? =some v),(λi h=>h.IsListIter s.heap.objs.size p i/\h.IsList p its.toArray),(λi=>bs.getD i false),rfl,Walks.list (prog:=X.prog) (w:=X.w) (A:=X.A.in1) (I.ok.hd hc) _ p hne its.toArray,⟨⟨_,bD _ rfl,rfl,rfl⟩,pl.isList.push _⟩,SG (by simpa using rv),λh' tk hk=>?_⟩)
 have hl:=rv.length;rw[aQ] at hl;have e:its.toArray.size=bs.length:=by rw[bE];omega
 rw[e,Qh];exact⟨.bl _,H,I.kept λb o eb=>hk b o (by simpa using aU (aR eb)) (aS _ eb),rfl,q⟩
end
end L2
namespace L2
open PySem PySem.Spec PyProof.Rows PySem.Builtin PySem.Builtin.Str
noncomputable def fv(c:Nat):List Nat->List (List Nat)
 |[]=>[[]]
 |x::r=>if x=c then []::fv c r else match fv c r with
  |h::t=>(x::h)::t
  |[]=>[[x]]
noncomputable def gj(c:Nat):List (List Nat)->List Nat
 |[]=>[]
 |[p]=>p
 |p::r=>p++c::gj c r
theorem SK(c:Nat):∀l,fv c l≠[]
 |[]=>by simp[fv]
 |x::r=>by
  unfold fv;split
  ·simp
  ·split<;>simp
theorem oJ(c:Nat):∀(p:List Nat),c∉p->fv c p=[p]
 |[],_=>rfl
 |x::r,h=>by
  have h1:¬x=c:=λe=>h (by simp[e]);have h2:=oJ c r λe=>h (by simp[e]);unfold fv;rw[if_neg h1,h2]
theorem rA(c:Nat):∀(p r:List Nat),c∉p->fv c (p++c::r)=p::fv c r
 |[],r,_=>by
  show fv c (c::r)=_;unfold fv;rw[if_pos rfl];cases r<;>rfl
 |x::q,r,h=>by
  have h1:¬x=c:=λe=>h (by simp[e]);have h2:=rA c q r λe=>h (by simp[e]);show fv c (x::(q++c::r))=_;rw[fv,if_neg h1,h2]
theorem pf(c:Nat):∀(ps:List (List Nat)),ps≠[]->(∀p∈ps,c∉p)->fv c (gj c ps)=ps
 |[],h,_=>absurd rfl h
 |[p],_,h=>oJ c p (h p (by simp))
 |p::q::r,_,h=>by
  show fv c (p++c::gj c (q::r))=_;rw[rA c p _ (h p (by simp)),pf c (q::r) (by simp) λz hz=>h z (bM _ hz)]
theorem u9(c:Nat):∀ps:List Str,(Str.join (Tx [c]) ps).cps.toList=gj c (ps.map (·.cps.toList))
 |[]=>rfl
 |[p]=>rfl
 |p::q::r=>by
  have ih:=u9 c (q::r);show (p++Tx [c]++Str.join (Tx [c]) (q::r)).cps.toList=p.cps.toList++c::gj c ((q::r).map (·.cps.toList));rw[←ih];show ((p.cps++ #[c])++(Str.join (Tx [c]) (q::r)).cps).toList=_;simp
theorem Td(x y:Str)(h:Txt.split x y=[]):False:=by
 unfold Txt.split at h;split at h
 ·cases h
 ·split at h
  ·cases h
  ·have e:=congrArg List.length h;rw[length_partsBetween] at e;simp at e
theorem T4(l:List Nat)(c:Nat):(Txt.split (Tx l) (Tx [c])).map (·.cps.toList)=fv c l:=by
 have h1:=StrLaws.join_split (Tx l) (Tx [c]);have h2:=StrLaws.split_free (Tx l) c;have h3:=u9 c (Txt.split (Tx l) (Tx [c]));rw[h1] at h3;have e:gj c ((Txt.split (Tx l) (Tx [c])).map (·.cps.toList))=l:=by rw[←h3]
 rw[←pf c ((Txt.split (Tx l) (Tx [c])).map (·.cps.toList)) (λz=>Td _ _ (List.map_eq_nil_iff.mp z)) ?_,e];intro p hp;obtain⟨z,hz,rfl⟩:=bG.mp hp;exact h2 z hz
theorem Vc(l:List Nat)(c:Nat):Txt.split (Tx l) (Tx [c])=(fv c l).map Tx:=by
 rw[←T4,cW];have:∀ps:List Str,ps=ps.map ((λw:List Nat=>Tx w) ∘ λx=>x.cps.toList):=λps=>by
  induction ps with
  |nil=>rfl
  |cons a r ih=>rw[bT,←ih];simp
 exact this _
theorem yG:∀l:List (Str×Tok),Vals (l.map λp=>V.str p.1) (strValues l)
 |[]=>.nil
 |p::r=>.cons ⟨p.2,rfl⟩ (yG r)
section
variable{prog:Program}{w:World}{A:Around}{E:Value->Shared->Prop}{s:Shared}{x y:Str}{t u:Tok}{Q:Value->Shared->Prop}
theorem Ow(hy:(y.length==0)=false)(hsz:x.length+2<=sizeLine)
  (h:∀l k,l.map (·.1)=Txt.split x y->Q (.ref s.heap.objs.size) {s with heap:=s.heap.push {cls:=.type "list",data:=.seq (strValues l).toArray},toks:=k}):
  wpAny (model prog w) A (call (.builtin "str.split") [.str x t,.str y u]) Q E s:=by
 have hn:(partsBetween x (occurrences x y 0 x.length (x.length+1)) y.length).length<=sizeLine:=by
  have e1:=StrLaws.occ_length_le x y 0 x.length (x.length+1);rw[length_partsBetween];omega
 cases h1:(decide (x.length<y.length)||decide (strKind x<strKind y))
 ·cases hf:(occurrences x y 0 x.length (x.length+1)).isEmpty
  ·refine call_meets F.slot_str_split (typeIs_str _ _ _) F.entry_str_split (F.args_str_split_2 _ _) (meets_str_split_sep x y t u h1 hy hf ⋯ hn) ?_;show wants Q E _ {s with toks:=_,heap:=s.heap.push {cls:=.type "list",data:=.seq (strsFrom s.toks (partsBetween x (occurrences x y 0 x.length (x.length+1)) y.length)).toArray} };rw[strsFrom_eq];exact h (numbered s.toks _) _ ((numbered_texts _ _).trans ((if_neg (ne_true_of_eq_false h1)).trans (if_neg (ne_true_of_eq_false hf))).symm)
  ·exact call_meets F.slot_str_split (typeIs_str _ _ _) F.entry_str_split (F.args_str_split_2 _ _) (meets_str_split_not_found x y t u h1 hy hf)
    (h [(x,t)] s.toks ((if_neg (ne_true_of_eq_false h1)).trans (if_pos hf)).symm)
 ·exact call_meets F.slot_str_split (typeIs_str _ _ _) F.entry_str_split (F.args_str_split_2 _ _) (meets_str_split_cannot_occur x y t u h1)
   (h [(x,t)] s.toks (if_pos h1).symm)
end
theorem pC(c:Nat):∀l,(fv c l).length<=l.length+1
 |[]=>by simp[fv]
 |x::r=>by
  have ih:=pC c r;unfold fv;split
  ·simp;omega
  ·split
   ·rename_i e;rw[e] at ih;simp at ih ⊢;omega
   ·simp
section
variable{X:Cx}
def MM:V->List V->Hp->VK->Prop:=λx vs H Q=>∃(l:List Nat) (c:Nat),x=.str (Tx l)/\vs=[.str (Tx [c])]/\l.length+2<=sizeLine/\∀p,H p=none->Q (.ref p) (upd H p (.lst ((fv c l).map λq=>V.str (Tx q))))
theorem Pi:nV X "str.split" MM:=by
 intro pins s σ H x xs v us Q I rx rv h;obtain⟨l,c,rfl,rfl,hz,q⟩:=h;obtain⟨u,rfl,t',rfl⟩:=iO rv;obtain⟨t,rfl⟩:=rx;refine Ow (by rfl) (by rw[i6];exact hz) λps k e=>?_;have e2:ps.map (λp=>V.str p.1)=(fv c l).map λq=>V.str (Tx q):=by
  have:=congrArg (List.map V.str) e;rw[Vc,cW,cW] at this;exact this
 have hl:((fv c l).map λq=>V.str (Tx q)).length<=sizeLine:=by
  have:=pC c l;rw[aQ];omega
 refine⟨.ref s.heap.objs.size,upd H s.heap.objs.size (.lst ((fv c l).map λq=>V.str (Tx q))),I.laid (t':=k) (λb u e=>aS _ e) (aP _) ?_,rfl,q _ (I.hok.fresh (aP _))⟩;exact⟨hl,strValues ps,0,by rw[←e2];exact yG ps,bD _ rfl⟩
theorem oO{o e:Expr}{to te:TE}{apos cpos:Pos}(ho:E X o to)(he:E X e te)(hbase:attributeBase o "split" X.env (eval o X.env)=eval o X.env:=by rfl)
  (hfew:((backTo cpos (starEach [e] X.env)).all (λx=> !x.1)&&(backToKw cpos (keywordEach [] X.env)).all (λx=>x.1.isSome)&&decide (([e]:List Expr).length+([]:List Keyword).length+(if ([]:List Keyword).isEmpty then 0 else 1)<30))=true:=by rfl)
  (hline:(apos.endLine==cpos.line)=true:=by rfl) (hs:starEach [e] X.env=(false,eval e X.env)::starEach [] X.env:=by rfl) (hplain:(backTo cpos (starEach [] X.env)).any (·.1)=false:=by rfl):
  E X (.Call (.Attribute o "split" apos) [e] [] cpos) (mZ X.K "str" MM to (je te iU)):=
 ⟨ou PySem.F.plainAttrs_str PySem.F.slot_str_split PySem.F.type_str_split Pi ho.h (kK he.h k6 hs) hbase hfew hline hs hplain⟩
theorem ug:gF X (compareOp .In) (λx y H Q=>∃(c:Nat) (l:List Nat),x=.str (Tx [c])/\y=.str (Tx l)/\Q (.bl (decide (c∈l))) H):=by
 refine⟨λpins s σ H x y v u Q I rx ry h=>?_⟩;obtain⟨c,l,rfl,rfl,q⟩:=h;refine RD pins s σ H _ _ v u Q I rx ry ⟨(()),?_⟩;rw[show (!(occurrences (Tx l) (Tx [c]) 0 (Tx l).length 1).isEmpty)=decide (c∈(Tx l).cps.toList) from StrLaws.found_one (Tx l) c];exact q
theorem ye:ig X (.builtin "len") (λxs H Q=>∃l:List Nat,xs=[.str (Tx l)]/\l.length<=sizeLine/\Q (.int l.length) H):=by
 refine⟨λpins s σ H xs us Q I r h=>?_⟩;obtain⟨l,rfl,hz,q⟩:=h;refine ZU pins s σ H _ us Q I r ⟨Tx l,rfl,by rw[i6];exact hz,?_⟩;rw[i6];exact q
theorem ph:gF X (binaryOp .Add) (λx y H Q=>∃a b:List Nat,x=.str (Tx a)/\y=.str (Tx b)/\a.length+b.length<=sizeLine/\Q (.str (Tx (a++b))) H):=by
 refine⟨λpins s σ H x y v u Q I rx ry h=>?_⟩;obtain⟨a,b,rfl,rfl,hz,q⟩:=h;refine Sv pins s σ H _ _ v u Q I rx ry ⟨(()),by rw[i6,i6];exact hz,?_⟩;have e:Tx a++Tx b=Tx (a++b):=by show Str.mk _=Str.mk _;simp
 rw[e];exact q
theorem xX:oz X (λx y H Q=>∃(l:List Nat) (i:Int) (c:Nat),x=.str (Tx l)/\y=.int i/\l.length<=sizeLine/\hZ l i=some c/\Q (.str (Tx [c])) H):=by
 refine⟨λvalue slice pins s σ H x y v u Q I rx ry h hs=>?_⟩;obtain⟨l,i,c,rfl,rfl,hz,ha,q⟩:=h;exact Rg value slice pins s σ H _ _ v u Q I rx ry ⟨Tx l,i,c,rfl,rfl,by rw[i6];exact hz,by simpa using ha,q⟩ hs
end
end L2
namespace L2
open PySem PySem.Spec PyProof.Rows PySem.Builtin PySem.Builtin.Str
section
variable{X:Cx}{pins:List (Addr×Obj)}{σ:St}{H:Hp}{s:Shared}{h':Heap}
theorem Inv.turnT{ch:List Addr}{T:Addr}{o:HO}{t':Nat}(I:Inv X pins σ H s)(k:∀b u,b∉ch->s.heap.get? b=some u->h'.get? b=some u)(hch:∀b∈ch,jJ X pins H b)(hT:s.heap.objs.size<=T)(new:ObjOk X.prog X.w (upd H T o) h' T o):
  Inv X pins σ (upd H T o) {s with heap:=h',toks:=t'}:=by
 have hn:=I.hok.fresh hT;have nit:∀b u,H b=some u->b∉ch:=λb u e z=>by rw[(hch b z).1] at e;cases e
 refine I.step (g':=s.gens) (d':=s.drawn) (ch:=ch) (λb hb=>?_) (λb u _ _ hc e _=>k b u hc e) (λb u _ _ hc e _=>⟨u.slots,k b u hc e⟩) (λb u _ e n=>?_)
  (λb u hc e=>⟨u,k b u hc e⟩) (λb xs e=>by rw[fG (g6 e hn)];exact e) (λb u xs e=>by rw[fG (g6 e hn)];exact e) (λb ps e=>⟨#[],by rw[fG (g6 e hn),e];simp⟩) (λm hm=>?_) (λb u e=>?_) I.bare
 ·obtain⟨f0,f1,f2,f3,f4,f5⟩:=hch b hb;exact⟨f3,f1,f4,f5⟩
 ·rw[fG (aU (bJ (aR e) hT))];exact n
 ·obtain⟨ob,es,ep,ho,r⟩:=hm;exact⟨ob,es,ep,k _ ob (λz=>(hch _ z).2.1 rfl) ho,r⟩
 ·by_cases hb:b=T
  ·subst hb;rw[fk] at e;cases e;exact new
  ·rw[fG hb] at e;refine (I.hok b u e).stay (λc v hc q=>k c v ?_ q) (λc q=>by rw[fG (g6 q hn)];exact q) λc xs q=>by rw[fG (g6 q hn)];exact q
   rcases hc with z | z
   ·rw[z];exact nit b u e
   ·exact nit c _ z
theorem Inv.turnN{ch:List Addr}{t':Nat}(I:Inv X pins σ H s)(k:∀b u,b∉ch->s.heap.get? b=some u->h'.get? b=some u)(hch:∀b∈ch,jJ X pins H b):Inv X pins σ H {s with heap:=h',toks:=t'}:=by
 have nit:∀b u,H b=some u->b∉ch:=λb u e z=>by rw[(hch b z).1] at e;cases e
 refine I.step (g':=s.gens) (d':=s.drawn) (ch:=ch) (λb hb=>?_) (λb u _ _ hc e _=>k b u hc e) (λb u _ _ hc e _=>⟨u.slots,k b u hc e⟩) (λb u _ e n=>n)
  (λb u hc e=>⟨u,k b u hc e⟩) (λb xs e=>e) (λb u xs e=>e) (λb ps e=>⟨#[],by rw[e];simp⟩) (λm hm=>?_) (λb u e=>?_) I.bare
 ·obtain⟨f0,f1,f2,f3,f4,f5⟩:=hch b hb;exact⟨f3,f1,f4,f5⟩
 ·obtain⟨ob,es,ep,ho,r⟩:=hm;exact⟨ob,es,ep,k _ ob (λz=>(hch _ z).2.1 rfl) ho,r⟩
 ·refine (I.hok b u e).stay (λc v hc q=>k c v ?_ q) (λc q=>q) λc xs q=>q;rcases hc with z | z
  ·rw[z];exact nit b u e
  ·exact nit c _ z
end
noncomputable def mY(K:FG)(a:Addr):It:=
 ⟨λi H=>∃xs x,SqL K H a xs/\xs[i]? =some x,λi H v H'=>∃T,v=.ref T/\H T=none/\∀xs,SqL K H a xs->∃x,xs[i]? =some x/\H'=upd H T (.tup [.int i,x]),λi H=>∃xs,SqL K H a xs/\xs.length=i⟩
theorem Sg{P:Program}{w:World}{K:FG}{es:List Expr}{kk:Nat}{pos:Pos}(a e it:Addr)(hne:e≠it):iQ P w K (.Tuple es kk pos) (mY K a) [e,it] e (λi h=>(∃old,IsEnum h e it i old)/\h.IsListIter it a i) where
 mem:=by simp
 obj:=λi h st b hb=>by
  obtain⟨⟨old,he⟩,o,e1,c,d⟩:=st;rcases aT.mp hb with z | z
  ·subst z;exact⟨_,he,λv q=>by
    have q':Data.fields _=Data.cell v:=q;cases q'⟩
  ·have z:b=it:=by simpa using z
   subst z;exact⟨o,e1,λv q=>by rw[d] at q;cases q⟩
 keep:=λi h h' st k=>by
  obtain⟨⟨old,he⟩,hit⟩:=st;exact⟨⟨old,k e (by simp) _ he⟩,hit.at λo q=>k it (by simp) o q⟩
 item:=by
  intro X hP hw hK hc i pins s σ H E I hf st hg;subst hP hw hK;obtain⟨xs,x,hq,hx⟩:=hg;obtain⟨⟨old,he⟩,hit⟩:=st;obtain⟨its,rv,p,hz⟩:=I.list hq;obtain⟨u,hu,ru⟩:=rv.get hx;refine wpAny_pyNext_enum_item he hit p.isList (x:=u) (by simpa using hu) hne λh1 ho hit1 hT hsz hk=>?_;refine⟨(),wpAny_letOwnedTupleGo_enum ho λh2 he2 sb=>?_⟩;have ele:e<s.heap.objs.size:=aR he;have k2:∀b ob,b∉[e,it]->s.heap.get? b=some ob->h2.get? b=some ob:=λb ob hb q=>by
   have n1:b≠e:=λz=>hb (by simp[z]);have n2:b≠it:=λz=>hb (by simp[z]);exact (sb.2 b n1).trans (hk b ob n1 n2 q)
  have hTn:s.heap.objs.size≠e:=Nat.ne_of_gt ele;have hT2:h2.get? s.heap.objs.size=some {cls:=.type "tuple",data:=.seq #[.int i s.toks,u]}:=(sb.2 _ hTn).trans hT;have hn:=I.hok.fresh (aP s.heap.objs.size);have I2:Inv X pins σ (upd H s.heap.objs.size (.tup [.int i,x])) {s with heap:=h2,toks:=s.toks+1}:=I.turnT k2 hf (aP _) ⟨by show 2<=sizeLine;decide,[.int i s.toks,u],.cons ⟨()⟩ (.cons ru .nil),⟨_,hT2,rfl,()⟩⟩
  refine⟨.ref s.heap.objs.size,_,I2,rfl,⟨s.heap.objs.size,rfl,hn,λys hy=>⟨x,by rw[I.list_inj hy hq];exact hx,rfl⟩⟩,⟨⟨_,by simpa using he2⟩,hit1.at λo q=>(sb.2 it (Ne.symm hne)).trans q⟩,λb hb=>?_⟩;have hblt:b<s.heap.objs.size:=by
   rcases aT.mp hb with z | z
   ·rw[z];exact ele
   ·have z:b=it:=by simpa using z
    obtain⟨o,q,_⟩:=hit;rw[z];exact aR q
  rw[fG (aU hblt)];exact (hf b hb).1
 done:=by
  intro X hP hw hK hc i pins s σ H E I hf st hg;subst hP hw hK;obtain⟨xs,hq,hx⟩:=hg;obtain⟨⟨old,he⟩,hit⟩:=st;obtain⟨its,rv,p,hz⟩:=I.list hq;have hl:=rv.length;refine wpAny_pyNext_enum_end (I.ok.hd hc) he hit p.isList (by simp;omega) λh' hk=>⟨rfl,?_⟩;exact I.turnN (ch:=[e,it]) (t':=s.toks) (λb ob hb q=>hk b ob (λz=>hb (by simp[z])) q) hf
 self:=λ_ _ _ _ _ st h=>by
  obtain⟨⟨old,he⟩,_⟩:=st;exact wpAny_pyIter_enum he h
section
variable{X:Cx}{es:List Expr}{kk:Nat}{tpos:Pos}
def uu(K:FG)(tl:TE):TI:=λσ H R=>tl σ H λx H1=>∃a,x=.ref a/\(∃xs,SqL K H1 a xs)/\R (mY K a) H1
theorem OK:bootBuiltins "enumerate"=some (.type "enumerate"):=by decide +kernel
theorem iE{l:Expr}{tl:TE}{p pos:Pos}(hm:X.mg "enumerate"=none)(hl:E X l tl)(hg:Gl X "enumerate":=by rfl)(hs:starEach [l] X.env=[(false,eval l X.env)]:=by rfl):
  Il X (.Tuple es kk tpos) (.Call (.Name "enumerate" p) [l] [] pos) (uu X.K tl):=by
 refine⟨λpins s σ H R I h=>?_⟩;have hA:PA X [l] (je tl iU):=kK hl.h k6 hs;refine Call_ (nq I hg hm OK (PyProof.Rows.callWith_type1 (fJ (hA pos pins s σ H (λvs H1=>match vs with | [x]=>∃a,x=.ref a/\(∃xs,SqL X.K H1 a xs)/\R (mY X.K a) H1 | _=>False) I ?_) λus s1 ⟨vs,H1,I1,r1,q1⟩=>?_) hs rfl))
 ·exact h
 match vs,q1,r1 with
 |[x],q1,r1=>?_
 obtain⟨a,rfl,⟨xs,hq⟩,q⟩:=q1;obtain⟨u,rfl,rx⟩:=iO r1;cases rx;obtain⟨its,rv,pl,hz⟩:=I1.list hq;refine call_enumerate_list pl.isList λh' he hit hsz hk=>?_;refine wpAny_pyIter_enum he ?_;have I2:Inv X pins σ H1 {s1 with heap:=h'}:=I1.kept (t':=s1.toks) hk;have hne:s1.heap.objs.size+1≠s1.heap.objs.size:=Nat.ne_of_gt (cS _);refine⟨s1.heap.objs.size+1,[s1.heap.objs.size+1,s1.heap.objs.size],_,_,H1,rfl,I2,Sg a _ _ hne,⟨⟨_,he⟩,hit⟩,λb hb=>?_,q⟩
 have hb2:s1.heap.objs.size<=b:=by
  rcases aT.mp hb with z | z
  ·rw[z];exact cD _
  ·have z:b=s1.heap.objs.size:=by simpa using z
   rw[z];exact aP _
 exact I1.fpOk hb2 (I1.hok.fresh hb2)
end
theorem JD{K:FG}{a:Addr}{xs:List V}{g:TG}{tb:TS}{D:g8}{σ:St}{H:Hp}(Pv:Nat->St->Hp->Prop)(h0:Pv 0 σ H)(hl:∀i σ H,i<=xs.length->Pv i σ H->SqL K H a xs)
  (hs:∀i x σ H T,xs[i]? =some x->Pv i σ H->H T=none->g (.ref T) σ (upd H T (.tup [.int i,x])) λσ2 H2=>tb {D with nx:=Pv (i+1),ct:=Pv (i+1),bk:=D.nx} σ2 H2) (hd:∀σ H,Pv xs.length σ H->D.nx σ H):
  ∃W:Nat->Nat->St->Hp->Prop,(∃m,W 0 m σ H)/\∀i m σ H,W i m σ H->
   ((mY K a).stop i H/\D.nx σ H)∨((mY K a).go i H/\∃N:St->Hp->Prop,(∀σ' H',N σ' H'->∃m',m'<m/\W (i+1) m' σ' H')/\∀x H',(mY K a).yld i H x H'->g x σ H' λσ2 H2=>tb {D with nx:=N,ct:=N,bk:=D.nx} σ2 H2):=by
 refine⟨λi m σ H=>m=xs.length-i/\i<=xs.length/\Pv i σ H,⟨xs.length,by simp,a9 _,h0⟩,?_⟩;rintro i m σ H ⟨rfl,hi,p⟩;have hq:=hl i σ H hi p;by_cases hlt:i<xs.length
 ·refine .inr ⟨⟨xs,xs[i],hq,by simp[hlt]⟩,Pv (i+1),λσ' H' p'=>⟨xs.length-(i+1),⋯,rfl,hlt,p'⟩,λx H' y=>?_⟩;obtain⟨T,rfl,hT,hy⟩:=y;obtain⟨x,hx,rfl⟩:=hy xs hq;exact hs i x σ H T hx p hT
 ·have e:i=xs.length:=⋯;subst e;exact .inl ⟨⟨xs,hq,rfl⟩,hd σ H p⟩
noncomputable def num(m:Nat):List Nat:=(Nat.toDigits 10 m).map Char.toNat
section
variable{X:Cx}
theorem UN:ig X (.type "int") (λxs H Q=>∃l:List Nat,xs=[.str (Tx l)]/\PySem.NumText.AllDigits l/\l≠[]/\l.length<=640/\Q (.int ((PySem.NumText.digitsVal l:Nat):Int)) H):=by
 refine⟨λpins s σ H xs us Q I r h=>?_⟩;obtain⟨l,rfl,h1,h2,h3,q⟩:=h;obtain⟨u,rfl,t,rfl⟩:=iO r;refine PySem.W.KIN.call_text (PySem.intText_digits (x:=Tx l) (by simpa using h1) (by simpa using h2) (by rw[i6];omega)) (by rw[i6];exact h3) ?_;exact⟨.int _,H,I.tok _,⟨()⟩,by simpa using q⟩
theorem jk:ig X (.type "str") (λxs H Q=>∃n:Nat,xs=[.int n]/\n<10^500/\Q (.str (Tx (num n))) H):=by
 refine⟨λpins s σ H xs us Q I r h=>?_⟩;obtain⟨n,rfl,hn,q⟩:=h;refine WS pins s σ H _ us Q I r ⟨(n:Int),rfl,?_,?_⟩
 ·by_cases h0:n=0
  ·subst h0;decide
  ·have:n<2^1900:=bJ hn (by decide +kernel);have:=(Nat.log2_lt h0).mpr this;show (n:Int).natAbs.log2<1920;simp only[Int.natAbs_natCast];omega
 ·have e:PySem.Str.ofString (toString (n:Int))=Tx (num n):=by
   rw[←JL (PySem.Str.ofString (toString (n:Int)))];exact congrArg (λz=>Tx z) (PySem.W.KIN.signs_num n)
  show Q (.str (PySem.Str.ofString (toString (n:Int)))) H;rw[e];exact q
end
end L2
namespace L2
open PySem PySem.Spec PyProof.Rows PySem.Builtin PySem.Builtin.Str
theorem kh{b:Bool}{A B:Prop}(e:b=true)(h:A):if b=true then A else B:=by rw[if_pos e];exact h
theorem iP{b:Bool}{A B:Prop}(e:b=false)(h:B):if b=true then A else B:=by rw[if_neg (by rw[e];exact bI)];exact h
theorem FX{b:Bool}{A B:Prop}(h1:b=true->A)(h2:b=false->B):if b=true then A else B:=by
 cases b
 ·exact iP rfl (h2 rfl)
 ·exact kh rfl (h1 rfl)
theorem pI(a b:List Nat):decide (V.str (Tx a)=V.str (Tx b))=decide (a=b):=decide_eq_decide.mpr ⟨λh=>Tx_inj.mp (V.str.inj h),λh=>by rw[h]⟩
section
variable{X:Cx}{pos:Pos}
theorem gH{z:Str}{j}(l:List Nat)(h:z=Tx l:=by decide +kernel):E X (.Constant (.str z) j pos) (tC (.str (Tx l))):=by
 subst h;exact⟨Vs⟩
end
noncomputable def k8(c:Nat):Bool:=decide (48<=c)&&decide (c<=57)
noncomputable def rQ:List Nat:=[48,49,50,51,52,53,54,55,56,57]
theorem ZW:∀c:Nat,c<58->decide (c∈rQ)=k8 c:=by decide
theorem SX(c:Nat):decide (c∈rQ)=k8 c:=by
 rcases bU c 58 with h | h
 ·exact ZW c h
 ·have n:∀x∈rQ,x<58:=by decide
  unfold k8;rw[eV (λz=>absurd (n c z) (Nat.not_lt.mpr h)),eV (show ¬c<=57 from Nat.not_le.mpr h),Bool.and_false]
noncomputable def mw(l:List Nat):Bool:= !decide (l=[])&&l.all k8
noncomputable def jh(l:List Nat):Bool:=mw l&&(decide (l=[48])|| !decide (l.headD 0=48))
noncomputable def dv(l:List Nat):Int:=((PySem.NumText.digitsVal l:Nat):Int)
noncomputable def gx(lo hi:Int)(l:List Nat):Option Int:=if jh l=true then (if lo<=dv l/\dv l<=hi then some (dv l) else none) else none
noncomputable def oV:Option Int->V
 |none=>.non
 |some n=>.int n
noncomputable def mm(es:List (Option Int)):Option (Int×Int):=match es with
 |[some a]=>some (a,a)
 |[some a,some b]=>if b<a then none else some (a,b)
 |_=>none
noncomputable def iN(lo hi:Int)(l:List Nat):Option (Int×Int):=if l=[42] then some (lo,hi) else mm ((fv 45 l).map (gx lo hi))
@[irreducible] noncomputable def iw(a b s:Int):List Int:=(List.range (Builtin.Range.rangeSize a (b+1) s).toNat).map λi:Nat=>a+(i:Int)*s
theorem qy(a b s:Int):iw a b s=(List.range (Builtin.Range.rangeSize a (b+1) s).toNat).map λi:Nat=>a+(i:Int)*s:=by rw[iw]
noncomputable def j9(a b s:Int):Int:=f7 (iw a b s)
noncomputable def jO(lo hi:Int)(r s:List Nat):Option Int:=
 match iN lo hi r,gx 1 99 s with
 |some (a,b),some st=>some (j9 a (if jh r=true then hi else b) st)
 |_,_=>none
noncomputable def gA(lo hi:Int)(l:List Nat):Option Int:=
 match fv 47 l with
 |[r,s]=>jO lo hi r s
 |_=>match iN lo hi l with
  |some (a,b)=>some (j9 a b 1)
  |none=>none
theorem Yr{l:List Nat}(h:jh l=true):PySem.NumText.AllDigits l/\l≠[]:=by
 unfold jh mw at h;rw[bL,bL] at h;refine⟨λc hc=>?_,λe=>?_⟩
 ·have:=cG.mp h.1.2 c hc;unfold k8 at this;rw[bL] at this;exact⟨eQ this.1,eQ this.2⟩
 ·rw[eS e] at h;exact absurd h.1.1 (by decide)
theorem rf{a b s:Int}(hs:0<s):Builtin.Range.rangeSize a (b+1) s=if a<=b then (b-a) / s+1 else 0:=by
 unfold Builtin.Range.rangeSize;rw[if_pos hs];by_cases c:a<=b
 ·rw[if_pos c,if_pos ⋯,show b+1-a-1=b-a by omega]
 ·rw[if_neg c,if_neg ⋯]
theorem vE{a b s z:Int}(hs:0<s):z∈iw a b s↔a<=z/\z<=b/\(z-a)%s=0:=by
 rw[qy,bG,rf hs];refine⟨λ⟨i,hi,e⟩=>?_,λ⟨h1,h2,h3⟩=>?_⟩
 ·subst e;by_cases c:a<=b
  ·rw[if_pos c,bW] at hi;have hq:(i:Int)<=(b-a) / s:=by
    have:0<=(b-a) / s:=Int.ediv_nonneg ⋯ ⋯;omega
   have hm:(i:Int)*s<=(b-a) / s*s:=Int.mul_le_mul_of_nonneg_right hq ⋯;have hd:(b-a) / s*s<=b-a:=Int.ediv_mul_le _ ⋯;have h0:0<=(i:Int)*s:=Int.mul_nonneg ⋯ ⋯;refine⟨⋯,⋯,?_⟩;rw[show a+(i:Int)*s-a=(i:Int)*s by omega];exact Int.mul_emod_left _ _
  ·rw[if_neg c,bW] at hi;exact absurd hi (by simp)
 ·rw[if_pos ⋯];have hd:s*((z-a) / s)+(z-a)%s=z-a:=Int.mul_ediv_add_emod _ _;rw[h3,Int.add_zero] at hd;have h0:0<=(z-a) / s:=Int.ediv_nonneg ⋯ ⋯;have hle:(z-a) / s<=(b-a) / s:=Int.ediv_le_ediv hs ⋯;refine⟨((z-a) / s).toNat,bW.mpr ⋯,?_⟩;rw[bV h0,Int.mul_comm];omega
theorem G4{a b s:Int}(h0:0<=a)(h1:b<=1000)(hs:0<s):(Builtin.Range.rangeSize a (b+1) s).toNat<=1001/\Builtin.Range.rangeSize a (b+1) s=((Builtin.Range.rangeSize a (b+1) s).toNat:Int):=by
 have hz:=NK (a:=a) (b:=b+1) hs;refine⟨?_,⋯⟩;rw[rf hs];split
 ·have:(b-a) / s<=b-a:=Int.ediv_le_self _ ⋯;omega
 ·decide
theorem Rc{a b s:Int}(h0:0<=a)(ha:a<=1000)(h1: -1<=b)(hb:b<=1000)(hs:0<s)(hs2:s<=1000):Builtin.Range.small a (b+1) s=true:=by
 have hl:=G4 h0 hb hs;have hz:=NK (a:=a) (b:=b+1) hs;unfold Builtin.Range.small;simp only[Builtin.Range.rangeFitsLong,bL,dO,eU,beq_iff_eq];refine⟨⟨⟨⟨?_,?_⟩,?_⟩,?_⟩,.inr ?_⟩
 ·exact⟨⋯,⋯⟩
 ·exact⟨⋯,⋯⟩
 ·exact⟨⋯,⋯⟩
 ·exact⟨⋯,⋯⟩
 ·rw[if_pos hs];simp only[bL,eU];exact⟨⋯,⋯⟩
end L2
namespace L2
open PySem PySem.Spec PyProof.Rows PySem.Builtin PySem.Builtin.Str
theorem Oi{lo hi a:Int}{l:List Nat}(h:gx lo hi l=some a):lo<=a/\a<=hi:=by
 unfold gx at h;split at h
 ·split at h
  ·rename_i c;have:=bH h;omega
  ·cases h
 ·cases h
theorem yx{lo hi a b:Int}{l:List Nat}(hle:lo<=hi)(h:iN lo hi l=some (a,b)):(lo<=a/\a<=hi)/\lo<=b/\b<=hi:=by
 unfold iN at h;split at h
 ·cases h;omega
 ·have key:∀es:List (Option Int),(∀e∈es,∀x,e=some x->lo<=x/\x<=hi)->mm es=some (a,b)->(lo<=a/\a<=hi)/\lo<=b/\b<=hi:=by
   intro es hb h
   match es,hb,h with
   |[some x],hb,h=>
    have h:some (x,x)=some (a,b):=h;cases h;have:=hb _ (by simp) a rfl;exact⟨this,this⟩
   |[some x,some y],hb,h=>
    have h:(if y<x then none else some (x,y))=some (a,b):=h;split at h
    ·cases h
    ·cases h;exact⟨hb (some a) (by simp) a rfl,hb (some b) (by simp) b rfl⟩
   |[],_,h=>cases h
   |[none],_,h=>cases h
   |[none,y],_,h=>cases h
   |[some x,none],_,h=>cases h
   |x::y::u::r,_,h=>cases x<;>cases y<;>cases h
  refine key _ (λe he x hx=>?_) h;obtain⟨w,_,rfl⟩:=bG.mp he;exact Oi hx
noncomputable def gm(ms:List Int):Int:=ms.foldl (λa m=>Builtin.bitOr a m) 0
theorem pk(ms:List Int)(m:Int):gm (ms++[m])=Builtin.bitOr (gm ms) m:=by unfold gm;rw[List.foldl_append];rfl
theorem xO:∀(ms:List Int) (a:Int),0<=a->(∀m∈ms,0<=m)->0<=ms.foldl (λa m=>Builtin.bitOr a m) a/\∀i,tb (ms.foldl (λa m=>Builtin.bitOr a m) a) i=(tb a i||ms.any λm=>tb m i)
 |[],a,h,_=>⟨h,λi=>by simp⟩
 |m::ms,a,h,hm=>by
  have hp:=hm m (by simp);obtain⟨h1,h2⟩:=xO ms (Builtin.bitOr a m) (mM h hp) λz hz=>hm z (by simp[hz]);refine⟨h1,λi=>?_⟩;show tb (ms.foldl _ (Builtin.bitOr a m)) i=_;rw[h2 i,oi h hp,bX,Bool.or_assoc]
theorem ki{ms:List Int}(h:∀m∈ms,0<=m):0<=gm ms:=(xO ms 0 (aZ 0) h).1
theorem jN{ms:List Int}(h:∀m∈ms,0<=m)(i:Nat):tb (gm ms) i=ms.any λm=>tb m i:=by
 have:=(xO ms 0 (aZ 0) h).2 i;rw[ju,Bool.false_or] at this;exact this
noncomputable def l7(lo hi:Int)(l:List Nat):List Int:=(fv 44 l).map λw=>(gA lo hi w).getD 0
def K2(lo hi:Int)(l:List Nat):Prop:=(fv 44 l).length<=40/\∀w∈fv 44 l,(gA lo hi w).isSome=true
theorem rD:∀n:Nat,n<100->jh (num n)=true/\dv (num n)=(n:Int)/\((num n).all λc=>k8 c)=true/\(num n).length<=2:=by decide +kernel
theorem kS{n c:Nat}(h:n<100)(hc:k8 c=false):c∉num n:=λhm=>by
 have:=cG.mp (rD n h).2.2.1 c hm;rw[hc] at this;cases this
theorem VY{n:Nat}(h:n<100):num n≠[42]:=λe=>by
 have:=kS h (c:=42) (by decide);rw[e] at this;exact this (by simp)
theorem qB{n:Nat}{lo hi:Int}(h:n<100)(h1:lo<=n)(h2:(n:Int)<=hi):gx lo hi (num n)=some (n:Int):=by
 obtain⟨a,b,_⟩:=rD n h;unfold gx;rw[if_pos a,b,if_pos ⟨h1,h2⟩]
theorem yh{n:Nat}{lo hi:Int}(h:n<100)(h1:lo<=n)(h2:(n:Int)<=hi):iN lo hi (num n)=some ((n:Int),(n:Int)):=by
 unfold iN;rw[if_neg (VY h),oJ 45 _ (kS h (by decide))];show mm [gx lo hi (num n)]=_;rw[qB h h1 h2];rfl
theorem P1{n m:Nat}{lo hi:Int}(h:n<100)(h':m<100)(h1:lo<=n)(h2:n<=m)(h3:(m:Int)<=hi):iN lo hi (num n++45::num m)=some ((n:Int),(m:Int)):=by
 unfold iN;rw[if_neg (λe=>by (have:45∈num n++45::num m:=(by simp));rw[e] at this;simp at this),rA 45 _ _ (kS h (by decide)),oJ 45 _ (kS h' (by decide))];show mm [gx lo hi (num n),gx lo hi (num m)]=_;rw[qB h h1 ⋯,qB h' ⋯ h3];show (if (m:Int)<n then none else some ((n:Int),(m:Int)))=_;rw[if_neg ⋯]
theorem D9{lo hi:Int}:iN lo hi [42]=some (lo,hi):=by unfold iN;rw[if_pos rfl]
theorem xh{lo hi a b:Int}{r:List Nat}(hf:47∉r)(h:iN lo hi r=some (a,b)):gA lo hi r=some (j9 a b 1):=by
 unfold gA;rw[oJ 47 r hf,h]
theorem Ic{lo hi a b:Int}{r:List Nat}{s:Nat}(hf:47∉r)(h:iN lo hi r=some (a,b))(hs:s<100)(hs1:1<=s):gA lo hi (r++47::num s)=some (j9 a (if jh r=true then hi else b) s):=by
 unfold gA;rw[rA 47 r _ hf,oJ 47 _ (kS hs (by decide))];show jO lo hi r (num s)=_;unfold jO;rw[h,qB hs ⋯ ⋯]
end L2
namespace L2
open PySem PySem.Spec PyProof.Rows PySem.Builtin PySem.Builtin.Str
theorem El:∀{ws:List (List Nat)} {vs:List Value},Vals (ws.map λq=>V.str (Tx q)) vs->StrsAre vs (ws.map Tx)
 |[],[],_=>.nil
 |[],_::_,h=>nomatch h
 |_::_,[],h=>nomatch h
 |w::r,v::vs,.cons h t=>by
  obtain⟨k,rfl⟩:=h;exact .cons (Tx w) k (El t)
theorem Rz(c:Nat)(ws:List (List Nat)):Txt.join (Tx [c]) (ws.map Tx)=Tx (gj c ws):=by
 have e1:Txt.join (Tx [c]) (ws.map Tx)=Str.join (Tx [c]) (ws.map Tx):=StrLaws.glued_eq_join _ _;have e2:=u9 c (ws.map Tx);rw[cW] at e2;have e3:ws.map ((λx:Str=>x.cps.toList) ∘ Tx)=ws:=by
  have:∀l:List (List Nat),l.map ((λx:Str=>x.cps.toList) ∘ Tx)=l:=λl=>by
   induction l with
   |nil=>rfl
   |cons a r ih=>rw[bT,ih];simp
  exact this ws
 rw[e3] at e2;rw[e1,←JL (Str.join (Tx [c]) (ws.map Tx)),e2]
theorem zj(c:Nat):∀ws:List (List Nat),(ws.map (·.length)).sum+ws.length=(gj c ws).length+(if ws=[] then 0 else 1)
 |[]=>rfl
 |[p]=>by simp[gj]
 |p::q::r=>by
  have ih:=zj c (q::r);rw[if_neg (by simp)] at ih ⊢;simp only[bT,List.sum_cons,bN,gj,aV] at ih ⊢;omega
section
variable{X:Cx}
def Bo(K:FG):V->List V->Hp->VK->Prop:=λx vs H Q=>∃(c:Nat) (p:Addr) (ws:List (List Nat)),x=.str (Tx [c])/\vs=[.ref p]/\SqL K H p (ws.map λq=>V.str (Tx q))/\(gj c ws).length<=1000000/\Q (.str (Tx (gj c ws))) H
theorem Qm:nV X "str.join" (Bo X.K):=by
 intro pins s σ H x xs v us Q I rx rv h;obtain⟨c,p,ws,rfl,rfl,hq,hz,q⟩:=h;obtain⟨u,rfl,r1⟩:=iO rv;cases r1;obtain⟨t,rfl⟩:=rx;obtain⟨its,rv2,pl,hz2⟩:=I.list hq;have hj:=zj c ws;have hw:((ws.map Tx).map (·.length)).sum+(ws.map Tx).length<=1048576:=by
  rw[cW,aQ];have e:ws.map ((λx:Str=>x.length) ∘ Tx)=ws.map (·.length):=List.map_congr_left λa _=>i6 a;rw[e];split at hj<;>omega
 refine join_listW pl.isList (ys:=ws.map Tx) (by simpa using El rv2) (by rw[i6];show 1<=16;decide) hw λt' k=>?_;refine⟨.str (Tx (gj c ws)),H,I.kept (t':=k) λ_ _ e=>e,⟨t',by rw[Rz]⟩,q⟩
theorem qQ{o e:Expr}{to te:TE}{apos cpos:Pos}(ho:E X o to)(he:E X e te)(hbase:attributeBase o "join" X.env (eval o X.env)=eval o X.env:=by rfl)
  (hfew:((backTo cpos (starEach [e] X.env)).all (λx=> !x.1)&&(backToKw cpos (keywordEach [] X.env)).all (λx=>x.1.isSome)&&decide (([e]:List Expr).length+([]:List Keyword).length+(if ([]:List Keyword).isEmpty then 0 else 1)<30))=true:=by rfl)
  (hline:(apos.endLine==cpos.line)=true:=by rfl) (hs:starEach [e] X.env=(false,eval e X.env)::starEach [] X.env:=by rfl) (hplain:(backTo cpos (starEach [] X.env)).any (·.1)=false:=by rfl):
  E X (.Call (.Attribute o "join" apos) [e] [] cpos) (mZ X.K "str" (Bo X.K) to (je te iU)):=
 ⟨ou PySem.F.plainAttrs_str PySem.F.slot_str_join PySem.F.type_str_join Qm ho.h (kK he.h k6 hs) hbase hfew hline hs hplain⟩
theorem tY:gF X (binaryOp .Add) (λx y H Q=>∃(a b:Addr) (xs ys:List V),x=.ref a/\y=.ref b/\SqL X.K H a xs/\SqL X.K H b ys/\xs.length+ys.length<=sizeLine/\∀p,H p=none->Q (.ref p) (upd H p (.lst (xs++ys)))):=by
 refine⟨λpins s σ H x y v u Q I rx ry h=>?_⟩;obtain⟨a,b,xs,ys,rfl,rfl,ha,hb,hz,q⟩:=h;cases rx;cases ry;obtain⟨i1,r1,p1,z1⟩:=I.list ha;obtain⟨i2,r2,p2,z2⟩:=I.list hb;obtain⟨⟨cls,dd,data,sl⟩,ho,hc,n,hd⟩:=p1.isList;obtain⟨⟨cls2,dd2,data2,sl2⟩,ho2,hc2,n2,hd2⟩:=p2.isList;simp only at hc hd hc2 hd2;subst hc hd hc2 hd2;have l1:=r1.length;have l2:=r2.length;refine concat_meets ⟨_,ho,rfl⟩ ⟨_,ho2,rfl⟩ noFill_list_add seq_list_add PySem.F.slot_list_add PySem.F.entry_list_add (PySem.F.args_list_add_2 _ _) (list_addW a b _ _ n n2 dd dd2 sl sl2 (by simp only[bE];omega)) ⟨ho,ho2,?_⟩
 refine⟨.ref s.heap.objs.size,upd H s.heap.objs.size (.lst (xs++ys)),I.laid (t':=s.toks) (λb u e=>aS _ e) (aP _) ?_,rfl,q _ (I.hok.fresh (aP _))⟩;exact⟨by rw[aV];exact hz,i1++i2,0,r1.append r2,by simpa using bD _ rfl⟩
end
def w6(J:It)(k:Nat)(js:List Nat)(g:TG)(σ:St)(tt:TT)(te:TE)(Q:VK)(H1:Hp):Prop:=∀D,H1 D=none->∃W:Nat->Nat->Hp->Prop,(∃m,W 0 m (upd H1 D (.lst [])))/\∀i m H2,W i m H2->
 (J.stop i H2/\Q (.ref D) H2)∨(J.go i H2/\∀v H3,J.yld i H2 v H3->∀τ:St,τ.length=k->g v (τ++gT js σ) H3 λσ2 H3'=>(∃τ':St,τ'.length=k/\σ2=τ'++gT js σ)/\tt σ2 H3' λb H4=>if b=true then
  te σ2 H4 λy H5=>∃ys,H5 D=some (.lst ys)/\ys.length<sizeLine/\∃m',m'<m/\W (i+1) m' (upd H5 D (.lst (ys++[y])))
  else ∃m',m'<m/\W (i+1) m' H4)
def yI(wi:TI)(k:Nat)(js:List Nat)(g:TG)(tt:TT)(te:TE):TE:=λσ H Q=>wi σ H λJ H1=>w6 J k js g σ tt te Q H1
section
variable{X:Cx}{elt iter tg:Expr}{xs:List Str}{y:Str}{py pos spos:Pos}{ifs:List Expr}{scope:Scope}{cl:List (Str×Addr)}{N':List Str}{js:List Nat}{tt:TT}{te:TE}{g:TG}{wi:TI}
theorem Pz{pins:List (Addr×Obj)}{σ:St}{H:Hp}{s s4:Shared}{fp:List Addr}{C:Addr}{m4:Str->Option Value}(hcl:jC X scope cl)(hN:js.map (λj=>X.N[j]?)=N'.map some)
  (hk:N'.all (λy=>(X.env.kindOf y==some .cell)||(X.env.kindOf y==some .free))=true) (hf:N'.all (λy=>scope.names.lookup y==some .free)=true)
  (I:Inv X pins σ H s) (hfp:∀b∈fp,jJ X pins H b/\b<s.heap.objs.size) (hC:C=s.heap.objs.size) (ho:s4.os=s.os) (hg:s4.gens=s.gens) (hkeep:∀b o,s.heap.get? b=some o->s4.heap.get? b=some o) (hn:s4.heap.Ns C m4):
  Inv (hW X (xs++N') scope cl C fp pins s H) [] (List.replicate xs.length none++gT js σ) H s4:=by
 have hne:∀b o,s.heap.get? b=some o->b≠C:=λb o e=>by rw[hC];exact aU (aR e)
 refine⟨⟨I.ok.mod,hcl.kind,I.ok.glob,I.ok.blt,Nat.le_of_eq hC.symm,λy z c h1 h2=>I.ok.inj y z c (hcl.sub y c h1) (hcl.sub z c h2),λy hy=>hcl.has y (Xg (λz=>hcl.nocell _ (PySem.mem_of_lookup z) rfl) (by rw[←xc];exact hy)),λy c h _=>(nomatch h),I.ok.hd,I.ok.frames,.inl rfl,λb hb=>⟨?_,λy c e=>(hfp b hb).1.2.2.2.2.1 y c (hcl.sub y c e)⟩,
  I.bs,bK I.ok.bsz I.sz,λb o e hb=>?_,λb hb hz=>?_,I.stack,I.stkFree⟩,ho,by rw[hg];exact I.bare,Un.kept hkeep,⟨m4,hn,λi y v h1 h2 h3=>?_⟩,λy c e=>?_,?_,λy c e=>I.freeC y c (hcl.sub y c e),λp hp=>?_,I.hok.kept hkeep,?_⟩
 ·rw[hC];exact aU (hfp b hb).2
 ·rcases (hfp b hb).1.2.2.2.1 with z | z
  ·exact I.ok.noex b o e z
  ·exact absurd (bJ (aR e) (bK I.ok.bsz z)) (cL _)
 ·rcases aT.mp (I.stkSub b hz) with z | z
  ·exact (hfp b hb).1.2.1 z
  ·exact (hfp b hb).1.2.2.1 z
 ·by_cases hi:i<xs.length
  ·rw[cY (by rw[dF];exact hi),List.getElem?_replicate,if_pos hi] at h2;exact nomatch h2
  ·obtain⟨j0,rfl⟩:∃j0,i=xs.length+j0:=⟨i-xs.length,⋯⟩;have h1:N'[j0]? =some y:=by
    have h1:(xs++N')[xs.length+j0]? =some y:=h1;rw[cT (dP _ _),Nat.add_sub_cancel_left] at h1;exact h1
   have h2:(gT js σ)[j0]? =some (some v):=by rw[cT (by rw[dF];exact dP _ _),dF,Nat.add_sub_cancel_left] at h2;exact h2
   generalize j0=i at h1 h2;have hy:y∈N':=bA h1;have q:(js.map (λj=>X.N[j]?))[i]? =some (some y):=by rw[hN,aX,h1];rfl
   rw[aX] at q;cases ej:js[i]? with
   |none=>rw[ej] at q;cases q
   |some j=>
    rw[ej] at q;have q:X.N[j]? =some y:=bH q;unfold gT at h2;rw[aX,ej] at h2;have h2:(σ[j]?).getD none=some v:=bH h2;have h2:σ[j]? =some (some v):=by
     cases e:σ[j]? with
     |none=>rw[e] at h2;cases h2
     |some o=>rw[e] at h2;exact congrArg some h2
    have kk:=cG.mp hk y hy;have kk:X.env.kindOf y=some .cell∨X.env.kindOf y=some .free:=by simpa using kk
    have ff:=cG.mp hf y hy;have ff:scope.names.lookup y=some .free:=by simpa using ff
    obtain⟨m,_,hl⟩:=I.loc;obtain⟨u,r,l⟩:=hl j y v q h2 (by rcases kk with z | z;exact .inr (.inl z);exact .inr (.inr z))
    refine⟨u,r,.inr ⟨YY ff,?_⟩⟩;obtain⟨c,hc⟩:=hcl.has y ff;rcases l with ⟨z,_⟩ | ⟨_,c',e',cell⟩
    ·rcases kk with k | k<;>(rw[k] at z;cases z)
    ·rw[hcl.sub y c hc] at e';cases e';exact⟨c,hc,cell.keeps hkeep⟩
 ·obtain⟨v,q⟩:=I.cell y c (hcl.sub y c e);exact⟨v,q.keeps hkeep⟩
 ·show H C=none;rw[hC];exact I.hok.fresh (aP _)
 ·have hp:p∈X.pn++pins:=by
   have hp:p∈(X.pn++pins)++[]:=hp
   rwa [cC] at hp
  obtain⟨e,n,ne,nf,d⟩:=I.pin p hp;refine⟨hkeep _ _ e,n,hne _ _ e,λz=>?_,d⟩;rcases aT.mp (I.stkSub p.1 z) with z | z
  ·exact ne z
  ·exact nf z
 ·show (List.replicate xs.length none++gT js σ).length=(xs++N').length;rw[aV,aV,dF];have q:=congrArg List.length hN;rw[aQ,aQ] at q;unfold gT;rw[aQ,q]
theorem Qw{pins:List (Addr×Obj)}{σ σ':St}{H H':Hp}{s s':Shared}{fp:List Addr}{C:Addr}(I:Inv X pins σ H s)(hfp:∀b∈fp,jJ X pins H b)(J:Inv (hW X (xs++N') scope cl C fp pins s H) [] σ' H' s'):Inv X pins σ H' s':=
 I.call' (ch:=fp) J.os J.base J.hok J.bare λb hb=>⟨(hfp b hb).2.2.2.1,(hfp b hb).2.1,(hfp b hb).2.2.2.2.1,(hfp b hb).2.2.2.2.2⟩
theorem xp{pins:List (Addr×Obj)}{σ:St}{H:Hp}{s:Shared}{Q:VK}{RR:Value->Addr->Result->Shared->Prop}{J:It}{fp:List Addr}{it:Addr}{tn:Nat->Heap->Prop}
  (hcl:jC X scope cl) (hnd:(xs++N').Nodup) (hN:js.map (λj=>X.N[j]?)=N'.map some)
  (hk:N'.all (λy=>(X.env.kindOf y==some .cell)||(X.env.kindOf y==some .free))=true) (hf:N'.all (λy=>scope.names.lookup y==some .free)=true) (hc:X.calm=true)
  (hg:∀(C:Addr) (ex:List Addr) (pins:List (Addr×Obj)) (s:Shared) (H:Hp),PG (hW X (xs++N') scope cl C ex pins s H) tg g)
  (ht:∀(C:Addr) (ex:List Addr) (pins:List (Addr×Obj)) (s:Shared) (H:Hp),PF (hW X (xs++N') scope cl C ex pins s H) ifs tt)
  (he:∀(C:Addr) (ex:List Addr) (pins:List (Addr×Obj)) (s:Shared) (H:Hp),PE (hW X (xs++N') scope cl C ex pins s H) elt te)
  (I:Inv X pins σ H s) (T:iQ X.prog X.w X.K (tg) J fp it tn) (st:tn 0 s.heap) (hfp:∀b∈fp,jJ X pins H b)
  (q:∀D,H D=none->∃W:Nat->Nat->Hp->Prop,(∃m,W 0 m (upd H D (.lst [])))/\∀i m H2,W i m H2->
   (J.stop i H2/\Q (.ref D) H2)∨(J.go i H2/\∀v H3,J.yld i H2 v H3->∀τ:St,τ.length=xs.length->g v (τ++gT js σ) H3 λσ2 H3'=>(∃τ':St,τ'.length=xs.length/\σ2=τ'++gT js σ)/\tt σ2 H3' λb H4=>if b=true then
    te σ2 H4 λy H5=>∃ys,H5 D=some (.lst ys)/\ys.length<sizeLine/\∃m',m'<m/\W (i+1) m' (upd H5 D (.lst (ys++[y])))
    else ∃m',m'<m/\W (i+1) m' H4))
  (hRR:∀(D C:Addr) (s':Shared) (H':Hp) (m:Str->Option Value),Inv X pins σ H' s'->H' C=none->C≠X.env.locals->X.s₀.heap.objs.size<=C->(∀y c,X.env.cells.lookup y=some c->c≠C)->(∀p∈X.pn++pins,p.1≠C)->s'.heap.Ns C m->Q (.ref D) H'->RR (.ref D) C (.ok .next) s'):
  wpAny (model X.prog X.w) X.A (newList []) (λacc s₃=>wpAny (model X.prog X.w) X.A (newFunctionEnv scope X.env.globals cl [] X.env.qual none .none (some X.env)) (λcenv s₄=>
   codeAny (model X.prog X.w) X.A (.compStart (.ListComp elt [⟨tg,iter,ifs,0⟩] scope pos) 0 (.ref it) acc {cenv with scope:=relabel scope X.env}) (RR acc cenv.locals) s₄) X.xe s₃) X.xe s:=by
 refine eC ?_;have hD:H s.heap.objs.size=none:=I.hok.fresh (aP _);have I3:Inv X pins σ (upd H s.heap.objs.size (.lst [])) {s with heap:=s.heap.push {cls:=.type "list",dict:=none,data:=.seq ([]:List Value).toArray} }:=I.lnew (its:=[]) (t':=s.toks) .nil (a9 _);have hfp3:∀b∈fp,jJ X pins (upd H s.heap.objs.size (.lst [])) b/\b<(s.heap.push {cls:=.type "list",dict:=none,data:=.seq ([]:List Value).toArray}).objs.size:=λb hb=>by
  obtain⟨o,ho,_⟩:=T.obj 0 _ st b hb;have hlt:=aR ho;obtain⟨f0,f1⟩:=hfp b hb;exact⟨⟨by rw[fG (aU hlt)];exact f0,f1⟩,by rw[cN];exact b9 hlt⟩
 have st3:tn 0 (s.heap.push {cls:=.type "list",dict:=none,data:=.seq ([]:List Value).toArray}):=T.keep _ _ _ st λb _ o e=>aS _ e;obtain⟨W,⟨m0,w0⟩,turn⟩:=q s.heap.objs.size hD;generalize hs3:({s with heap:=s.heap.push {cls:=.type "list",dict:=none,data:=.seq ([]:List Value).toArray} }:Shared)=s3 at I3 ⊢;have hh3:s.heap.push {cls:=.type "list",dict:=none,data:=.seq ([]:List Value).toArray}=s3.heap:=by rw[←hs3]
 rw[hh3] at hfp3 st3;generalize s.heap.objs.size=D at I3 hfp3 w0 turn hD ⊢;generalize upd H D (.lst [])=H3 at I3 hfp3 w0;refine wpAny_newFunctionEnv hcl.nocell (by intro y hy;simp at hy) (λh₁ hns₁ hsb₁=>?_) hcl.kind;have hkeep:∀b o,s3.heap.get? b=some o->h₁.get? b=some o:=λb o e=>hsb₁.extBut b o (aU (aR e)) (aS _ e);have J4:Inv (hW X (xs++N') scope cl s3.heap.objs.size fp pins s3 H3) [] (List.replicate xs.length none++gT js σ) H3 {s3 with heap:=h₁,toks:=s3.toks+([]:List (Str×Value)).length}:=
  Pz hcl hN hk hf I3 hfp3 rfl rfl rfl hkeep hns₁
 have st4:tn 0 h₁:=T.keep _ _ _ st3 λb _ o e=>hkeep b o e;have cell':∀{s':Shared} {σ':St} {H':Hp},Inv (hW X (xs++N') scope cl s3.heap.objs.size fp pins s3 H3) [] σ' H' s'->Q (.ref D) H'->RR (.ref D) s3.heap.objs.size (.ok .next) s':=λ{s' σ' H'} J hq=>by
  obtain⟨m,hn,_⟩:=J.loc;refine hRR D _ s' H' m (Qw I3 (λb hb=>(hfp3 b hb).1) J) J.free (Nat.ne_of_gt I3.lt) I3.sz (λy c e z=>?_) (λp hp z=>?_) hn hq
  ·obtain⟨v,k⟩:=I3.cell y c e;exact absurd k.lt (by rw[z];exact cL _)
  ·exact absurd (aR (I3.pin p hp).1) (by rw[z];exact cL _)
 have fpX:∀{H':Hp},(∀b∈fp,H' b=none)->∀b∈fp,jJ (hW X (xs++N') scope cl s3.heap.objs.size fp pins s3 H3) [] H' b:=λ{H'} hn b hb=>by
  obtain⟨⟨f0,f1,f2,f3,f4,f5⟩,flt⟩:=hfp3 b hb;refine⟨hn b hb,aU flt,λz=>?_,.inl hb,λy c e=>f4 y c (hcl.sub y c e),λp hp=>?_⟩
  ·rcases aT.mp (I3.stkSub b z) with z | z
   ·exact f1 z
   ·exact f2 z
  ·have hp:p∈(X.pn++pins)++[]:=hp;rw[cC] at hp;exact f5 p hp
 have loop:∀s₄:Shared,s₄={s3 with heap:=h₁,toks:=s3.toks+([]:List (Str×Value)).length}->
   codeAny (model X.prog X.w) X.A (.compLoop (.ListComp elt [⟨tg,iter,ifs,0⟩] scope pos) 0 (.ref it) (.ref D) (compEnvC scope cl s3.heap.objs.size X.env)) (RR (.ref D) s3.heap.objs.size) s₄:=by
  rintro s₄ rfl;refine Sq rfl (λn s'=>∃i τ H',τ.length=xs.length/\Inv (hW X (xs++N') scope cl s3.heap.objs.size fp pins s3 H3) [] (τ++gT js σ) H' s'/\tn i s'.heap/\(∀b∈fp,H' b=none)/\W i n H') ?_ m0 ⟨0,List.replicate xs.length none,H3,dF,J4,st4,λb hb=>(hfp3 b hb).1.1,w0⟩;rintro n s5 ⟨i,τ,H5,hτ,J5,st5,fr5,w5⟩;rcases turn i n H5 w5 with ⟨stop,qn⟩ | ⟨go,step⟩
  ·refine eG (T.done (hW X (xs++N') scope cl s3.heap.objs.size fp pins s3 H3) rfl rfl rfl hc i [] s5 _ H5 (λ_ _=>False) J5 (fpX fr5) st5 stop) (λr s6 ⟨hr,J6⟩=>?_) λ_ _ z=>z.elim;subst hr;exact cell' J6 qn
  ·refine eG (T.item (hW X (xs++N') scope cl s3.heap.objs.size fp pins s3 H3) rfl rfl rfl hc i [] s5 _ H5 (λ_ _=>False) J5 (fpX fr5) st5 go) (λr s6 ⟨u,hr,h6⟩=>?_) λ_ _ z=>z.elim;subst hr;refine eG h6 (λ_ s6' h6'=>?_) λ_ _ z=>z.elim;obtain⟨v,H6,J6,r6,y6,st6,fr6⟩:=h6';clear h6;have J6':=J6.pinned (fpX fr6) (T.obj _ _ st6);show wpAny _ _ (assign tg _ u) _ _ _;refine eG (hg _ _ _ _ _ _ s6' _ H6 v u _ J6' r6 (step v H6 y6 τ hτ)) (λ_ s7 h7=>?_) λ_ _ z=>z.elim
   obtain⟨_,H7,J7,⟨τ',hτ',rfl⟩,q7⟩:=h7;have again:∀{σ8:St} {H8:Hp} {s8:Shared},Inv (hW X (xs++N') scope cl s3.heap.objs.size fp pins s3 H3) ([]++p6 fp s6'.heap) σ8 H8 s8->tn (i+1) s8.heap/\∀b∈fp,H8 b=none:=λ{σ8 H8 s8} J8=>by
    refine⟨T.keep _ _ _ st6 λb hb o e=>(J8.pin (b,o) (bR _ (bR _ (rK hb e)))).1,λb hb=>?_⟩;obtain⟨o,e,d⟩:=T.obj _ _ st6 b hb;exact (J8.pin (b,o) (bR _ (bR _ (rK hb e)))).2.1
   refine eG (ht _ _ _ _ _ _ s7 _ H7 _ J7 q7) (λok s8 ⟨H8,J8,q8⟩=>?_) λ_ _ z=>z.elim;cases ok with
   |false=>
    obtain⟨m',hm,w8⟩:=(show ∃m',m'<n/\W (i+1) m' H8 from q8);obtain⟨a1,a2⟩:=again J8;exact⟨m',hm,i+1,τ',H8,hτ',J8.unpinned,a1,a2,w8⟩
   |true=>
    refine eG (he _ _ _ _ _ _ s8 _ H8 _ J8 q8) (λy s9 ⟨z,H9,J9,r9,ys,hys,hlen,m',hm,w9⟩=>?_) λ_ _ z=>z.elim;refine eG (KF (X:=hW X (xs++N') scope cl s3.heap.objs.size fp pins s3 H3) _ s9 _ H9 (.ref D) [z] (.ref D) [y] (λ_ H10=>H10=upd H9 D (.lst (ys++[z]))) J9 rfl (.cons r9 .nil) ⟨D,ys,z,rfl,rfl,hys,hlen,rfl⟩) (λ_ s10 ⟨_,H10,J10,_,e10⟩=>?_) λ_ _ z=>z.elim;subst e10;obtain⟨a1,a2⟩:=again J10;exact⟨m',hm,i+1,τ',_,hτ',J10.unpinned,a1,a2,w9⟩
 exact codeAny_compStart_list (loop _ rfl) (T.self _ 0 _ _ _ st4 (loop _ rfl))
theorem Va(hcl:jC X scope cl)(hnd:(xs++N').Nodup)(hN:js.map (λj=>X.N[j]?)=N'.map some)
  (hk:N'.all (λy=>(X.env.kindOf y==some .cell)||(X.env.kindOf y==some .free))=true) (hf:N'.all (λy=>scope.names.lookup y==some .free)=true) (hc:X.calm=true)
  (hi:PI X (tg) iter wi)
  (hg:∀(C:Addr) (ex:List Addr) (pins:List (Addr×Obj)) (s:Shared) (H:Hp),PG (hW X (xs++N') scope cl C ex pins s H) tg g)
  (ht:∀(C:Addr) (ex:List Addr) (pins:List (Addr×Obj)) (s:Shared) (H:Hp),PF (hW X (xs++N') scope cl C ex pins s H) ifs tt)
  (he:∀(C:Addr) (ex:List Addr) (pins:List (Addr×Obj)) (s:Shared) (H:Hp),PE (hW X (xs++N') scope cl C ex pins s H) elt te)
  (hs:∀x,foldedSetIterable iter X.env x=pure x:=by intro _;rfl):
  PE X (.ListComp elt [⟨tg,iter,ifs,0⟩] scope pos) (yI wi xs.length js g tt te):=by
 intro pins s σ H Q I h;rw[eval_ListComp];refine wpAny_comprehension_free (use:=none) rfl hs hcl.is hcl.kind hcl.names (fJ (hi pins s σ H _ I h) λxv s₁ h₁=>fJ h₁ λitv s₂ h₂=>?_);obtain⟨it,fp,tn,J,H2,rfl,I2,T,st,hfp,q⟩:=h₂;refine xp (RR:=λacc C=>compPost (model X.prog X.w) X.A X.xe none (EP X pins σ Q) acc C) hcl hnd hN hk hf hc hg ht he I2 T st hfp q ?_;intro D C s' H' m I' hC0 hCL hCs hCc hCp hn hq
 refine⟨m,hn,λh' sb=>⟨.ref D,H',?_,rfl,hq⟩⟩;exact I'.turned (t':=s'.toks) (λb o hb e=>(sb.2 b hb).trans e) hC0 hCL (.inr hCs) hCc hCp
theorem PK(xs N':List Str)(js:List Nat)(hi:Il X (tg) iter wi)
  (hg:∀(cl:List (Str×Addr)) (C:Addr) (ex:List Addr) (pins:List (Addr×Obj)) (s:Shared) (H:Hp),Gt (hW X (xs++N') scope cl C ex pins s H) tg g)
  (ht:∀(cl:List (Str×Addr)) (C:Addr) (ex:List Addr) (pins:List (Addr×Obj)) (s:Shared) (H:Hp),Fs (hW X (xs++N') scope cl C ex pins s H) ifs tt)
  (he:∀(cl:List (Str×Addr)) (C:Addr) (ex:List Addr) (pins:List (Addr×Obj)) (s:Shared) (H:Hp),E (hW X (xs++N') scope cl C ex pins s H) elt te)
  (hcl:∃cl,jC X scope cl:=by exact wD rfl rfl rfl rfl) (hnd:(xs++N').Nodup:=by decide +kernel) (hN:js.map (λj=>X.N[j]?)=N'.map some:=by rfl)
  (hk:N'.all (λy=>(X.env.kindOf y==some .cell)||(X.env.kindOf y==some .free))=true:=by rfl) (hf:N'.all (λy=>scope.names.lookup y==some .free)=true:=by rfl) (hc:X.calm=true:=by rfl)
  (hs:∀x,foldedSetIterable iter X.env x=pure x:=by intro _;rfl):E X (.ListComp elt [⟨tg,iter,ifs,0⟩] scope pos) (yI wi xs.length js g tt te):=by
 obtain⟨cl,hcl⟩:=hcl;exact⟨Va hcl hnd hN hk hf hc hi.h (λC ex pins s H=>(hg cl C ex pins s H).h) (λC ex pins s H=>(ht cl C ex pins s H).h) (λC ex pins s H=>(he cl C ex pins s H).h) hs⟩
variable{σ:St}{Q:VK}{H1:Hp}
end
theorem mJ{X:Cx}{pos:Pos}{K:FG}{es:List Expr}{k n:Nat}{t:jr}(h:oj X es t)(hK:X.K=K:=by rfl)(hc:X.calm=true:=by rfl)(hn:(assignEach es X.env).length=n:=by rfl)(hst:(assignEach es X.env).findIdx? (·.1)=none:=by rfl):Gt X (.Tuple es k pos) (qY K n t):=by
 subst hK;exact VU h hc hn hst
end L2
namespace L2
open PySem PySem.Spec PyProof.Rows PySem.SeqAt
section
variable{X:Cx}
theorem iV{K:FG}{tg e:Expr}{te:TE}(hl:E X e te)(hK:X.K=K:=by rfl):Il X tg e (uG K te):=by
 subst hK;exact iL hl
variable{M:Model}{A:Around}{E:Value->Shared->Prop}{s:Shared}{f:Obj->Prop}{B:Heap}{env:Env}{outer l:List Env}{L e:Addr}{fl:Value}{Q:Unit->Shared->Prop}
end
theorem ObjOk.at{P:Program}{w:World}{H:Hp}{h:Heap}{a:Addr}{o:HO}(x:ObjOk P w H h a o):∃ob,h.get? a=some ob:=by
 induction o with
 |lst xs=>obtain⟨_,_,_,_,e⟩:=x;exact⟨_,e⟩
 |tup xs=>obtain⟨_,_,_,ob,e,_⟩:=x;exact⟨_,e⟩
 |dK kvs=>obtain⟨_,_,_,_,ob,_,_,e,_⟩:=x;exact⟨_,e⟩
 |dT kvs=>obtain⟨_,_,_,_,ob,_,_,e,_⟩:=x;exact⟨_,e⟩
 |set S n=>obtain⟨ob,_,_,_,e,_⟩:=x;exact⟨_,e⟩
 |ins C dx fs=>obtain⟨_,_,_,e,_⟩:=x;exact⟨_,e⟩
 |own y=>exact x
 |xd fs=>obtain⟨_,⟨ob,_,_,e,_⟩,_⟩:=x;exact⟨_,e⟩
 |rng lo hi=>obtain⟨_,_,_,e⟩:=x;exact⟨_,e⟩
 |frz ob u ih=>exact⟨_,x.1⟩
 |tbl ps=>exact⟨_,x⟩
 |met f y=>exact⟨_,x⟩
 |ext φ=>exact x.2.1
def Ex(C:Addr)(d:Option Addr)(b:Bool)(o:Obj):Prop:=o.cls=.ref C/\o.dict=d/\∃vs,o.data=.fields vs/\(b=true->vs[2]? =some .none)
noncomputable def wc(C:Addr):Value:=.int C 0
noncomputable def cv(C:Addr):Bool->Value
 |true=>.ref C
 |false=>wc C
def SH(g h:Heap)(H:Hp)(a C:Addr)(d:Option Addr)(b:Bool):Prop:=
 H a=none/\g.get? a=none/\∃(o:Obj) (vs:Array Value) (T:Addr) (oT:Obj) (ts:Array Value),(h.get? a=some o/\o.data=.fields vs/\vs[1]? =some (.ref T)/\Ex C d b o)/\
  (h.get? T=some oT/\oT.data=.fields ts/\ts[3]? =some .none)/\(H T=none/\g.get? T=none)/\T≠a
def QE(P:Program)(w:World):kN:=λouter H s E e s'=>
 ∃a C d b H',e=.ref a/\s'.os=s.os/\AllBare s'.gens/\Un (jI outer) [] H H' s.heap s'.heap/\HOk P w H' s'.heap/\SH s.heap s'.heap H' a C d b/\E (cv C b) d H'
noncomputable abbrev Nh:List Value:=[.type "ValueError",.type "Exception",.type "BaseException",.type "object"]
structure Xc(K:FG)(mg:Str->Option Value)(x:Str)(C:Addr):Prop where
 m:mg x=some (.ref C)
 n:PySem.W.nsIn K mainGlobals x=some (some (.ref C))
 q:PySem.W.excIn K C Nh "ValueError.__new__"=true
theorem Mod.top{K:FG}{mg:Str->Option Value}{base:Heap}(m:Mod K mg base)(p:Program):∃loose mb,PySem.W.TopRead p loose mg mb base:=by
 obtain⟨mb,b1,b2⟩:=m.blt;obtain⟨o,es,ep,ho,hd,hk,hf⟩:=id m.glob;refine⟨es.toList.filterMap λe=>match e.key with | .str y _=>some y | _=>none,mb,m.glob,b1,m.nolimit,b2,λx _ hx _ _ _=>?_⟩
 rw[←hf];have none_:es.find? (λe=>e.key.isStr x)=none:=by
  rw[Array.find?_eq_none];intro e he hs;obtain⟨y,t,ek⟩:=hk e he;refine hx (List.mem_filterMap.mpr ⟨e,by simpa using he,?_⟩);rw[ek] at hs ⊢;have:y=x:=by simpa [Value.isStr] using hs
  rw[this]
 show (es.find? λe=>e.key.isStr x).map (·.val)=none;rw[none_];rfl
theorem Xc.own{K:FG}{mg:Str->Option Value}{base:Heap}{x:Str}{C:Addr}(c:Xc K mg x C)(m:Mod K mg base)(p:Program):OwnCls x C Nh "ValueError.__new__" mg base:=by
 obtain⟨loose,mb,T⟩:=m.top p;exact PySem.W.own_of_in m.kin T c.n c.q
def XP(X:Cx)(pins:List (Addr×Obj))(σ:St)(E:XK)(e:Value)(s':Shared):Prop:=∃s1 H1,Inv X pins σ H1 s1/\QE X.prog X.w X.stack H1 s1 E e s'
noncomputable abbrev TX:=St->Hp->VK->XK->Prop
noncomputable abbrev TB:=g8->St->Hp->XK->Prop
noncomputable def xo(a C:Addr)(d:Option Addr)(b:Bool):HO:=.ext λh=>∃o,h.get? a=some o/\Ex C d b o
def AtC(a C:Addr)(h:Heap):Prop:=∃o vs,h.get? a=some o/\o.cls=.ref C/\o.data=.fields vs
theorem AtC.ty{M:Model}{a C:Addr}{h:Heap}(x:AtC a C h):PySem.W.Looks M h (typeOf (.ref a)) (.ref C):=by
 obtain⟨o,vs,h1,h2,_⟩:=x;exact h2▸(PySem.W.Looks.ld h1).andThen .now
section
open PySem.W
variable{prog:Program}{w:World}{A:Around}{E:Value->Shared->Prop}{s:Shared}{K:FG}{a C:Addr}
open Builtin Builtin.ObjectAttr Builtin.Getset_descriptor in
open Builtin Builtin.ObjectAttr in
variable{X:Cx}{body suite:List Stmt}{b0:Stmt}{tb:TB}{th:Addr->TS}{cx:Str}{np hpos pos:Pos}{CF:Addr}
variable{e:Addr}{d:Option Addr}
variable{env:Env}
end
noncomputable def Kd.wh:Kd->Bool
 |.int=>true
 |_=>false
theorem KindV.same{K:FG}{H H':Hp}{v:V}{k:Kd}(h:KindV K H v k)(s:Same H H'):KindV K H' v k:=by
 cases v with
 |ref a=>
  rcases h with ⟨e,xs,h⟩ | ⟨e,xs,h⟩ | ⟨e,xs,h⟩
  ·exact .inl ⟨e,xs,s.seq h⟩
  ·refine .inr (.inl ⟨e,xs,?_⟩);rcases h with (h | ⟨o,h⟩) | h
   ·exact .inl (.inl (s _ _ h))
   ·exact .inl (.inr ⟨o,s _ _ h⟩)
   ·exact .inr h
  ·exact .inr (.inr ⟨e,xs,s _ _ h⟩)
 |int i=>exact h
 |bl b=>exact h
 |str x=>exact h
 |non=>exact h
 |byt b=>exact h
 |flt b=>exact h
 |ty n=>exact h
noncomputable def i7(l:List Nat)(lo hi:Option Int):List Nat:=(l.drop (HT.sIx l.length 0 lo)).take (HT.sIx l.length l.length hi-HT.sIx l.length 0 lo)
theorem Ds(v:Option Int)(n d:Nat):(match v with | none=>(d:Int) | some i=>max 0 (min (if i<0 then i+(n:Int) else i) (n:Int)))=((HT.sIx n d v:Nat):Int):=by
 cases v with
 |none=>rfl
 |some i=>
  show max 0 (min (if i<0 then i+(n:Int) else i) (n:Int))=(((if i<0 then (i+(n:Int)).toNat else min i.toNat n):Nat):Int);by_cases h:i<0
  ·rw[if_pos h,if_pos h];omega
  ·rw[if_neg h,if_neg h];omega
theorem MX(lo hi:Option Int)(n:Nat):Builtin.Str.strSliceIndices lo hi 1 n=sliceRange ((HT.sIx n 0 lo:Nat):Int) ((HT.sIx n n hi:Nat):Int) 1:=by
 unfold Builtin.Str.strSliceIndices;simp only[show ((1:Int)>0)=True from by simp,if_true];rw[←Ds lo n 0,←Ds hi n n];cases lo<;>cases hi<;>rfl
theorem zo(a b:Nat):sliceRange (a:Int) (b:Int) 1=(List.range (b-a)).map λk=>a+k:=by
 rcases bU a b with c | c
 ·have up:(a:Int)<b:=⋯;have many:(((b:Int)-a+1-1) / 1).toNat=b-a:=by rw[Int.ediv_one];omega
  have e:∀k:Nat,((a:Int)+1*(k:Int)).toNat=a+k:=λk=>by omega
  simp only[sliceRange,gt_iff_lt,Int.one_pos,if_true,up,many,e]
 ·have no:¬((a:Int)<b):=⋯;have z:b-a=0:=⋯;simp only[sliceRange,gt_iff_lt,Int.one_pos,if_true,no,if_false,z,List.range_zero,List.map_nil];rfl
theorem Zb(l:List Nat)(n a:Nat):((List.range n).map λk=>a+k).filterMap (λi=>(Tx l).cps[i]?)=(l.drop a).take n:=by
 rw[List.filterMap_map];induction n with
 |zero=>rw[List.take_zero];rfl
 |succ n ih=>
  have one:[n].filterMap ((λi=>(Tx l).cps[i]?) ∘ λk=>a+k)=(l[a+n]?).toList:=by
   show List.filterMap _ [n]=_;cases e:l[a+n]? <;>simp[e]
  rw[dN,dY,ih,one,cB,List.getElem?_drop]
theorem Zg(l:List Nat)(lo hi:Option Int):(Builtin.Str.strSliceIndices lo hi 1 l.length).filterMap (λi=>(Tx l).cps[i]?)=i7 l lo hi:=by
 rw[MX,zo,Zb];rfl
theorem Za(l:List Nat)(lo hi:Option Int)(h:(Builtin.Str.strSliceIndices lo hi 1 l.length).length=l.length):i7 l lo hi=l:=by
 rw[MX,zo,aQ,bY] at h;have h1:=HT.sIx_le l.length l.length (aP _) hi;have e1:HT.sIx l.length 0 lo=0∨l.length=0:=⋯;unfold i7;rcases e1 with e | e
 ·rw[e];have:HT.sIx l.length l.length hi=l.length:=⋯;rw[this];simp
 ·have:l=[]:=dQ e;subst this;simp
theorem qP(l:List Nat)(lo hi:Option Int):(i7 l lo hi).length<=l.length:=by
 unfold i7;rw[cE,cU];omega
section
variable{X:Cx}
def xV:V->Option Int->Option Int->Hp->VK->Prop:=λx lo hi H Q=>∃l:List Nat,x=.str (Tx l)/\l.length<=sizeLine/\Q (.str (Tx (i7 l lo hi))) H
theorem wn:oK X xV:=by
 refine⟨λpins s σ H x v vl vu lo hi sl Q I rx hs pl pu h=>?_⟩;obtain⟨l,rfl,hz,q⟩:=h;obtain⟨t,rfl⟩:=rx;refine⟨"str",_,PySem.F.slot_str_getitem.lookup,typeIs_str _ _ _,?_⟩;obtain⟨o,ho,hc,hd⟩:=hs;have fU:∀(a b:Option (Int×Tok)),o.data=.fields #[partValue a,partValue b,.none]->a.map (·.1)=lo->b.map (·.1)=hi->wpAny (model X.prog X.w) X.A (getItem (.str (Tx l) t) (.ref sl)) (EP X pins σ Q) X.xe s:=λa b hd ea eb=>by
  refine wpAny_getItem_str_slice (l:=a) (u:=b) (st:=none) ⟨o,ho,hc,hd⟩ rfl ?_;have ep:slicePicked (Tx l) a b none=Builtin.Str.strSliceIndices lo hi 1 l.length:=by unfold slicePicked;rw[ea,eb,i6];rfl
  unfold sliceMade;rw[ep];split
  ·next hw=>
   have hw2:(Builtin.Str.strSliceIndices lo hi 1 l.length).length=l.length:=by
    have:=(Bool.and_eq_true_iff.mp hw).2;rw[i6] at this;exact beq_iff_eq.mp this
   show EP X pins σ Q _ s;rw[Za l lo hi hw2] at q;exact⟨.str (Tx l),H,I,⟨t,rfl⟩,q⟩
  ·rw[Zg];exact⟨by rw[i6];exact bK (qP l lo hi) hz,⟨.str (Tx (i7 l lo hi)),H,I.tok _,⟨()⟩,q⟩⟩
 cases pl with
 |none=>
  cases pu with
  |none=>exact fU none none hd rfl rfl
  |int j tj=>exact fU none (some (j,tj)) hd rfl rfl
 |int i ti=>
  cases pu with
  |none=>exact fU (some (i,ti)) none hd rfl rfl
  |int j tj=>exact fU (some (i,ti)) (some (j,tj)) hd rfl rfl
theorem FI(m:Nat):num m≠[]:=λe=>Nat.toDigits_ne_nil (List.map_eq_nil_iff.mp e)
variable{prog:Program}{w:World}{A:Around}{E:Value->Shared->Prop}{s:Shared}{I:Addr}{fp wr:List Addr}{G:Array GenState->Array GenState->Prop}{n:Nat}{P:Nat->Value->Prop}{St:Nat->Shared->Prop}
variable{o e:Expr}{to te:TE}{p rpos apos cpos:Pos}
end
theorem uC{n:Nat}(h:n<10):num n=[48+n]:=by
 have:∀n:Nat,n<10->num n=[48+n]:=by decide +kernel
 exact this n h
theorem yH{n:Nat}(h:10<=n):num n=num (n / 10)++[48+n%10]:=by
 have hm:n%10<10:=Nat.mod_lt n (by decide);have t:Nat.toDigits 10 (n / 10)++Nat.toDigits 10 (n%10)=Nat.toDigits 10 (10*(n / 10)+n%10):=Nat.toDigits_append_toDigits (by decide) ⋯ hm;rw[Nat.div_add_mod] at t;unfold num;rw[←t,aY];have:=uC hm;unfold num at this;rw[this]
theorem Wq(k:Nat):∀n:Nat,(num n).length<=k+1↔n<10^(k+1):=by
 induction k with
 |zero=>
  intro n;by_cases h:n<10
  ·rw[uC h];simp;omega
  ·rw[yH ⋯,aV];have:(num (n / 10)).length≠0:=λe=>FI _ (dQ e);have e:(10:Nat)^(0+1)=10:=rfl;rw[e];simp only[bN,List.length_nil];omega
 |succ k ih=>
  intro n;have h2:10^(k+1+1)=10*10^(k+1):=by rw[Nat.pow_succ,Nat.mul_comm]
  have h0:0<10^(k+1):=Nat.pow_pos (by decide);by_cases h:n<10
  ·rw[uC h];simp;omega
  ·rw[yH ⋯,aV];have:=ih (n / 10);simp only[bN,List.length_nil];omega
theorem tU(c:Nat)(l:List Nat):i7 (c::l) (some 1) none=l:=by
 unfold i7 HT.sIx;simp
theorem kO{X:Cx}{e:Expr}{t u:TE}(h:E X e t)(h':E X e u):E X e (λσ H Q=>t σ H Q∨u σ H Q):=
 ⟨λpins s σ H Q I z=>z.elim (λz=>h.h pins s σ H Q I z) λz=>h'.h pins s σ H Q I z⟩
section
variable{κ:Type}[DecidableEq κ]
noncomputable def kQ(kvs:List (κ×V))(k:κ):Option V:=(kvs.find? λkv=>decide (kv.1=k)).map (·.2)
noncomputable def qF(kvs:List (κ×V))(k:κ)(v:V):List (κ×V):=
 if (kvs.any λkv=>decide (kv.1=k))=true then kvs.map (λkv=>if kv.1=k then (kv.1,v) else kv) else kvs++[(k,v)]
theorem Ii{p:κ×V}{r:List (κ×V)}{k:κ}(e:p.1=k):kQ (p::r) k=some p.2:=by simp[kQ,dR,e]
theorem L7{p:κ×V}{r:List (κ×V)}{k:κ}(e:¬p.1=k):kQ (p::r) k=kQ r k:=by simp[kQ,dR,e]
theorem KV.val{kvs:List (κ×V)}{vs:List (κ×Value)}(r:KV kvs vs)(k:κ):RelO (kQ kvs k) (valueAt vs k):=by
 unfold KV at r;induction r with
 |nil=>exact True.intro
 |@cons p q ps qs h t ih=>
  obtain⟨h1,h2⟩:=h;by_cases e:p.1=k
  ·have e':q.1=k:=h1.symm.trans e;have b:valueAt (q::qs) k=some q.2:=by simp[valueAt,dR,e']
   rw[Ii e,b];exact h2
  ·have e':¬q.1=k:=λz=>e (h1.trans z);have b:valueAt (q::qs) k=valueAt qs k:=by simp[valueAt,dR,e']
   rw[L7 e,b];exact ih
theorem KV.any{kvs:List (κ×V)}{vs:List (κ×Value)}(r:KV kvs vs)(k:κ):(kvs.any λkv=>decide (kv.1=k))=vs.any λkv=>decide (kv.1=k):=by
 unfold KV at r;induction r with
 |nil=>rfl
 |cons h t ih=>rw[bX,bX,ih,h.1]
theorem KV.length{kvs:List (κ×V)}{vs:List (κ×Value)}(r:KV kvs vs):kvs.length=vs.length:=Paired.length r
end
theorem Pq{P:Program}{w:World}{k:gi}{u:Value}(r:RelV (kV k) u):(mQ P w).is k u=true:=by
 cases k with
 |inl i=>obtain⟨t,e⟩:=(show ∃t,u=Value.int i t from r);subst e;exact Py P w i t
 |inr x=>obtain⟨t,e⟩:=(show ∃t,u=Value.str x t from r);subst e;exact Sb P w x t
abbrev KT(H:Hp):List (List gi×V)->List (List gi×Addr×Value)->Prop:=Paired λp q=>p.1=q.1/\TupK H q.2.1 p.1/\RelV p.2 q.2.2
theorem KT.val{H:Hp}{kvs:List (List gi×V)}{xs:List (List gi×Addr×Value)}(r:KT H kvs xs)(k:List gi):RelO (kQ kvs k) ((atKey xs k).map (·.2)):=by
 induction r with
 |nil=>exact True.intro
 |@cons p q ps qs h t ih=>
  obtain⟨h1,_,h2⟩:=h;by_cases e:p.1=k
  ·have e':q.1=k:=h1.symm.trans e;have b:atKey (q::qs) k=some q.2:=by simp[atKey,dR,e']
   rw[Ii e,b];exact h2
  ·have e':¬q.1=k:=λz=>e (h1.trans z);have b:atKey (q::qs) k=atKey qs k:=by simp[atKey,dR,e']
   rw[L7 e,b];exact ih
theorem KT.keeps{H H':Hp}{kvs:List (List gi×V)}{xs:List (List gi×Addr×Value)}(r:KT H kvs xs)(ht:∀b ys,H b=some (.tup ys)->H' b=some (.tup ys)):KT H' kvs xs:=
 Paired.mapP r λ_ _ z=>⟨z.1,z.2.1.keeps ht,z.2.2⟩
def DGet(H:Hp)(a:Addr)(y:V)(r:Option V):Prop:=
 (∃kvs k,Rd H a (.dK kvs)/\y=kV k/\r=kQ kvs k)∨∃kvs k b,Rd H a (.dT kvs)/\y=.ref b/\TupK H b k/\r=kQ kvs k
def DPut(H:Hp)(a:Addr)(y v:V)(H':Hp):Prop:=
 (∃kvs k,H a=some (.dK kvs)/\y=kV k/\kvs.length<sizeLine/\H'=upd H a (.dK (qF kvs k v)))∨
 ∃kvs k b,H a=some (.dT kvs)/\y=.ref b/\TupK H b k/\kvs.length<sizeLine/\H'=upd H a (.dT (qF kvs k v))
theorem DGet.k{H:Hp}{a:Addr}{kvs:List (gi×V)}{k:gi}(e:H a=some (.dK kvs)):DGet H a (kV k) (kQ kvs k):=.inl ⟨kvs,k,.inl e,rfl,rfl⟩
theorem DGet.t{H:Hp}{a b:Addr}{kvs:List (List gi×V)}{k:List gi}(e:H a=some (.dT kvs))(eb:TupK H b k):DGet H a (.ref b) (kQ kvs k):=.inr ⟨kvs,k,b,.inl e,rfl,eb,rfl⟩
theorem DPut.k{H:Hp}{a:Addr}{kvs:List (gi×V)}{k:gi}{v:V}(e:H a=some (.dK kvs))(hl:kvs.length<sizeLine):DPut H a (kV k) v (upd H a (.dK (qF kvs k v))):=.inl ⟨kvs,k,e,rfl,hl,rfl⟩
theorem DPut.t{H:Hp}{a b:Addr}{kvs:List (List gi×V)}{k:List gi}{v:V}(e:H a=some (.dT kvs))(eb:TupK H b k)(hl:kvs.length<sizeLine):
  DPut H a (.ref b) v (upd H a (.dT (qF kvs k v))):=.inr ⟨kvs,k,b,e,rfl,eb,hl,rfl⟩
def FA(i:Expr):Prop:=∀ov iv,subscripted i false ov iv=operate [ov,iv] (getItem ov iv)
theorem Vh{prog:Program}{w:World}{A:Around}{E:Value->Shared->Prop}{s:Shared}{env:Env}{value slice:Expr}{pos:Pos}{T id:String}{Q:Value->Shared->Prop}
  (hl:typeLookup (.type T) "__getitem__"=pure (some (.builtin id))) (hs:FA slice)
  (h:wpAny (model prog w) A (eval value env) (λo s₁=>wpAny (model prog w) A (eval slice env) (λi s₂=>s₂.TypeIs o T/\wpAny (model prog w) A (getItem o i) Q E s₂) E s₁) E s):
  wpAny (model prog w) A (eval (.Subscript value slice pos) env) Q E s:=by
 refine Subscript_ (eG h (λo s₁ h₁=>eG h₁ (λi s₂ h₂=>?_) λ_ _ x=>x) λ_ _ x=>x);obtain⟨hT,h₂⟩:=h₂;unfold subscriptTail;refine eE ?_;rw[getitemInPython_of_ne hT.not_modules];refine eE (wpAny_specialOf hT hl ?_);have fU:wpAny (model prog w) A (subscripted slice false o i) (λr s₃=>wpAny (model prog w) A (letTemporaryGo value o r >>=λ_=>pure r) Q E s₃) E s₂:=by
  rw[hs o i];exact wpAny_operating (eG h₂ (λr s₃ h₃=>eE (wpAny_letTemporaryGo (eX h₃))) λ_ _ x=>x)
 first
  |exact eX (eE fU)
  |exact eE (eX (eE fU))
  |exact eE fU
def Rise(xs:Array Nat):Prop:=xs.toList.Pairwise (·<·)
theorem Rise.lt{xs:Array Nat}(h:Rise xs){i k x y:Nat}(hi:xs[i]? =some x)(hk:xs[k]? =some y)(l:i<k):x<y:=by
 rw[←b6] at hi hk;obtain⟨h1,e1⟩:=bB.mp hi;obtain⟨h2,e2⟩:=bB.mp hk;have:=dZ.mp h i k h1 h2 l;rw[e1,e2] at this;exact this
def F5(xs:Array Nat)(j r:Nat):Prop:=r<=xs.size/\(∀i x,i<r->xs[i]? =some x->x<j)/\∀i x,r<=i->xs[i]? =some x->j<=x
theorem vY{xs:Array Nat}{j:Nat}(hr:Rise xs):∀fuel lo hi:Nat,lo<=hi->hi<=xs.size->hi-lo<=fuel->(∀i x,i<lo->xs[i]? =some x->x<j)->(∀i x,hi<=i->xs[i]? =some x->j<=x)->F5 xs j (SetTable.below.go xs j fuel lo hi)
 |0,lo,hi,h1,h2,h3,a,b=>by
  have e:lo=hi:=⋯;subst e;exact⟨h2,a,b⟩
 |f+1,lo,hi,h1,h2,h3,a,b=>by
  unfold SetTable.below.go;by_cases c:lo<hi
  ·rw[if_pos c];have hm:(lo+hi) / 2<xs.size:=⋯;have em:xs[(lo+hi) / 2]? =some xs[(lo+hi) / 2]:=cI hm;have eg:xs.getD ((lo+hi) / 2) j=xs[(lo+hi) / 2]:=by rw[Array.getD_eq_getD_getElem?,em];rfl
   dsimp only;rw[eg];by_cases d:xs[(lo+hi) / 2]<j
   ·rw[if_pos d];refine vY hr f _ _ ⋯ h2 ⋯ (λi x hl hx=>?_) b;by_cases q:i=(lo+hi) / 2
    ·subst q;rw[em] at hx;cases hx;exact d
    ·exact Nat.lt_trans (hr.lt hx em ⋯) d
   ·rw[if_neg d];refine vY hr f _ _ ⋯ ⋯ ⋯ a λi x hl hx=>?_;by_cases q:i=(lo+hi) / 2
    ·subst q;rw[em] at hx;cases hx;omega
    ·have:=hr.lt em hx ⋯;omega
  ·rw[if_neg c];have e:lo=hi:=⋯;subst e;exact⟨h2,a,b⟩
theorem tO{xs:Array Nat}(hr:Rise xs)(j:Nat):F5 xs j (SetTable.below xs j):=
 vY hr _ _ _ (a9 _) (aP _) (aP _) (λ_ _ h=>absurd h (dM _)) λi x h hx=>by
  obtain⟨z,_⟩:=Array.getElem?_eq_some_iff.mp hx;omega
theorem W8{xs:Array Nat}{j:Nat}(hr:Rise xs)(h:(xs[SetTable.below xs j]? ==some j)=false):∀x∈xs.toList,x≠j:=λx hx e=>by
 obtain⟨i,hi,ei⟩:=List.mem_iff_getElem.mp hx;have e1:xs[i]? =some x:=by rw[←b6,bC hi,ei]
 subst e;obtain⟨c1,c2,c3⟩:=tO hr x;have h1:¬i<SetTable.below xs x:=λz=>cL _ (c2 i x z e1);by_cases q:i=SetTable.below xs x
 ·rw[←q,e1] at h;simp at h
 ·have hs:SetTable.below xs x<xs.size:=by
   obtain⟨z,_⟩:=Array.getElem?_eq_some_iff.mp e1;omega
  have e2:xs[SetTable.below xs x]? =some xs[SetTable.below xs x]:=cI hs;have:=c3 _ _ (aP _) e2;have:=hr.lt e2 e1 ⋯;omega
theorem UY{α:Type}(xs:Array α)(p:Nat)(x:α):(SetTable.insertAt xs p x).toList=xs.toList.take p++x::xs.toList.drop p:=by
 unfold SetTable.insertAt;simp[List.extract_eq_drop_take];exact dH (by rw[cU,bO];exact aP _)
theorem W6{xs:Array Nat}{j:Nat}(hr:Rise xs)(hn:∀x∈xs.toList,x≠j):Rise (SetTable.insertAt xs (SetTable.below xs j) j):=by
 obtain⟨c1,c2,c3⟩:=tO hr j;unfold Rise;rw[UY,cV,cX];have hlow:∀a∈xs.toList.take (SetTable.below xs j),a<j:=λa ha=>by
  obtain⟨i,hi,e⟩:=List.mem_iff_getElem.mp ha;rw[List.getElem_take] at e;rw[cE] at hi;have h2:i<xs.toList.length:=⋯;exact c2 i a ⋯ (by rw[←b6,bC h2,e])
 have hhigh:∀b∈xs.toList.drop (SetTable.below xs j),j<b:=λb hb=>by
  have hb':=List.mem_of_mem_drop hb;obtain⟨i,hi,e⟩:=List.mem_iff_getElem.mp hb;rw[List.getElem_drop] at e;rw[cU] at hi;have h2:SetTable.below xs j+i<xs.toList.length:=⋯;have:=c3 (SetTable.below xs j+i) b ⋯ (by rw[←b6,bC h2,e]);have:=hn b hb';omega
 refine⟨List.Pairwise.sublist (List.take_sublist _ _) hr,⟨hhigh,List.Pairwise.sublist (List.drop_sublist _ _) hr⟩,λa ha b hb=>?_⟩;rcases aT.mp hb with rfl | hb
 ·exact hlow a ha
 ·exact Nat.lt_trans (hlow a ha) (hhigh b hb)
theorem Sf(n:Nat):Rise (Array.range n):=by
 unfold Rise;rw[Array.toList_range];exact List.pairwise_lt_range
structure kT(led:Bool)(t:SetTable):Prop where
 rise:Rise t.place
 dum:t.dummies= #[]
 led:t.led=led
theorem Nc(j:Nat):SetTable.has #[] j=false:=by
 unfold SetTable.has;simp
theorem yD{t:SetTable}{led:Bool}(T:kT led t){h:Int}:∀(f:Nat) (p:SetTable.Probe) (j:Nat) (d:Option Nat),p.dummy=none->SetTable.probe.go t (λ_=>h+1) h f p=some (.empty j d)->d=none/\(t.place[SetTable.below t.place j]? ==some j)=false
 |0,_,_,_,_,e=>by unfold SetTable.probe.go at e;cases e
 |f+1,p,j,d,hp,e=>by
  unfold SetTable.probe.go at e;split at e
  ·next hs=>
   cases e;refine⟨hp,?_⟩;unfold SetTable.slot at hs;dsimp only at hs;split at hs
   ·cases hs
   ·next q=>simpa using q
  ·next hs=>
   unfold SetTable.slot at hs;dsimp only at hs;split at hs
   ·cases hs
   ·rw[T.dum,Nc] at hs;cases hs
  ·rw[if_neg (by simp;omega)] at e;refine yD T f _ j d ?_ e;unfold SetTable.advance;split
   ·exact hp
   ·exact hp
theorem rB{led:Bool}{t:SetTable}(T:kT led t)(n:Nat):kT led (t.standIn n):=⟨Sf n,rfl,T.led⟩
theorem Ye{led:Bool}{t:SetTable}(T:kT led t)(n:Nat):kT led (t.orStandIn n):=by
 unfold SetTable.orStandIn;split
 ·exact T
 ·exact rB T n
theorem Te{led:Bool}{t:SetTable}(T:kT led t)(es:Array (Int×Value))(h:Int)(x:Value):kT led (layNew t es h x).2.1:=by
 unfold layNew;split
 ·next slot wd hf=>
  dsimp only;refine Ye ?_ _;unfold SetTable.freeSlot at hf;split at hf
  ·next j d hp=>
   obtain⟨rfl,hn⟩:=yD T _ _ j d rfl hp;cases hf;refine⟨W6 T.rise (W8 T.rise hn),?_,T.led⟩;show (if SetTable.has t.dummies j=true then _ else t.dummies)=_;rw[T.dum,Nc];rfl
  ·cases hf
 ·exact rB T _
theorem Rt{led:Bool}{t:SetTable}(T:kT led t)(es:Array (Int×Value))(n:Nat):kT led (relayAll t es n).2.1:=by
 unfold relayAll;split
 ·next t' order hl=>
  dsimp only;split
  ·unfold SetTable.relaid SetTable.laid at hl;cases ho:SetTable.layClean (SetTable.sizeAbove n-1) (es.map (·.1)) with
   |none=>rw[ho] at hl;cases hl
   |some owner=>
    rw[ho] at hl;cases hl;refine⟨?_,rfl,T.led⟩;unfold Rise;dsimp only;have key:∀(l:List Nat),l.Pairwise (·<·)->((l.filterMap λj=>(owner.getD j none).map (j,·)).map (·.1)).Pairwise (·<·):=λl hl=>by
     have e:(l.filterMap λj=>(owner.getD j none).map (j,·)).map (·.1)=l.filter λj=>(owner.getD j none).isSome:=by
      induction l with
      |nil=>rfl
      |cons a l ih=>
       have ih:=ih (cX.mp hl).2;cases q:owner.getD a none with
       |none=>rw[List.filterMap_cons_none (by rw[q];rfl),List.filter_cons_of_neg (by rw[q];simp),ih]
       |some b=>rw[List.filterMap_cons_some (by rw[q];rfl),List.filter_cons_of_pos (by rw[q];rfl),bT,ih]
     rw[e];exact List.Pairwise.sublist List.filter_sublist hl
    exact key _ List.pairwise_lt_range
  ·exact rB T _
 ·exact rB T _
noncomputable def nO:Value->Int
 |.int z _=>z
 |_=>0
noncomputable def gW(es:Array (Int×Value)):List Int:=es.toList.map λe=>nO e.2
noncomputable def qj(w:World):Bool:= !(w.params.followText "set-order")
structure gh(prog:Program)(w:World)(es:Array (Int×Value))(t:SetTable):Prop where
 el:ElemsOf (intKind prog w) es.toList
 nd:(gW es).Nodup
 sz:es.size<scanBound
 fit:t.fits es.size=true
 tab:kT (qj w) t
noncomputable abbrev gY(es:Array (Int×Value))(ep:Nat)(t:SetTable):Obj:={cls:=.type "set",dict:=none,data:=.set es ep t,slots:= #[]}
section
variable{prog:Program}{w:World}{A:Around}{E:Value->Shared->Prop}{s:Shared}{a:Addr}{es:Array (Int×Value)}{ep:Nat}{t:SetTable}{z:Int}{tk:Tok}
theorem Hg{k:Int}{v:Value}(h:(intKind prog w).is k v=true):∃t,v=.int k t:=Value.isInt_shape h
theorem JA{e:Int×Value}(h:ElemsOf (intKind prog w) es.toList)(he:e∈es.toList):∃t,e.2=.int (nO e.2) t:=by
 obtain⟨⟨k,hk,_⟩,_⟩:=h e he;obtain⟨t,e2⟩:=Hg hk;exact⟨t,by rw[e2];rfl⟩
theorem C4{es es':Array (Int×Value)}(p:es'.toList.Perm es.toList):(gW es').Perm (gW es):=p.map _
theorem G9(hS:s.heap.get? a=some (gY es ep t)){es':Array (Int×Value)}{t':SetTable}:(s.heap.update a (Obj.putSet es' t')).get? a=some (gY es' (ep+1) t'):=
 cQ (Obj.putSet es' t') hS rfl
theorem Ze{Q:Bool->Shared->Prop}(hS:s.heap.get? a=some (gY es ep t))(X:gh prog w es t)(room:es.size+1<scanBound)
  (k:∀h' es' ep' t' b,Heap.SameBut a s.heap h'->h'.get? a=some (gY es' ep' t')->gh prog w es' t'->(∀x,x∈gW es'↔x∈gW es∨x=z)->es'.size<=es.size+1->Q b {s with heap:=h'}):
  wpAny (model prog w) A (setAddHashed a (.int z tk) ((intKind prog w).hash z)) Q E s:=by
 have key:(intKind prog w).is z (.int z tk)=true:=intKind_is _ _ _ _;unfold setAddHashed setAddHashedIn;refine eK (eE (eH hS rfl X.fit ?_));dsimp only;rw[byScan_of (knd:=intKind prog w) (x:=.int z tk) rfl X.sz X.el,if_pos rfl];unfold setAddByScan;refine eE (eE (wpAny_rule (eE (wpAny_setScan_of key hS rfl X.fit X.el ?_))));cases hr:List.findIdx? (λe=>(intKind prog w).is z e.2) es.toList with
 |some j=>
  dsimp only;obtain⟨hj,pj,_⟩:=List.findIdx?_eq_some_iff_getElem.mp hr;have hz:z∈gW es:=bG.mpr ⟨es.toList[j],List.getElem_mem hj,by obtain⟨t2,e2⟩:=Hg pj;rw[e2];rfl⟩;refine eX (eX ?_);exact k s.heap es ep t _ (Heap.SameBut.refl a s.heap) hS X (λx=>⟨.inl,λh=>h.elim id λe=>e▸hz⟩) (cD _)
 |none=>
  dsimp only;have hz:z∉gW es:=λhm=>by
   obtain⟨e,he,ez⟩:=bG.mp hm;obtain⟨t2,e2⟩:=JA X.el he;have:=List.findIdx?_eq_none_iff.mp hr e he;rw[e2,ez,intKind_is] at this;cases this
  have hperm:=layNew_perm t es ((intKind prog w).hash z) (.int z tk);have hfits:=layNew_fits t es ((intKind prog w).hash z) (.int z tk);have htab:=Te X.tab es ((intKind prog w).hash z) (.int z tk);generalize layNew t es ((intKind prog w).hash z) (.int z tk)=L at hperm hfits htab ⊢;obtain⟨es1,t1,wd,gave⟩:=L;dsimp only at hperm hfits htab ⊢;rw[Array.toList_push] at hperm;have el1:ElemsOf (intKind prog w) es1.toList:=(X.el.push key rfl).perm hperm
  have zp:(gW es1).Perm (gW es++[z]):=by
   have:=hperm.map λe:Int×Value=>nO e.2;rw[aY] at this;exact this
  have nd1:(gW es1).Nodup:=zp.nodup_iff.mpr (List.nodup_append.mpr ⟨X.nd,by simp,λx hx y hy e=>by
   rw[aW] at hy;exact hz (hy▸e▸hx)⟩)
  have mem1:∀x,x∈gW es1↔x∈gW es∨x=z:=λx=>by rw[zp.mem_iff,bS,aW]
  have sz1:es1.size=es.size+1:=by rw[←bO,hperm.length_eq,aV,bO];rfl
  have X1:∀pl:Bool,gh prog w es1 {t1 with plain:=pl}:=λpl=>⟨el1,nd1,by rw[sz1];exact room,hfits,⟨htab.rise,htab.dum,htab.led⟩⟩;have tail:∀(t2:SetTable),gh prog w es1 t2->∀(g:Bool->Sem Unit),(∀(b:Bool) (s₁:Shared) (Q':Unit->Shared->Prop),Q' () s₁->wpAny (model prog w) A (g b) Q' E s₁)->∀R:Option Bool->Shared->Prop,
    (∀h' es' ep' t' ,Heap.SameBut a s.heap h'->h'.get? a=some (gY es' ep' t')->gh prog w es' t'->(∀x,x∈gW es'↔x∈gW es∨x=z)->es'.size<=es.size+1->R (some true) {s with heap:=h'})->
    wpAny (model prog w) A (do
     storeSet a es1 t2
     if (!wd&&t2.tooFull)=true then do
       g (relayAll t2 es1 (SetTable.grown es1.size)).2.2
       storeSet a (relayAll t2 es1 (SetTable.grown es1.size)).1 (relayAll t2 es1 (SetTable.grown es1.size)).2.1
       pure (some true)
      else pure (some true)) R E s:=λt2 X2 g hg R hR=>by
   refine eE (wpAny_storeSet_of hS rfl ?_ (fits_of_scanBound X2.sz));have e1:=G9 hS (es':=es1) (t':=t2);have b1:=Heap.SameBut.update s.heap a (Obj.putSet es1 t2);split
   ·have hp:=relayAll_perm t2 es1 (SetTable.grown es1.size);have hf:=relayAll_fits t2 es1 (SetTable.grown es1.size);have ht:=Rt X2.tab es1 (SetTable.grown es1.size);generalize relayAll t2 es1 (SetTable.grown es1.size)=R2 at hp hf ht ⊢;obtain⟨es2,t3,gave2⟩:=R2;dsimp only at hp hf ht ⊢;have sz2:es2.size=es1.size:=by rw[←bO,hp.length_eq,bO]
    have X3:gh prog w es2 t3:=⟨X2.el.perm hp,(C4 hp).nodup_iff.mpr X2.nd,by rw[sz2];exact X2.sz,hf,ht⟩;refine eE (hg _ _ _ (eE (wpAny_storeSet_of e1 rfl ?_ (fits_of_scanBound X3.sz))));exact eX (hR _ es2 _ t3 (b1.trans (Heap.SameBut.update _ a _)) (G9 (s:={s with heap:=s.heap.update a (Obj.putSet es1 t2)}) e1) X3 (λx=>by rw[(C4 hp).mem_iff];exact mem1 x) (by rw[sz2,sz1];exact aP _))
   ·exact eX (hR _ es1 _ t2 b1 e1 X2 mem1 (Nat.le_of_eq sz1))
  have fU:∀h' es' ep' t' ,Heap.SameBut a s.heap h'->h'.get? a=some (gY es' ep' t')->gh prog w es' t'->(∀x,x∈gW es'↔x∈gW es∨x=z)->es'.size<=es.size+1->Q true {s with heap:=h'}:=λh' es' ep' t'=>k h' es' ep' t' true;have gw:∀(b:Bool) (s₁:Shared) (Q':Unit->Shared->Prop),Q' () s₁->wpAny (model prog w) A (match b with | true=>rule "set.scan.the-table-gave-way" | false=>pure ()) Q' E s₁:=λb s₁ Q' hq=>by
   cases b
   ·exact eX hq
   ·exact wpAny_rule hq
  refine eE (gw gave _ _ ?_);have X1':gh prog w es1 t1:=X1 t1.plain;split
  ·refine eE ?_;rw[hashByValue_scannable 8 (show (Value.int z tk).scannable=true from rfl)];refine eX ?_;exact tail t1 X1' _ gw _ λh' es' ep' t' b e x m l=>eX (fU h' es' ep' t' b e x m l)
  ·refine eE (eX ?_);exact tail t1 X1' _ gw _ λh' es' ep' t' b e x m l=>eX (fU h' es' ep' t' b e x m l)
end
section
variable{prog:Program}{w:World}{A:Around}{R:Result->Shared->Prop}{I:Addr}{fp wr:List Addr}{G:Array GenState->Array GenState->Prop}{n:Nat}{P:Nat->Value->Prop}{St:Nat->Shared->Prop}
theorem LD{args:Args}{s:Shared}(h:wpAny (model prog w) A.in1 (Builtin.«set.update.loop» args) (λx s'=>match x with | .done q=>R (.ok q) s' | .again c=>c.quiet=true/\codeAny (model prog w) A c R s') (λx s'=>R (.error x) s') s):codeAny (model prog w) A (.builtin "set.update.loop" args) R s:=
 codeAny_builtin F.entry_set_update_loop (by rw[Around.under_plainId F.plain_set_update_loop args];exact h)
theorem Wt(W:WalksS prog w A.in1 I fp wr G n P St){S:Addr}(out:S∉fp){val:Nat->Int}(hval:∀i v,P i v->∃t,v=.int (val i) t)(hb:n+1<scanBound):
  ∀(k i:Nat) (s:Shared) (es:Array (Int×Value)) (ep:Nat) (t:SetTable),n-i=k->i<=n->St i s->s.heap.get? S=some (gY es ep t)->gh prog w es t->(∀x,x∈gW es↔∃j,j<i/\val j=x)->es.size<=i->
   (∀s' es' ep' t',Moved (S::wr) G s s'->s'.heap.get? S=some (gY es' ep' t')->gh prog w es' t'->(∀x,x∈gW es'↔∃j,j<n/\val j=x)->R (.ok (.ret .none)) s')->
   codeAny (model prog w) A (.builtin "set.update.loop" {pos:=[.ref S,.ref I]}) R s:=by
 have nw:S∉wr:=λz=>out (W.sub _ z);have sub:∀b∈wr,b∈S::wr:=λb hb=>bM _ hb;intro k;induction k with
 |zero=>
  intro i s es ep t hk hi st hS X hm hz hR;obtain rfl:i=n:=⋯;refine LD ?_;unfold Builtin.«set.update.loop»;refine eE (W.done s _ _ st λs' mv=>?_);exact eX (hR s' es ep t (mv.mono sub) (mv.heap S _ nw hS) X hm)
 |succ k ih=>
  intro i s es ep t hk hi st hS X hm hz hR;have lt:i<n:=⋯;refine LD ?_;unfold Builtin.«set.update.loop»;refine eE (W.item i s _ _ lt st λv s1 hP st1 mv=>?_);obtain⟨tk,rfl⟩:=hval i v hP;have S1:=mv.heap S _ nw hS;unfold setAdd;refine eE (eK (eK (eE ((intKind prog w).pyHash (k:=val i) (intKind_is _ _ _ _) (Ze (s:={s1 with toks:=s1.toks+1}) S1 X ⋯ λh' es' ep' t' b sb S2 X2 m2 z2=>?_)))));refine eX ⟨plainId_quiet F.plain_set_update_loop _,ih (i+1) _ es' ep' t' ⋯ lt (W.frame _ s1 _ _ st1 (cD _) λc hc o e=>?_) S2 X2 (λx=>?_) ⋯ λs2 es2 ep2 t2 ku S3 X3 m3=>?_⟩
  ·rw[sb.2 c λz=>out (z▸hc)];exact e
  ·rw[m2,hm];constructor
   ·rintro (⟨j,hj,e⟩ | rfl)
    ·exact⟨j,⋯,e⟩
    ·exact⟨i,⋯,rfl⟩
   ·rintro⟨j,hj,e⟩;by_cases c:j=i
    ·subst c;exact .inr e.symm
    ·exact .inl ⟨j,⋯,e⟩
  ·refine hR s2 es2 ep2 t2 (Moved.trans W.gtrans ((mv.mono sub).then_heap (cD _) λc o hc e=>?_) ku) S3 X3 m3;rw[sb.2 c λz=>hc (z▸a8)];exact e
end
section
variable{prog:Program}{w:World}{A:Around}{E:Value->Shared->Prop}{s:Shared}
noncomputable abbrev lE(w:World):Obj:=gY #[] 0 (.fresh 0 0 (qj w))
theorem TC:gh prog w #[] (.fresh 0 0 (qj w)):=⟨λ_ h=>by simp at h,by simp[gW],by decide,rfl,⟨by unfold Rise;simp[SetTable.fresh],rfl,rfl⟩⟩
theorem Tu(a:Value){Q₁:Value->Shared->Prop}(h:Q₁ (.ref s.heap.objs.size) {s with heap:=s.heap.push (lE w)}):codeAny (model prog w) A (.call (.builtin "set.__new__") ⟨[.type "set",a],[]⟩) (wants Q₁ E) s:=by
 have own:=sub_set_self;refine codeAny_of_tree (eE (m:=checkBuiltinCall "set.__new__" {pos:=[.type "set",a]}) (wpAny_of_eq (F.newCall_set_1 a) (eX ⟨plainId_quiet F.plain_set_new _,codeAny_builtin F.entry_set_new ?_⟩)));rw[Around.under_plainId F.plain_set_new {pos:=[.type "set",a]}];simp only[Builtin.«set.__new__»,Builtin.Frozenset.newClass];obtain⟨h0,g0,d0,t0,o0⟩:=s
 wp_walk
 refine wpAny_askSetting (eX ?_);dsimp only;simp only[newObj];exact eE (wpAny_alloc (eX (eX h)))
set_option maxHeartbeats 3200000 in
theorem O4{l:Addr}{items:Array Value}{ns:List Int}{Q:Value->Shared->Prop}(hh:A.handled=none)(hl:s.heap.IsList l items)(hi:IntsAre items.toList ns)(hb:items.size+1<scanBound)
  (k:∀(h':Heap) (tk:Nat) (es:Array (Int×Value)) (ep:Nat) (t:SetTable),h'.get? s.heap.objs.size=some (gY es ep t)->gh prog w es t->(∀x,x∈gW es↔x∈ns)->(∀b o,s.heap.get? b=some o->h'.get? b=some o)->Q (.ref s.heap.objs.size) {s with heap:=h',toks:=tk}):
  wpAny (model prog w) A (call (.type "set") [.ref l]) Q E s:=by
 obtain⟨⟨c0,tl0,m0⟩,m1,m2,m3,m4,m5⟩:=And.intro F.called_set.mro (And.intro F.called_set.made (And.intro F.called_set.sub (And.intro F.called_set.notType (And.intro F.called_set.canCreate (F.typeCall_set_1 (.ref l))))));refine wpAny_call (codeAny_of_tree (show wpAny _ _ (callAny (.type "set") _) _ _ _ from eX ⟨Code.quiet_builtin _ (by decide +kernel),codeAny_builtin F.entry_type_call ?_⟩));rw[Around.under_plain (weight_type_call_type "set" [.ref l] []) (by rfl)]
 repeat any_goals (first | assumption | wp_step)
 refine eP (Tu (.ref l) (E:=E) (Q₁:=λobj s₁=>obj=.ref s.heap.objs.size/\s₁={s with heap:=s.heap.push (lE w)}) ⟨rfl,rfl⟩) λr s₁ hr=>?_;cases r with
 |error e=>exact hr
 |ok fl=>
  cases fl with
  |ret obj=>
   obtain⟨rfl,rfl⟩:=hr;have hS:(s.heap.push (lE w)).get? s.heap.objs.size=some (lE w):=bD _ rfl;have hT:Shared.TypeIs {s with heap:=s.heap.push (lE w)} (.ref s.heap.objs.size) "set":=⟨_,hS,rfl⟩;obtain⟨i1,i2⟩:=And.intro F.called_set.init.lookup (F.called_set.init.bind (.ref s.heap.objs.size))
   repeat any_goals (first | assumption | wp_step)
   refine eP (codeAny_call_builtin (R:=wants (λr s₂=>r=.none/\∃h' tk es ep t,s₂={s with heap:=h',toks:=tk}/\h'.get? s.heap.objs.size=some (gY es ep t)/\gh prog w es t/\(∀x,x∈gW es↔x∈ns)/\(∀b o,s.heap.get? b=some o->h'.get? b=some o)) E) F.called_set.init.plain F.entry_set_init (check_set_init_1 hT ?_)) λr₂ s₂ hr₂=>?_
   ·obtain⟨⟨oc,od,odt,osl⟩,hol,hcl,nl,hdl⟩:=hl;cases hcl;cases hdl;have hol':=aS (lE w) hol;have s1:=F.sub_list_set;have s2:=F.sub_list_frozenset;have ne:(Value.type "list"==Value.type "dict")=false:=by decide
    have hl1:(s.heap.push (lE w)).IsList l items:=⟨_,hol',rfl,nl,rfl⟩;simp only[Builtin.«set.__init__»,noKeywords,Builtin.Frozenset.updateFrom];generalize hPI:pyIter=PI
    wp_walk
    subst hPI;refine wpAny_pyIter_list hl1 (eE (wpAny_runValue ?_));have ll:l<s.heap.objs.size:=aR hol;have h3:A.in1.in1.in1.handled=none:=by simp[hh]
    have nI:l≠(s.heap.push (lE w)).objs.size:=by rw[cN];exact aU (b9 ll)
    have out:s.heap.objs.size∉[(s.heap.push (lE w)).objs.size,l]:=by
     rw[cN];simp only[aT,b7,or_false,not_or];exact⟨aU (cS _),Nat.ne_of_gt ll⟩
    have val:∀(i:Nat) (v:Value),items[i]? =some v->∃t,v=.int ((λi=>ns.getD i 0) i) t:=λi v hv=>IntsAre.int_at hi i v (by rw[b6];exact hv);have ln:items.size=ns.length:=by rw[←bO];exact IntsAre.length hi
    refine Wt ((Walks.list h3 _ l nI items).toS) out val hb (items.size-0) 0 _ #[] 0 (.fresh 0 0 (qj w)) ⋯ (a9 _) ⟨⟨_,bD _ rfl,rfl,rfl⟩,hl1.push _⟩ (aS _ hS) TC (λx=>⟨λz=>by simp[gW] at z,λ⟨j,hj,_⟩=>absurd hj (dM _)⟩) (aP _) λs' es ep t mv S' X' m'=>?_;obtain⟨h',g',d',tk',os'⟩:=s';have eg:g'=s.gens:=mv.gens;have ed:d'=s.drawn:=mv.drawn;have eo:os'=s.os:=mv.os;subst eg;subst ed;subst eo;refine eX (eX ⟨rfl,h',tk',es,ep,t,rfl,S',X',λx=>?_,λb o e=>?_⟩)
    ·rw[m' x,ln];constructor
     ·rintro⟨j,hj,rfl⟩;have:ns.getD j 0=ns[j]:=by rw[d7,bC hj];rfl
      rw[this];exact List.getElem_mem hj
     ·intro hx;obtain⟨j,hj,e⟩:=List.mem_iff_getElem.mp hx;exact⟨j,hj,by rw[d7,bC hj];exact e⟩
    ·have lb:=aR e;refine mv.heap b o ?_ (aS _ (aS _ e));rw[cN];simp only[aT,b7,or_false,not_or];exact⟨aU lb,aU (b9 lb)⟩
   ·cases r₂ with
    |error e=>exact hr₂
    |ok fl₂=>
     cases fl₂ with
     |ret r=>
      obtain⟨rfl,h',tk,es,ep,t,rfl,S',X',m',k'⟩:=hr₂
      repeat any_goals (first | assumption | wp_step)
      exact k h' tk es ep t S' X' m' k'
     |_=>exact hr₂.elim
  |_=>exact hr.elim
end
theorem wV{α:Type}:∀(l:List α) (i:Nat) (h:i<l.length),(l[i]::l.eraseIdx i).Perm l
 |[],i,h=>by cases h
 |x::r,0,h=>List.Perm.refl _
 |x::r,i+1,h=>(List.Perm.swap x (r[i]'(by simpa using h)) _).trans (List.Perm.cons x (wV r i (by simpa using h)))
theorem By{α:Type}(next:Nat->Nat):∀(f k:Nat) (left:List α) (out:Array α),left.length=f->(pickOrder.go next f k left out).toList.Perm (out.toList++left)
 |0,k,left,out,h=>by
  rw[List.length_eq_zero_iff.mp h,cC];exact List.Perm.refl _
 |f+1,k,left,out,h=>by
  have hl:next k%left.length<left.length:=Nat.mod_lt _ ⋯;unfold pickOrder.go;rw[bC hl];dsimp only;refine (By next f (k+1) (left.eraseIdx (next k%left.length)) (out.push left[next k%left.length]) (by rw[List.length_eraseIdx_of_lt hl,h];rfl)).trans ?_;rw[Array.toList_push,c7];exact List.Perm.append_left _ (wV _ _ hl)
theorem Xh{α:Type}(next:Nat->Nat)(xs:Array α):(pickOrder next xs).toList.Perm xs.toList:=by
 have:=By next xs.size 0 xs.toList #[] (bO);rw[show (#[]:Array α).toList=[] from rfl,List.nil_append] at this;exact this
section
variable{M:Model}{A:Around}{E:Value->Shared->Prop}{s:Shared}
theorem OO{src:Source}{n:Nat}{Q:Nat->Shared->Prop}(hn:n≠0)(h:∀i d,i<n->Q i {s with drawn:=d}):wpAny M A (choose src n) Q E s:=λΓ p hΓ=>⟨hn,h _ _ (Nat.mod_lt _ (Nat.pos_of_ne_zero hn))⟩
theorem Oo{α:Type}:∀(n:Nat) (xs:List α) (s:Shared) (Q:List α->Shared->Prop),xs.length=n->(∀ys d,ys.Perm xs->Q ys {s with drawn:=d})->wpAny M A (drawOrder n xs) Q E s
 |0,xs,s,Q,hn,h=>by
  rw[List.length_eq_zero_iff.mp hn] at h ⊢;exact eX (h [] s.drawn (List.Perm.refl _))
 |n+1,[],s,Q,hn,h=>by cases hn
 |n+1,x::r,s,Q,hn,h=>by
  unfold drawOrder;refine eE (OO (by simp) λi d hi=>?_);rw[bC hi];refine eE (Oo n _ _ _ (by rw[List.length_eraseIdx_of_lt hi,hn];rfl) λys d2 hp=>eX (h _ d2 ?_));exact (List.Perm.cons _ hp).trans (wV _ _ hi)
end
theorem Tn:entryFor table "set.__iter__"=some Builtin.«frozenset.__iter__»:=entryFor_alias (id':="frozenset.__iter__") (by decide +kernel) (by decide +kernel) (by decide +kernel) (by kernel_rfl)
theorem slot_set_itn:Slot "set_iterator" "__next__" "set_iterator.__next__":=
 .of (owner:="set_iterator") (n:="__next__") (by rw[typeLookup_type,builtinLookup_eq_fast];kernel_rfl) (by decide +kernel) (by decide +kernel) (by decide +kernel)
  (by first | exact .inl (by decide +kernel) | exact .inr (by decide +kernel)) (by rw[isSubtype_type];kernel_rfl)
theorem GP:entryFor table "set_iterator.__next__"=some Builtin.«set_iterator.__next__»:=entryFor_of_tree (by kernel_rfl)
theorem DA(a:Value):argsOk "set_iterator.__next__" ⟨[a],[]⟩:=by unfold argsOk;kernel_rfl
noncomputable abbrev gL(first:Value)(i:Nat)(a:Addr)(n ep:Nat):Obj:={cls:=.type "set_iterator",dict:=none,data:=.fields #[first,rawInt i,.ref a,rawInt n,rawInt ep],slots:= #[]}
section
variable{prog:Program}{w:World}{A:Around}{E:Value->Shared->Prop}{s:Shared}{a I:Addr}{es:Array (Int×Value)}{ep:Nat}{t:SetTable}
noncomputable def kc(w:World)(a:Addr)(es:Array (Int×Value))(ep:Nat):List Value:=if w.params.followText "set-order" then (pickOrder (w.params.setOrder a ep) es).toList.map (·.2) else es.toList.map (·.2)
noncomputable def iy(w:World)(t:SetTable)(i:Nat):Nat:=if w.params.followText "set-order" then 0 else match i with
 |0=>0
 |i+1=>t.place.getD i 0+1
theorem Ng:iy w t 0=0:=by unfold iy;split<;>rfl
theorem Kj{i:Nat}(bt:w.params.followText "set-order"=false):iy w t (i+1)=t.place.getD i 0+1:=by unfold iy;rw[bt,if_neg (by simp)]
theorem ord_perm:(kc w a es ep).Perm (es.toList.map (·.2)):=by
 unfold kc;split
 ·exact (Xh _ _).map _
 ·exact List.Perm.refl _
theorem uJ:(kc w a es ep).length=es.size:=by rw[ord_perm.length_eq,aQ,bO]
theorem uH{Q:Bool->Shared->Prop}(h:Q (w.params.followText "set-order") s):wpAny (model prog w) A setsByText Q E s:=by
 unfold setsByText;exact eE (wpAny_askSetting (eX h))
theorem XQ{Q:Option (Value×Nat)->Shared->Prop}{i:Nat}(hS:s.heap.get? a=some (gY es ep t))(X:gh prog w es t)(nd:w.params.followText "set-order"=true∨(!t.plain&&decide (es.size>1))=false)(hi:i<=es.size)
  (h:Q ((kc w a es ep)[i]?.map λv=>(v,iy w t (i+1))) s):wpAny (model prog w) A (setNext a (iy w t i) i ep) Q E s:=by
 unfold setNext;refine eE (eH hS rfl X.fit ?_);dsimp only;refine eE (uH ?_);cases bt:w.params.followText "set-order" with
 |true=>
  rw[if_pos rfl,if_neg (by simp)];refine eE ?_;unfold setWalk;refine eE (eH hS rfl X.fit ?_);dsimp only;refine eE (uH ?_);rw[bt,if_pos rfl];refine eE (wpAny_askSetting (eX (eX ?_)));have e:kc w a es ep=(pickOrder (w.params.setOrder a ep) es).toList.map (·.2):=by unfold kc;rw[bt,if_pos rfl]
  rw[e,aX,b6,Option.map_map] at h;have e2:iy w t (i+1)=iy w t i:=by unfold iy;rw[bt,if_pos rfl,if_pos rfl]
  rw[e2] at h;exact h
 |false=>
  have nd':(!t.plain&&decide (es.size>1))=false:=nd.resolve_left (by rw[bt];simp);have led:t.led=true:=by rw[X.tab.led];unfold qj;rw[bt];rfl
  have fit:t.place.size=es.size:=by
   have:=X.fit;simp only[SetTable.fits,bL,beq_iff_eq] at this;exact this.1
  rw[if_neg (by simp)];change wpAny _ _ (if (!t.plain&&decide (es.size>1))=true then _ else _) _ _ _;rw[if_neg (by rw[nd'];simp)];refine eE ?_;change wpAny _ _ (if (!t.led&& !es.isEmpty)=true then _ else _) _ _ _;rw[if_neg (by rw[led];simp)];refine eX (eX ?_);have e:kc w a es ep=es.toList.map (·.2):=by unfold kc;rw[bt,if_neg (by simp)]
  have cut:SetTable.below t.place (iy w t i)=i:=by
   obtain⟨c1,c2,c3⟩:=tO X.tab.rise (iy w t i);have at':∀k,k<t.place.size->t.place[k]? =some (t.place.getD k 0):=λk hk=>by rw[Array.getD_eq_getD_getElem?,cI hk];rfl
   cases i with
   |zero=>
    rcases Nat.eq_zero_or_pos (SetTable.below t.place (iy w t 0)) with z | z
    ·exact z
    ·have:=c2 0 _ z (at' 0 ⋯);rw[Ng] at this;exact absurd this (dM _)
   |succ i=>
    have e0:iy w t (i+1)=t.place.getD i 0+1:=Kj bt;have hi':i<t.place.size:=⋯;have l1:¬SetTable.below t.place (iy w t (i+1))<=i:=λz=>by
     have:=c3 i _ z (at' i hi');omega
    have l2:¬i+1<SetTable.below t.place (iy w t (i+1)):=λz=>by
     have h1:i+1<t.place.size:=⋯;have:=c2 (i+1) _ z (at' (i+1) h1);have:=X.tab.rise.lt (at' i hi') (at' (i+1) h1) (cS i);omega
    omega
  rw[cut];rw[e,aX,b6,Option.map_map] at h;by_cases c:i<es.size
  ·rw[cI c,cI (show i<t.place.size by omega)];rw[cI c] at h;have e2:iy w t (i+1)=t.place[i]'⋯+1:=by
    rw[Kj bt,Array.getD_eq_getD_getElem?,cI (show i<t.place.size by omega)];rfl
   rw[e2] at h;exact h
  ·rw[d8 ⋯,d8 ⋯];rw[d8 ⋯] at h;exact h
noncomputable abbrev Hb:Obj:={cls:=.type "tuple",data:=.seq #[]}
noncomputable abbrev Sm(a:Addr):Obj:={cls:=.type "StopIteration",data:=.fields (#[Value.ref a,.none,.none,.none,.bool false,.none]++ownMembersOf (.type "StopIteration") [])}
theorem yt{β:Type}{Q:β->Shared->Prop}(hh:A.handled=none)(h:E (.ref (s.heap.push Hb).objs.size) {s with heap:=(s.heap.push Hb).push (Sm s.heap.objs.size)}):
  wpAny (model prog w) A (do raiseNew (←newExc (.type "StopIteration") []):Sem β) Q E s:=by
 refine eE ?_;simp only[newExc,newTuple];refine eE (eC (eE (m:=firstArgMember _ _) (wpAny_of_eq (a:=Value.none) (by simp only[firstArgMember];rfl) (eC ?_ (by size_fits)))) (by size_fits));unfold raiseNew;refine eE (wpAny_handled ?_);rw[hh];exact eE (eX (wpAny_throw h))
theorem nR{f:Value}{i n ep:Nat}(h:s.heap.get? I=some (gL f i a n ep)):s.TypeIs (.ref I) "set_iterator":=⟨_,h,rfl⟩
theorem Ou{i:Nat}{Q:Option Value->Shared->Prop}(hh:A.handled=none)(ne:a≠I)(hI:s.heap.get? I=some (gL (rawInt (iy w t i)) i a es.size ep))(hS:s.heap.get? a=some (gY es ep t))(X:gh prog w es t)
  (nd:w.params.followText "set-order"=true∨(!t.plain&&decide (es.size>1))=false) (hi:i<=es.size)
  (k:∀v h',(kc w a es ep)[i]? =some v->h'.get? I=some (gL (rawInt (iy w t (i+1))) (i+1) a es.size ep)->(∀b o,b≠I->s.heap.get? b=some o->h'.get? b=some o)->Q (some v) {s with heap:=h'})
  (k0:(kc w a es ep)[i]? =none->∀h',(∀b o,b≠I->s.heap.get? b=some o->h'.get? b=some o)->Q none {s with heap:=h'}):wpAny (model prog w) A (pyNext (.ref I)) Q E s:=by
 unfold pyNext;refine eE (wpAny_attempt (wpAny_callSpecial?_slot (name:=Str.ofString "__next__") (nR hI) slot_set_itn (d9 slot_set_itn (nR hI) GP ?_ (DA _))));unfold Builtin.«set_iterator.__next__»;refine eE (m:=slotArgs _ _ _) (eX ?_);refine eE (wpAny_fieldsOf hI rfl ?_);simp only[rawInt];unfold setEntries;refine eE (eE (eH hS rfl X.fit (eX ?_)));rw[if_neg (by simp)];simp only[bP];refine eE (XQ hS X nd hi ?_)
 cases ho:(kc w a es ep)[i]? with
 |some v=>
  dsimp only[Option.map];refine eE (wpAny_setField hI rfl (show 0<5 by decide) ?_);have h1:=cQ (Obj.mapFields (·.setIfInBounds 0 (Value.int (iy w t (i+1)) 0))) hI rfl;refine eE (wpAny_setField h1 rfl (show 1<5 by decide) ?_);have h2:=cQ (Obj.mapFields (·.setIfInBounds 1 (Value.int ((i:Int)+1) 0))) h1 rfl;refine eX ⟨v,rfl,eX (k v _ ho ?_ λb o nb e=>?_)⟩
  ·rw[h2];show some _=some _;congr 1
  ·rw[cF _ _ (Ne.symm nb),cF _ _ (Ne.symm nb)];exact e
 |none=>
  dsimp only[Option.map];refine eE (wpAny_setField hI rfl (show 2<5 by decide) (yt hh ?_));refine eE (wpAny_isInstance (T:="StopIteration") (b:=true) ⟨_,bD _ rfl,rfl⟩ isSubtype_stop (eX (k0 ho _ λb o nb e=>?_)));refine aS _ (aS _ ?_);rw[cF _ _ (Ne.symm nb)];exact e
theorem F3{i:Nat}{T:Addr}{ys:List Nat}{Q:Option Value->Shared->Prop}(hh:A.handled=none)(hI:s.heap.get? I=some (gL (.ref T) i a es.size ep))(hT:s.heap.get? T=some {cls:=.type "tuple",data:=.seq (ys.map λ(y:Nat)=>rawInt y).toArray})(hS:s.heap.get? a=some (gY es ep t))(X:gh prog w es t)
  (hy:∀y∈ys,y<es.size)
  (k:∀y v h',ys[i]? =some y->(es.toList.map (·.2))[y]? =some v->h'.get? I=some (gL (.ref T) (i+1) a es.size ep)->(∀b o,b≠I->s.heap.get? b=some o->h'.get? b=some o)->Q (some v) {s with heap:=h'})
  (k0:ys[i]? =none->∀h',(∀b o,b≠I->s.heap.get? b=some o->h'.get? b=some o)->Q none {s with heap:=h'}):wpAny (model prog w) A (pyNext (.ref I)) Q E s:=by
 unfold pyNext;refine eE (wpAny_attempt (wpAny_callSpecial?_slot (name:=Str.ofString "__next__") (nR hI) slot_set_itn (d9 slot_set_itn (nR hI) GP ?_ (DA _))));unfold Builtin.«set_iterator.__next__»;refine eE (m:=slotArgs _ _ _) (eX (eE (wpAny_fieldsOf hI rfl ?_)));simp only[rawInt];unfold setEntries;refine eE (eE (eH hS rfl X.fit (eX ?_)));rw[if_neg (by simp)];refine eE (wpAny_seqItems hT rfl ?_)
 have eg:((ys.map λ(y:Nat)=>rawInt y).toArray)[(i:Int).toNat]? =(ys[i]?).map λ(y:Nat)=>rawInt y:=by
  rw[bP,List.getElem?_toArray,aX]
 dsimp only;rw[eg];cases ho:ys[i]? with
 |some y=>
  have hlt:=hy y (bA ho);have ev:(es.toList.map (·.2))[y]? =some es[y].2:=by rw[aX,b6,cI hlt];rfl
  dsimp only[Option.map,rawInt];unfold setNextDrawn;refine eE (eE (eH hS rfl X.fit ?_));dsimp only;rw[if_neg (by simp)];simp only[bP];rw[cI hlt];refine eX (eE (wpAny_setField hI rfl (show 1<5 by decide) ?_));have h2:=cQ (Obj.mapFields (·.setIfInBounds 1 (Value.int ((i:Int)+1) 0))) hI rfl;refine eX ⟨es[y].2,rfl,eX (k y _ _ ho ev ?_ λb o nb e=>?_)⟩
  ·rw[h2];show some _=some _;congr 1
  ·rw[cF _ _ (Ne.symm nb)];exact e
 |none=>
  dsimp only[Option.map];refine eE (wpAny_setField hI rfl (show 0<5 by decide) ?_);have h1:=cQ (Obj.mapFields (·.setIfInBounds 0 (Value.int 0 0))) hI rfl;refine eE (wpAny_setField h1 rfl (show 2<5 by decide) (yt hh ?_));refine eE (wpAny_isInstance (T:="StopIteration") (b:=true) ⟨_,bD _ rfl,rfl⟩ isSubtype_stop (eX (k0 ho _ λb o nb e=>?_)));refine aS _ (aS _ ?_);rw[cF _ _ (Ne.symm nb),cF _ _ (Ne.symm nb)]
  exact e
theorem Jh:Slot "set_iterator" "__iter__" "set_iterator.__iter__":=
 .of (owner:="set_iterator") (n:="__iter__") (by rw[typeLookup_type,builtinLookup_eq_fast];kernel_rfl) (by decide +kernel) (by decide +kernel) (by decide +kernel)
  (by first | exact .inl (by decide +kernel) | exact .inr (by decide +kernel)) (by rw[isSubtype_type];kernel_rfl)
theorem Pe:entryFor table "set_iterator.__iter__"=some Builtin.«dict_keyiterator.__iter__»:=entryFor_alias (id':="dict_keyiterator.__iter__") (by decide +kernel) (by decide +kernel) (by decide +kernel) (by kernel_rfl)
theorem QB(a:Value):argsOk "set_iterator.__iter__" ⟨[a],[]⟩:=by unfold argsOk;kernel_rfl
theorem HJ{f:Value}{i n:Nat}{Q:Value->Shared->Prop}(hI:s.heap.get? I=some (gL f i a n ep))(h:Q (.ref I) s):wpAny (model prog w) A (pyIter (.ref I)) Q E s:=by
 refine wpAny_pyIter_slot (nR hI) Jh (d9 Jh (nR hI) Pe ?_ (QB _));unfold Builtin.«dict_keyiterator.__iter__»;exact eE (m:=slotArgs _ _ _) (eX (eX ⟨(),"set_iterator",_,nR hI,slot_set_itn.lookup,h⟩))
theorem Wb(hh:A.handled=none)(ne:a≠I)(X:gh prog w es t)(nd:w.params.followText "set-order"=true∨(!t.plain&&decide (es.size>1))=false):
  Walks prog w A I [I,a] [I] es.size (λi v=>(kc w a es ep)[i]? =some v) (λi h=>i<=es.size/\h.get? I=some (gL (rawInt (iy w t i)) i a es.size ep)/\h.get? a=some (gY es ep t)) where
 sub:=λb hb=>by simp at hb;simp[hb]
 frame:=λi h h' st k=>⟨st.1,k I (by simp) _ st.2.1,k a (by simp) _ st.2.2⟩
 item:=λi s Q E hi st k=>Ou hh ne st.2.1 st.2.2 X nd st.1 (λv h' ho hI' kp=>k v h' s.toks ho ⟨hi,hI',kp a _ ne st.2.2⟩ λb o nb e=>kp b o (λz=>nb (by simp[z])) e) λho=>by
  have:=List.getElem?_eq_none_iff.mp ho;have hl:=uJ (w:=w) (a:=a) (es:=es) (ep:=ep);omega
 done:=λs Q E st k=>Ou hh ne st.2.1 st.2.2 X nd st.1 (λv h' ho=>by
  obtain⟨z,_⟩:=bB.mp ho;have hl:=uJ (w:=w) (a:=a) (es:=es) (ep:=ep);omega) λ_ h' kp=>k h' s.toks λb o nb e=>kp b o (λz=>nb (by simp[z])) e
 self:=λi s Q E st k=>HJ st.2.1 k
theorem QJ{T:Addr}{ys:List Nat}(hh:A.handled=none)(ne:a≠I)(nT:T≠I)(X:gh prog w es t)(hp:ys.Perm (List.range es.size)):
  Walks prog w A I [I,a,T] [I] es.size (λi v=>∃y,ys[i]? =some y/\(es.toList.map (·.2))[y]? =some v) (λi h=>h.get? I=some (gL (.ref T) i a es.size ep)/\h.get? a=some (gY es ep t)/\h.get? T=some {cls:=.type "tuple",data:=.seq (ys.map λ(y:Nat)=>rawInt y).toArray}) where
 sub:=λb hb=>by simp at hb;simp[hb]
 frame:=λi h h' st k=>⟨k I (by simp) _ st.1,k a (by simp) _ st.2.1,k T (by simp) _ st.2.2⟩
 item:=λi s Q E hi st k=>F3 hh st.1 st.2.2 st.2.1 X (λy hy=>by simpa using hp.mem_iff.mp hy) (λy v h' h1 h2 hI' kp=>k v h' s.toks ⟨y,h1,h2⟩ ⟨hI',kp a _ ne st.2.1,kp T _ nT st.2.2⟩ λb o nb e=>kp b o (λz=>nb (by simp[z])) e) λho=>by
  have:=List.getElem?_eq_none_iff.mp ho;have hl:=hp.length_eq;rw[bY] at hl;omega
 done:=λs Q E st k=>F3 hh st.1 st.2.2 st.2.1 X (λy hy=>by simpa using hp.mem_iff.mp hy) (λy v h' ho=>by
  obtain⟨z,_⟩:=bB.mp ho;have hl:=hp.length_eq;rw[bY] at hl;omega) λ_ h' kp=>k h' s.toks λb o nb e=>kp b o (λz=>nb (by simp[z])) e
 self:=λi s Q E st k=>HJ st.1 k
theorem Wn{Q:Value->Shared->Prop}(hS:s.heap.get? a=some (gY es ep t))(X:gh prog w es t)
  (k:(w.params.followText "set-order"=true∨(!t.plain&&decide (es.size>1))=false)->Q (.ref s.heap.objs.size) {s with heap:=s.heap.push (gL (rawInt 0) 0 a es.size ep)})
  (kD:∀(ys:List Nat) (d:Drawn),ys.Perm (List.range es.size)->Q (.ref (s.heap.objs.size+1)) {s with heap:=(s.heap.push {cls:=.type "tuple",data:=.seq (ys.map λ(y:Nat)=>rawInt y).toArray}).push (gL (.ref s.heap.objs.size) 0 a es.size ep),drawn:=d}):
  wpAny (model prog w) A (pyIter (.ref a)) Q E s:=by
 have hT:s.TypeIs (.ref a) "set":=⟨_,hS,rfl⟩;refine wpAny_pyIter_slot hT F.slot_set_iter (d9 F.slot_set_iter hT Tn ?_ (F.args_set_iter_1 _));unfold Builtin.«frozenset.__iter__» Builtin.Frozenset.slot0;refine eE (eE (m:=slotArgs _ _ _) (eX (eX ?_)));unfold Builtin.Frozenset.sizeOf setEntries;refine eE (eE (eE (eH hS rfl X.fit (eX (eX ?_)))));unfold setDrawn;refine eE (eE (eH hS rfl X.fit ?_));refine eE (uH (eX ?_))
 have sl:=fits_of_scanBound X.sz;dsimp only;change wpAny _ _ (if (!w.params.followText "set-order"&&(!t.plain&&decide (es.size>1)))=true then _ else _) _ _ _;by_cases c:(!w.params.followText "set-order"&&(!t.plain&&decide (es.size>1)))=true
 ·rw[if_pos c];refine eE (Oo es.size (List.range es.size) s _ bY λys d hp=>?_);unfold newTuple;refine eE (eC ?_ (by show (ys.map λ(y:Nat)=>rawInt y).toArray.size<=_;rw[bE,aQ,hp.length_eq,bY];omega));refine eE (wpAny_setEpoch_of (aS _ hS) rfl X.fit ?_);unfold newFields;refine eE (eC (eX ⟨(),"set_iterator",_,⟨_,bD _ rfl,rfl⟩,slot_set_itn.lookup,?_⟩));have:=kD ys d hp;rw[cN];exact this
 ·rw[if_neg c];refine eE (eX (eE (wpAny_setEpoch_of hS rfl X.fit ?_)));unfold newFields;refine eE (eC (eX ⟨(),"set_iterator",_,⟨_,bD _ rfl,rfl⟩,slot_set_itn.lookup,k ?_⟩));cases q:w.params.followText "set-order" with
  |true=>exact .inl rfl
  |false=>
   refine .inr ?_;rw[q] at c;simpa using c
theorem BD{Q:Bool->Shared->Prop}(hT:s.TypeIs (.ref a) "set")(h:Q false s):wpAny (model prog w) A (Builtin.List.listLengthHint (.ref a)) Q E s:=by
 unfold Builtin.List.listLengthHint;refine eE (wpAny_specialOf hT F.slot_set_len.lookup ?_);generalize hid:("set.__len__":String)=id0
 wp_delta
 have parts:splitId id0=some ("set","__len__"):=by subst hid;decide +kernel
 rw[parts];subst hid;refine eE (wpAny_isInstance (T:="set") (b:=true) hT (by rw[isSubtype_type];kernel_rfl) ?_);refine wpAny_ite_split (λz=>absurd z (by decide)) (λ_=>wpAny_ite_split (λ_=>eE (wpAny_typeOf hT (eX h))) λz=>absurd (by decide +kernel) z)
theorem zw{xs:List Value}{acc:Array Value}{n:Nat}(hn:xs.length=n)(its:ItemsOf (λi v=>xs[i]? =some v) acc n):acc.toList=xs:=by
 refine List.ext_getElem? λi=>?_;rw[b6];by_cases c:i<acc.size
 ·have e:=cI c;rw[e,its.2 i _ e]
 ·rw[d8 ⋯,List.getElem?_eq_none (by have:=its.1;omega)]
theorem Xn{R:Result->Shared->Prop}{S:Addr}(hh:A.handled=none)(hS:s.heap.get? a=some (gY es ep t))(X:gh prog w es t)(ne:S≠a)(hL:s.heap.get? S=some {cls:=.type "list",data:=.seq #[]})
  (k:∀(s':Shared) (acc:Array Value) (c:Nat),acc.toList.Perm (es.toList.map (·.2))->(∀b o,b≠S->s.heap.get? b=some o->s'.heap.get? b=some o)->s'.gens=s.gens->s'.os=s.os->s'.heap.get? S=some {cls:=.type "list",data:=.seq acc c}->R (.ok (.ret (.ref S))) s'):
  wpAny (model prog w) A.in1 (Builtin.List.listExtendWith (.ref S) (.ref a) (.ref S)) (λfU s'=>match fU with | .done f=>R (.ok f) s' | .again c'=>c'.quiet=true/\codeAny (model prog w) A c' R s') (λe s'=>R (.error e) s') s:=by
 have sl:=fits_of_scanBound X.sz;have la:a<s.heap.objs.size:=aR hS;have lS:S<s.heap.objs.size:=aR hL;have apart:Builtin.List.listSameRef (.ref S) (.ref a)=false:=by simp[Builtin.List.listSameRef,ne]
 unfold Builtin.List.listExtendWith;refine eE (wpAny_typeOf (T:="set") ⟨_,hS,rfl⟩ ?_);rw[if_neg (by rw[apart];decide)];refine eE (Wn hS X (λnd=>?_) λys d hp=>?_)
 ·have HS:(s.heap.push (gL (rawInt 0) 0 a es.size ep)).get? a=some (gY es ep t):=aS _ hS;have LS:(s.heap.push (gL (rawInt 0) 0 a es.size ep)).get? S=some {cls:=.type "list",data:=.seq #[]}:=aS _ hL;have W:=Wb (A:=A.in1) (ep:=ep) (I:=s.heap.objs.size) hh (aU la) X nd;have ST:0<=es.size/\(s.heap.push (gL (rawInt 0) 0 a es.size ep)).get? s.heap.objs.size=some (gL (rawInt (iy w t 0)) 0 a es.size ep)/\(s.heap.push (gL (rawInt 0) 0 a es.size ep)).get? a=some (gY es ep t):=⟨a9 _,by rw[Ng];exact bD s.heap (o:=gL (rawInt 0) 0 a es.size ep) rfl,HS⟩
  refine eE (eK (BD ⟨_,HS,rfl⟩ ?_));rw[if_pos (by decide)];refine eE (wpAny_rule (eE (show wpAny _ _ (updateSeq S (λl=>l.push Value.none) >>=λ_=>updateSeq S λl=>l.pop) _ _ _ from eE (wpAny_updateSeq LS rfl ?_))));have S1:=cQ (Obj.mapSeq (·.push Value.none)) LS rfl;refine wpAny_updateSeq (hz:=by seq_fits) S1 rfl ?_;have S2:=cQ (Obj.mapSeq (·.pop)) S1 rfl;have oth:∀b o,b≠S->(s.heap.push (gL (rawInt 0) 0 a es.size ep)).get? b=some o->(((s.heap.push (gL (rawInt 0) 0 a es.size ep)).update S (Obj.mapSeq (·.push Value.none))).update S (Obj.mapSeq (·.pop))).get? b=some o:=λb o nb e=>by
   rw[cF _ _ (Ne.symm nb),cF _ _ (Ne.symm nb)];exact e
  have out:S∉[s.heap.objs.size,a]:=by
   simp only[aT,b7,or_false,not_or];exact⟨aU lS,ne⟩
  refine eX ⟨plainId_quiet PySem.F.plain_extend_loop _,codeAny_extend_loopS W.toS sl S out _ es.size 0 _ #[] _ rfl (a9 _) (W.frame 0 _ _ ST λb hb o e=>oth b o (λz=>out (z▸hb)) e) S2 (ItemsOf.nil _) λs' acc c mv S3 its=>?_⟩;exact k s' acc c (by rw[zw uJ its];exact ord_perm) (λb ob nb e=>mv.heap b ob (by simp[nb,aU (aR e)]) (oth b ob nb (aS _ e))) mv.gens mv.os S3
 ·have nT:s.heap.objs.size≠s.heap.objs.size+1:=aU (cS _);have HS:((s.heap.push ({cls:=.type "tuple",data:=.seq (ys.map λ(y:Nat)=>rawInt y).toArray}:Obj)).push (gL (.ref s.heap.objs.size) 0 a es.size ep)).get? a=some (gY es ep t):=aS _ (aS _ hS);have LS:((s.heap.push ({cls:=.type "tuple",data:=.seq (ys.map λ(y:Nat)=>rawInt y).toArray}:Obj)).push (gL (.ref s.heap.objs.size) 0 a es.size ep)).get? S=some {cls:=.type "list",data:=.seq #[]}:=aS _ (aS _ hL)
  have W:=QJ (A:=A.in1) (ep:=ep) (I:=s.heap.objs.size+1) (T:=s.heap.objs.size) hh (aU (b9 la)) nT X hp;have eI:((s.heap.push ({cls:=.type "tuple",data:=.seq (ys.map λ(y:Nat)=>rawInt y).toArray}:Obj)).push (gL (.ref s.heap.objs.size) 0 a es.size ep)).get? (s.heap.objs.size+1)=some (gL (.ref s.heap.objs.size) 0 a es.size ep):=by
   have:=bD (s.heap.push ({cls:=.type "tuple",data:=.seq (ys.map λ(y:Nat)=>rawInt y).toArray}:Obj)) (o:=gL (.ref s.heap.objs.size) 0 a es.size ep) rfl;rw[cN] at this;exact this
  have ST:((s.heap.push ({cls:=.type "tuple",data:=.seq (ys.map λ(y:Nat)=>rawInt y).toArray}:Obj)).push (gL (.ref s.heap.objs.size) 0 a es.size ep)).get? (s.heap.objs.size+1)=some (gL (.ref s.heap.objs.size) 0 a es.size ep)/\((s.heap.push ({cls:=.type "tuple",data:=.seq (ys.map λ(y:Nat)=>rawInt y).toArray}:Obj)).push (gL (.ref s.heap.objs.size) 0 a es.size ep)).get? a=some (gY es ep t)/\((s.heap.push ({cls:=.type "tuple",data:=.seq (ys.map λ(y:Nat)=>rawInt y).toArray}:Obj)).push (gL (.ref s.heap.objs.size) 0 a es.size ep)).get? s.heap.objs.size=some {cls:=.type "tuple",data:=.seq (ys.map λ(y:Nat)=>rawInt y).toArray}:=⟨eI,HS,aS _ (bD _ rfl)⟩
  refine eE (eK (BD ⟨_,HS,rfl⟩ ?_));rw[if_pos (by decide)];refine eE (wpAny_rule (eE (show wpAny _ _ (updateSeq S (λl=>l.push Value.none) >>=λ_=>updateSeq S λl=>l.pop) _ _ _ from eE (wpAny_updateSeq LS rfl ?_))));have S1:=cQ (Obj.mapSeq (·.push Value.none)) LS rfl;refine wpAny_updateSeq (hz:=by seq_fits) S1 rfl ?_;have S2:=cQ (Obj.mapSeq (·.pop)) S1 rfl;have oth:∀b o,b≠S->((s.heap.push ({cls:=.type "tuple",data:=.seq (ys.map λ(y:Nat)=>rawInt y).toArray}:Obj)).push (gL (.ref s.heap.objs.size) 0 a es.size ep)).get? b=some o->((((s.heap.push ({cls:=.type "tuple",data:=.seq (ys.map λ(y:Nat)=>rawInt y).toArray}:Obj)).push (gL (.ref s.heap.objs.size) 0 a es.size ep)).update S (Obj.mapSeq (·.push Value.none))).update S (Obj.mapSeq (·.pop))).get? b=some o:=λb o nb e=>by
   rw[cF _ _ (Ne.symm nb),cF _ _ (Ne.symm nb)];exact e
  have out:S∉[s.heap.objs.size+1,a,s.heap.objs.size]:=by
   simp only[aT,b7,or_false,not_or];exact⟨aU (b9 lS),ne,aU lS⟩
  refine eX ⟨plainId_quiet PySem.F.plain_extend_loop _,codeAny_extend_loopS W.toS sl S out _ es.size 0 _ #[] _ rfl (a9 _) (W.frame 0 _ _ ST λb hb o e=>oth b o (λz=>out (z▸hb)) e) S2 (ItemsOf.nil _) λs' acc c mv S3 its=>?_⟩;have el:acc.toList=ys.map λy=>((es.toList.map (·.2))[y]?).getD .none:=by
   refine zw (by rw[aQ,hp.length_eq,bY]) ⟨its.1,λi v hv=>?_⟩;obtain⟨y,h1,h2⟩:=its.2 i v hv;rw[aX,h1];show some (((es.toList.map (·.2))[y]?).getD .none)=_;rw[h2];rfl
  have er:(List.range es.size).map (λy=>((es.toList.map (·.2))[y]?).getD Value.none)=es.toList.map (·.2):=by
   refine List.ext_getElem? λi=>?_;rw[aX];by_cases c:i<es.size
   ·rw[List.getElem?_range c];show some (((es.toList.map (·.2))[i]?).getD .none)=(es.toList.map (·.2))[i]?;rw[bC (by rw[aQ,bO];exact c)];rfl
   ·rw[List.getElem?_eq_none (by rw[bY];omega),List.getElem?_eq_none (by rw[aQ,bO];omega)];rfl
  refine k s' acc c (by rw[el];exact (hp.map _).trans (List.Perm.of_eq er)) (λb ob nb e=>mv.heap b ob ?_ (oth b ob nb (aS _ (aS _ e)))) mv.gens mv.os S3;simp only[aT,b7,or_false,not_or];exact⟨nb,aU (b9 (aR e))⟩
theorem Sz{Q:List Value->Shared->Prop}(hh:A.handled=none)(hS:s.heap.get? a=some (gY es ep t))(X:gh prog w es t)
  (k:∀(s':Shared) (vs:List Value),vs.Perm (es.toList.map (·.2))->(∀b o,s.heap.get? b=some o->s'.heap.get? b=some o)->s.heap.objs.size<s'.heap.objs.size->s'.gens=s.gens->s'.os=s.os->Q vs s'):wpAny (model prog w) A (collect (.ref a)) Q E s:=by
 let nl:Obj:={cls:=.type "list",data:=.seq ([]:List Value).toArray}
 have S1:(s.heap.push nl).get? s.heap.objs.size=some nl:=bD _ rfl;unfold collect;refine eE (wpAny_runValue (codeAny_builtin F.entry_proto_collect ?_));rw[Around.under_plainId F.plain_proto_collect _];refine eE (eC (eX ⟨plainId_quiet F.plain_list_iadd _,codeAny_builtin F.entry_list_iadd ?_⟩));rw[Around.under_plainId F.plain_list_iadd _];have key:=Xn (A:=A) (s:={s with heap:=s.heap.push nl}) (S:=s.heap.objs.size) (R:=λq s'=>∃acc c,q=.ok (.ret (.ref s.heap.objs.size))/\acc.toList.Perm (es.toList.map (·.2))/\(∀b o,s.heap.get? b=some o->s'.heap.get? b=some o)/\s'.gens=s.gens/\s'.os=s.os/\s'.heap.get? s.heap.objs.size=some {cls:=.type "list",data:=.seq acc c})
  hh (aS _ hS) X (Nat.ne_of_gt (aR hS)) S1 λs' acc c p kp g o e=>⟨acc,c,rfl,p,λb ob q=>kp b ob (aU (aR q)) (aS _ q),g,o,e⟩
 have fU:∀s' acc c,acc.toList.Perm (es.toList.map (·.2))->(∀b o,s.heap.get? b=some o->s'.heap.get? b=some o)->s'.gens=s.gens->s'.os=s.os->s'.heap.get? s.heap.objs.size=some {cls:=.type "list",data:=.seq acc c}->
   wpAny (model prog w) A (do let o ←load s.heap.objs.size;match o.data with | .seq xs _=>pure xs.toList | _=>unsupported "internal:collect") Q E s':=λs' acc c p kp g o e=>eE (wpAny_load e (eX (k s' acc.toList p kp (aR e) g o)))
 refine eG key (λf s' x=>?_) λe s' x=>?_
 ·cases f with
  |done f=>
   obtain⟨acc,c,e,p,kp,g,o,q⟩:=x;cases e;exact fU s' acc c p kp g o q
  |again c1=>
   refine⟨x.1,eP x.2 λr s2 y=>?_⟩;obtain⟨acc,c,rfl,p,kp,g,o,q⟩:=y;exact fU s2 acc c p kp g o q
 ·obtain⟨_,_,e',_⟩:=x;cases e'
theorem Ov{Q:Value->Shared->Prop}(hh:A.handled=none)(hS:s.heap.get? a=some (gY es ep t))(X:gh prog w es t)(h64:es.size<64)
  (k:∀(s':Shared) (D:Addr) (vs:List Value) (ns:List Int) (c:Nat),s.heap.objs.size<=D->s'.heap.get? D=some {cls:=.type "list",data:=.seq vs.toArray c}->IntsAre vs ns->ns.Pairwise (·<·)->(∀x,x∈ns↔x∈gW es)->(∀b o,s.heap.get? b=some o->s'.heap.get? b=some o)->s'.gens=s.gens->s'.os=s.os->Q (.ref D) s'):
  wpAny (model prog w) A (call (.builtin "sorted") [.ref a]) Q E s:=by
 refine Calls.call_function_entry kind_sorted plain_sorted entry_sorted (args_sorted1 _) ?_;unfold Builtin.«sorted»;refine eE (m:=checkCount "sorted" 1 1 _) (eX (eE (Sz (A:=A.in1) hh hS X λs1 vs hp k1 sz1 g1 o1=>?_)));have hl:vs.length=es.size:=by rw[hp.length_eq,aQ,bO]
 refine eE (wpAny_newList ?_ (by rw[hl,eJ];omega));have hin:IntsAre vs (vs.map nO):=by
  have all:∀v∈vs,∃t,v=.int (nO v) t:=λv hv=>by
   obtain⟨e,he,rfl⟩:=bG.mp (hp.mem_iff.mp hv);exact JA X.el he
  clear hp hl;induction vs with
  |nil=>exact .nil
  |cons v r ih=>
   obtain⟨t,e⟩:=all v (by simp);rw[bT];rw[e];exact .cons _ _ (ih λu hu=>all u (bM _ hu))
 have zp:(vs.map nO).Perm (gW es):=by
  have:=hp.map nO;rw[cW] at this;exact this
 have hoL:(s1.heap.push (seqObj "list" vs.toArray 0)).get? s1.heap.objs.size=some (seqObj "list" vs.toArray 0):=bD _ rfl;refine eE (eK (d9 slot_list_sort ⟨_,hoL,rfl⟩ entry_list_sort (list_sort_tree hoL hin ⋯ λout ns' a1 a2 a3=>⟨(),?_⟩) (args_list_sort _)));obtain⟨e,he⟩:=sortedHeap_at (out:=out) hoL;refine eX ⟨(),k _ s1.heap.objs.size out.toList ns' e (Nat.le_of_lt sz1) (by rw[Array.toArray_toList];exact he) a1 ?_ (λx=>by rw[a2.mem_iff,zp.mem_iff]) (λb ob q=>?_) g1 o1⟩
 ·have nd:ns'.Nodup:=a2.nodup_iff.mpr (zp.nodup_iff.mpr X.nd);exact (List.pairwise_and_iff.mpr ⟨a3,nd⟩).imp λ⟨h1,h2⟩=>by omega
 ·have q1:=k1 b ob q;have lb:=aR q1;rw[sortedHeap_old (aU lb) (by rw[size_push'];exact b9 lb)];exact aS _ q1
end
noncomputable def uv(P:Program)(w:World)(q:Addr)(ns:List Int):HO:=.ext λh=>∃es ep t,h.get? q=some (gY es ep t)/\gh P w es t/\∀x,x∈gW es↔x∈ns
theorem Inv.other{X:Cx}{pins:List (Addr×Obj)}{σ:St}{H:Hp}{s s':Shared}(I:Inv X pins σ H s)(e1:s'.heap=s.heap)(e2:s'.gens=s.gens)(e3:s'.os=s.os):Inv X pins σ H s':=by
 obtain⟨h,g,d,t,o⟩:=s;obtain⟨h',g',d',t',o'⟩:=s';cases e1;cases e2;cases e3;exact⟨I.ok,I.os,I.bare,I.base,I.loc,I.cell,I.free,I.freeC,I.pin,I.hok,I.len⟩
theorem x8:∀{ns:List Int} {us:List Value},Vals (ns.map V.int) us->IntsAre us ns
 |[],_,r=>by cases r;exact .nil
 |n::ns,_,.cons h r=>by
  obtain⟨t,rfl⟩:=h;exact .cons n t (x8 r)
section
variable{X:Cx}
theorem M4(hc:X.calm=true:=by rfl):ig X (.type "set") (λxs H Q=>∃(p:Addr) (ns:List Int),xs=[.ref p]/\SqL X.K H p (ns.map V.int)/\ns.length+1<4096/\∀q,H q=none->Q (.ref q) (upd H q (uv X.prog X.w q ns))):=by
 refine⟨λpins s σ H xs us Q I r h=>?_⟩;obtain⟨p,ns,rfl,hS,hl,k⟩:=h;obtain⟨u,rfl,ru⟩:=iO r;cases ru;obtain⟨its,rv,pl,hlen⟩:=I.list hS;have hi:=x8 rv;refine O4 (I.ok.hd hc) pl.isList (by simpa using hi) (by have:=IntsAre.length hi;show its.toArray.size+1<4096;rw[bE];omega) λh' tk es ep t e SE m kp=>?_;refine⟨.ref s.heap.objs.size,_,I.laid (a:=s.heap.objs.size) (o:=uv X.prog X.w s.heap.objs.size ns) kp (aP _) ⟨⟨es,ep,t,e,SE,m⟩,⟨_,e⟩,λh1 h2 ⟨es,ep,t,e,SE,m⟩ kk=>⟨es,ep,t,kk _ e,SE,m⟩⟩,rfl,k _ (I.hok.fresh (aP _))⟩
variable{js:List Nat}{σ:St}{tt:TT}{te:TE}{Q:VK}{H1:Hp}
end
theorem rY{a b:List Nat}{A B:Prop}(h1:a=b->A)(h2:¬a=b->B):if decide (V.str (Tx a)=V.str (Tx b))=true then A else B:=by
 rw[pI];exact io h1 h2
end L2
namespace KM
open PySem PySem.Spec PyProof.Rows L2
inductive Mk where
 |num (m:Int) | lst (b:Int) | nea (d:Int) | wrk | wkd (m:Int) | nth (w m:Int) | one (w:Int) | nil
 deriving DecidableEq
abbrev Ko:=Option (List Mk)
def Lf(l f:Int):Prop:=(28<=l/\l<=31)/\0<=f/\f<=6
noncomputable def jm(ds:List Int):Int:=(ds.map λd=>1*2^d.toNat).sum
noncomputable def sI:List Int->Bool
 |[]=>true
 |[_]=>true
 |x::y::r=>decide (x<y)&&sI (y::r)
noncomputable def rO(ds:List Int):Bool:=decide (ds.length<=31)&&(sI ds&&ds.all λd=>decide (0<=d)&&decide (d<=31))
theorem BX:∀{ds:List Int},sI ds=true->ds.Pairwise (·<·)
 |[],_=>.nil
 |[_],_=>.cons (λ_ h=>nomatch h) .nil
 |x::y::r,h=>by
  have h':(decide (x<y)&&sI (y::r))=true:=h;rw[bL] at h';have ih:=BX h'.2;refine .cons (λz hz=>?_) ih;rcases aT.mp hz with rfl | hz
  ·exact eQ h'.1
  ·exact Int.lt_trans (eQ h'.1) ((cX.mp ih).1 z hz)
theorem V0{ds:List Int}(h:rO ds=true):ds.length<=31/\ds.Pairwise (·<·)/\∀d∈ds,0<=d/\d<=31:=by
 unfold rO at h;rw[bL,bL] at h;refine⟨eQ h.1,BX h.2.1,λd hd=>?_⟩;have z:=cG.mp h.2.2 d hd;rw[bL] at z;exact⟨eQ z.1,eQ z.2⟩
theorem yb:∀{zs ns:List Int},zs.Pairwise (·<·)->ns.Pairwise (·<·)->(∀x,x∈zs↔x∈ns)->zs=ns
 |[],[],_,_,_=>rfl
 |[],n::ns,_,_,h=>nomatch (h n).mpr (a8 ..)
 |z::zs,[],_,_,h=>nomatch (h z).mp (a8 ..)
 |z::zs,n::ns,h1,h2,h=>by
  have p1:=cX.mp h1;have p2:=cX.mp h2;have e:z=n:=by
   rcases aT.mp ((h z).mp (a8 ..)) with e | hz
   ·exact e
   ·rcases aT.mp ((h n).mpr (a8 ..)) with e | hn
    ·exact e.symm
    ·have a:=p2.1 z hz;have b:=p1.1 n hn;omega
  subst e;have ih:=yb p1.2 p2.2 λx=>by
   constructor
   ·intro hx;rcases aT.mp ((h x).mp (bM _ hx)) with e | hx'
    ·have:=p1.1 x hx;omega
    ·exact hx'
   ·intro hx;rcases aT.mp ((h x).mpr (bM _ hx)) with e | hx'
    ·have:=p2.1 x hx;omega
    ·exact hx'
  rw[ih]
theorem G3(ds:List Int):0<=jm ds:=by
 unfold jm;induction ds with
 |nil=>exact aZ 0
 |cons d ds ih=>
  have:=il d.toNat;rw[bT,List.sum_cons];omega
theorem MH{n:Nat}:∀{ds:List Int} (a:Nat),ds.Pairwise (·<·)->(∀d∈ds,(a:Int)<=d/\d<(n:Int))->a<=n->jm ds+2^a<=2^n
 |[],a,_,_,h=>by
  have:=Nat.pow_le_pow_right (show 0<2 by decide) h;have e:((2:Int)^a)<=2^n:=by exact_mod_cast this
  show (0:Int)+2^a<=2^n;omega
 |d::ds,a,hp,hb,h=>by
  have p:=cX.mp hp;have hd:=hb d (a8 ..);have ih:=MH (n:=n) (d.toNat+1) p.2 (λz hz=>by
   have:=p.1 z hz;have:=hb z (bM _ hz);omega) ⋯
  have hm:=Nat.pow_le_pow_right (show 0<2 by decide) (show a<=d.toNat by omega);have e:((2:Int)^a)<=2^d.toNat:=by exact_mod_cast hm
  have e2:(2:Int)^(d.toNat+1)=2^d.toNat*2:=Int.pow_succ ..;unfold jm at ih ⊢;rw[bT,List.sum_cons];omega
noncomputable def kP(m l:Int):Int:=Builtin.bitAnd m (2*2^l.toNat-2)
noncomputable def mr(b l:Int):Int:=if l<=b then 0 else 1*2^(l-b).toNat
noncomputable def lF(m:Int)(n:Nat):Bool:=decide (Builtin.bitAnd (m / 2^(1+(n:Int)).toNat) 1=1)
noncomputable def jU(m:Int):Nat->List Int
 |0=>[]
 |n+1=>jU m n++(if lF m n=true then [1+(n:Int)] else [])
noncomputable def nw(d l f:Int):Int:=if (f+d-1)%7=6 then (if 1<d then d-1 else 3) else if (f+d-1)%7=0 then (if d<l then d+1 else l-2) else d
noncomputable def mO(d l f:Int):Int:=if l<d then 0 else 1*2^(nw d l f).toNat
noncomputable def wk(f:Int)(n:Nat):Bool:=decide (1<=(f+(1+(n:Int))-1)%7)&&decide ((f+(1+(n:Int))-1)%7<=5)
noncomputable def xi(f:Int):Nat->List Int
 |0=>[]
 |n+1=>xi f n++(if wk f n=true then [1+(n:Int)] else [])
noncomputable def ab(i:Int):Int:=if i<0 then -i else i
noncomputable def Nj(d acc o:Int):Int:=if acc=0 then o else if ab (o-d)<ab (acc-d) then o else acc
noncomputable def lA(w m f:Int):Int:=1+(w-f)%7+7*(m-1)
noncomputable def ky(w m l f:Int):Int:=if l<lA w m f then 0 else 1*2^(lA w m f).toNat
noncomputable def oY(w l f:Int):Int:=l-((f+l-1)%7-w)%7
noncomputable def GY(w l f:Int):Int:=1*2^(oY w l f).toNat
noncomputable def qb(m:Int):Nat->Int
 |0=>0
 |n+1=>Builtin.bitOr (qb m n) (m*2^(7*(0+(n:Int))).toNat)
noncomputable def kb(m l f:Int):Int:=Builtin.bitAnd (qb m 6 / 2^f.toNat*2^(1:Int).toNat) (2*2^l.toNat-2)
noncomputable def WY(f w:Int)(n:Nat):Bool:=decide ((f+(1+(n:Int))-1)%7=w)
noncomputable def qH(f w:Int):Nat->List Int
 |0=>[]
 |n+1=>qH f w n++(if WY f w n=true then [1+(n:Int)] else [])
noncomputable def pH(m f:Int)(n:Nat):Bool:=decide (Builtin.bitAnd (m / 2^((f+(1+(n:Int))-1)%7).toNat) 1=1)
noncomputable def pY(m f:Int):Nat->List Int
 |0=>[]
 |n+1=>pY m f n++(if pH m f n=true then [1+(n:Int)] else [])
noncomputable def se:List Int:=[1,2,3,4,5,6,7,8,9,10,11,12,13,14,15,16,17,18,19,20,21,22,23,24,25,26,27,28,29,30,31]
noncomputable def my:List Int:=[28,29,30,31]
noncomputable def jM:List Int:=[0,1,2,3,4,5,6]
noncomputable def FP:List Int:=[1,2,3,4,5]
noncomputable def pW:List Int:=(List.range 128).map λn:Nat=>(n:Int)
theorem Vi:∀l∈my,∀f∈jM,∀d∈se,d<=l->(xi f l.toNat).foldl (Nj d) 0=nw d l f/\1<=nw d l f/\nw d l f<=31:=by decide +kernel
theorem PD:∀l∈my,∀f∈jM,∀w∈jM,∀m∈FP,ky w m l f=jm (NP (qH f w l.toNat) (some (m-1)) (some m))/\rO (NP (qH f w l.toNat) (some (m-1)) (some m))=true/\0<=lA w m f/\lA w m f<=100:=by decide +kernel
theorem PZ:∀l∈my,∀f∈jM,∀w∈jM,hZ ((qH f w l.toNat).map V.int) (-1)=some (V.int (oY w l f))/\0<=oY w l f/\oY w l f<=31:=by decide +kernel
theorem Cg:∀m∈pW,∀l∈my,∀f∈jM,kb m l f=jm (pY m f l.toNat)/\rO (pY m f l.toNat)=true:=by decide +kernel
theorem QQ:∀m∈pW,(∀n:Nat,n<7->(qb m n).natAbs<2^60)/\∀f∈jM,(qb m 6 / 2^f.toNat).natAbs<2^64:=by decide +kernel
theorem lZ{l:Int}(h0:28<=l)(h1:l<=31):l∈my:=by
 have:l=28∨l=29∨l=30∨l=31:=⋯;rcases this with rfl | rfl | rfl | rfl<;>decide
theorem jL{f:Int}(h0:0<=f)(h1:f<=6):f∈jM:=by
 have:f=0∨f=1∨f=2∨f=3∨f=4∨f=5∨f=6:=⋯;rcases this with rfl | rfl | rfl | rfl | rfl | rfl | rfl<;>decide
theorem xl{m:Int}(h0:1<=m)(h1:m<=5):m∈FP:=by
 have:m=1∨m=2∨m=3∨m=4∨m=5:=⋯;rcases this with rfl | rfl | rfl | rfl | rfl<;>decide
theorem qW{m:Int}(h0:0<=m)(h1:m<=127):m∈pW:=by
 unfold pW;exact bG.mpr ⟨m.toNat,bW.mpr ⋯,⋯⟩
theorem uA{d:Int}(h0:1<=d)(h1:d<=31):d∈se:=by
 have e:d=1+((d-1).toNat:Int):=⋯;have hn:(d-1).toNat<31:=⋯;rw[e];generalize (d-1).toNat=n at hn;have all:∀n:Nat,n<31->(1+(n:Int))∈se:=by decide +kernel
 exact all n hn
def qE(d l f:Int):Prop:=(1<=d/\d<=31)/\(28<=l/\l<=31)/\0<=f/\f<=6
theorem Im{d l f:Int}(h:qE d l f)(hd:d<=l):(xi f l.toNat).foldl (Nj d) 0=nw d l f/\1<=nw d l f/\nw d l f<=31:=Vi l (lZ h.2.1.1 h.2.1.2) f (jL h.2.2.1 h.2.2.2) d (uA h.1.1 h.1.2) hd
theorem Lf.last{l f:Int}(h:Lf l f):qE l l f:=⟨⟨by have:=h.1.1;omega,h.1.2⟩,h.1,h.2⟩
theorem Zu{m:Int}(h:0<=m)(n:Nat):lF m n=tb m (n+1):=by
 have e:(1+(n:Int)).toNat=n+1:=⋯;unfold lF;rw[e];by_cases c:tb m (n+1)=true
 ·rw[c];exact eS ((og h _).mpr c)
 ·have c':tb m (n+1)=false:=by simpa using c
  rw[c'];exact eV λq=>c ((og h _).mp q)
noncomputable def pD(m:Int)(i:Nat):Bool:=decide (1<=i)&&tb m i
theorem A8{m:Int}(h:0<=m):∀n:Nat,jm (jU m n)=lC (pD m) (n+1)
 |0=>by
  have e:pD m 0=false:=rfl;rw[LI,WI,e];rfl
 |n+1=>by
  have ih:=A8 h n;rw[LI,←ih];show jm (jU m n++(if lF m n=true then [1+(n:Int)] else []))=_;have e:pD m (n+1)=lF m n:=by rw[Zu h];unfold pD;simp
  have e1:(1+(n:Int)).toNat=n+1:=⋯;rw[e];unfold jm;rw[aY,List.sum_append];by_cases c:lF m n=true
  ·rw[if_pos c,if_pos c];show _+(1*2^(1+(n:Int)).toNat+0)=_;rw[e1];omega
  ·rw[if_neg c,if_neg c];rfl
theorem uc(m:Int):∀n:Nat,(jU m n).length<=n/\(jU m n).Pairwise (·<·)/\∀d∈jU m n,0<=d/\d<=n
 |0=>⟨aP _,.nil,λd hd=>nomatch hd⟩
 |n+1=>by
  obtain⟨h1,hp,h2⟩:=uc m n;show (jU m n++(if lF m n=true then [1+(n:Int)] else [])).length<=n+1/\(jU m n++(if lF m n=true then [1+(n:Int)] else [])).Pairwise (·<·)/\∀d∈jU m n++(if lF m n=true then [1+(n:Int)] else []),_;split
  ·refine⟨by simp;omega,cV.mpr ⟨hp,.cons (λ_ h=>nomatch h) .nil,λa ha b hb=>?_⟩,λd hd=>?_⟩
   ·have:b=1+(n:Int):=by simpa using hb
    have:=h2 a ha;omega
   ·rcases bS.mp hd with z | z
    ·have:=h2 d z;omega
    ·have:d=1+(n:Int):=by simpa using z
     omega
  ·rw[cC];refine⟨⋯,hp,λd hd=>?_⟩;have:=h2 d hd;omega
theorem vc{m l:Int}(h:0<=m)(hl:28<=l/\l<=31):kP m l=jm (jU m l.toNat)/\(jU m l.toNat).length<=31/\(jU m l.toNat).Pairwise (·<·)/\∀d∈jU m l.toNat,0<=d/\d<=31:=by
 obtain⟨k1,kp,k2⟩:=uc m l.toNat;have hp:=il l.toNat;refine⟨?_,⋯,kp,λd hd=>by have:=k2 d hd;omega⟩;rw[A8 h];have e:(2*2^l.toNat-2:Int)=(2^l.toNat-1)*2^1:=⋯;have n0:(0:Int)<=2^l.toNat-1:=⋯;have n1:(0:Int)<=(2^l.toNat-1)*2^1:=⋯;unfold kP;rw[e];refine jS (pQ h n1) (K8 _ _) λi=>?_;rw[lU h n1,rd n0,rq,yN];unfold pD;by_cases c1:1<=i
 ·have:(i-1<l.toNat)↔(i<l.toNat+1):=⋯;simp only[c1,this,decide_true,Bool.true_and];rw[Bool.and_comm]
 ·simp[c1]
theorem rng{l:Int}(hl:28<=l/\l<=31):(-(2^62)<=(1:Int)/\(1:Int)<2^62/\ -(2^62)<=l+1/\l+1<2^62)/\(l+1-1).toNat=l.toNat/\(l+1-1).toNat<=sizeLine:=by
 obtain⟨h0,h1⟩:=hl;refine⟨⟨by decide,by decide,⋯,⋯⟩,⋯,?_⟩;rw[eJ];omega
noncomputable def lT(w m:Int):List (Str×V):=fK "many" (.int m) (fK "weekday" (.int w) [])
theorem SW:¬(("weekday":Str)="many"):=by decide +kernel
theorem UU(w m:Int):(lT w m).lookup ("weekday":Str)=some (.int w):=by
 unfold lT;rw[gc,if_neg SW,gc,if_pos rfl]
theorem TR(w m:Int):(lT w m).lookup ("many":Str)=some (.int m):=by
 unfold lT;rw[gc,if_pos rfl]
theorem TH(w m:Int):(lT w m).lookup ("days":Str)=none:=by
 unfold lT;rw[gc,if_neg (by decide +kernel),gc,if_neg (by decide +kernel)];rfl
noncomputable def Mk.due:Mk->Int->Int->Int
 |.num m,l,_=>kP m l
 |.lst b,l,_=>mr b l
 |.nea d,l,f=>mO d l f
 |.wrk,l,f=>1*2^(nw l l f).toNat
 |.wkd m,l,f=>kb m l f
 |.nth w m,l,f=>ky w m l f
 |.one w,l,f=>GY w l f
 |.nil,_,_=>0
def Mk.ok:Mk->Prop
 |.num m=>0<=m
 |.lst b=>0<=b/\b<=30
 |.nea d=>1<=d/\d<=31
 |.wrk=>True
 |.wkd m=>0<=m/\m<=127
 |.nth w m=>(0<=w/\w<=6)/\1<=m/\m<=5
 |.one w=>0<=w/\w<=6
 |.nil=>True
noncomputable def Mk.wk:Mk->Bool
 |.wkd _ | .nth _ _ | .one _=>true
 |_=>false
noncomputable def Mk.tup:Mk->List V
 |.num m=>[.str (Tx [112,108,97,105,110]),.int m,.int 0]
 |.wkd m=>[.str (Tx [112,108,97,105,110]),.int m,.int 0]
 |.lst b=>[.str (Tx [108,97,115,116]),.int b,.int 0]
 |.nea d=>[.str (Tx [110,101,97,114]),.int d,.int 0]
 |.wrk=>[.str (Tx [119,111,114,107]),.int 0,.int 0]
 |.nth w m=>[.str (Tx [110,116,104]),.int w,.int m]
 |.one w=>[.str (Tx [108,97,115,116,111,110,101]),.int w,.int 0]
 |.nil=>[]
noncomputable def Mk.sp:Mk->Bool
 |.nil=>false
 |_=>true
theorem nH{k:Mk}{l f:Int}(hk:k.ok)(h:Lf l f):0<=k.due l f:=by
 have p1:∀n:Nat,(0:Int)<=1*2^n:=λn=>by have:=il n;omega
 cases k with
 |num m=>show 0<=kP m l;rw[(vc hk h.1).1];exact G3 _
 |lst b=>show 0<=mr b l;unfold mr;split;exact aZ 0;exact p1 _
 |nea d=>show 0<=mO d l f;unfold mO;split;exact aZ 0;exact p1 _
 |wrk=>exact p1 _
 |wkd m=>show 0<=kb m l f;rw[(Cg m (qW hk.1 hk.2) l (lZ h.1.1 h.1.2) f (jL h.2.1 h.2.2)).1];exact G3 _
 |nth w m=>show 0<=ky w m l f;unfold ky;split;exact aZ 0;exact p1 _
 |one w=>exact p1 _
 |nil=>exact aZ 0
noncomputable def jt(ks:List Mk)(l f:Int):Int:=gm (ks.map λk=>k.due l f)
theorem R3(ks:List Mk)(k:Mk)(l f:Int):jt (ks++[k]) l f=Builtin.bitOr (jt ks l f) (k.due l f):=by unfold jt;rw[aY];exact pk _ _
theorem OJ{ks ks':List Mk}{l f:Int}(h:Lf l f)(o:∀k∈ks,k.ok)(o':∀k∈ks',k.ok)(e:∀i,(ks.any λk=>tb (k.due l f) i)=(ks'.any λk=>tb (k.due l f) i)):jt ks l f=jt ks' l f:=by
 have n:∀(js:List Mk),(∀k∈js,k.ok)->∀m∈js.map (λk=>k.due l f),0<=m:=λjs hj m hm=>by
  obtain⟨k,hk,rfl⟩:=bG.mp hm;exact nH (hj k hk) h
 refine jS (ki (n ks o)) (ki (n ks' o')) λi=>?_;unfold jt;rw[jN (n ks o),jN (n ks' o'),List.any_map,List.any_map];exact e i
structure Cs where
 (nu la ne lw we nt lo ma:Addr)
def MkAt(c:Cs)(H:Hp)(x:Addr):Mk->Prop
 |.num m=>∃dx,H x=some (.ins c.nu dx [("mask",.int m)])
 |.lst b=>∃dx,H x=some (.ins c.la dx [("back",.int b)])
 |.nea d=>∃dx,H x=some (.ins c.ne dx [("day",.int d)])
 |.wrk=>∃dx,H x=some (.ins c.lw dx [])
 |.wkd m=>∃dx,H x=some (.ins c.we dx [("mask",.int m)])
 |.nth w m=>∃dx,H x=some (.ins c.nt dx (lT w m))
 |.one w=>∃dx,H x=some (.ins c.lo dx [("weekday",.int w)])
 |.nil=>∃dx,H x=some (.ins c.ma dx [])
theorem MkAt.keep{c:Cs}{H H':Hp}(s:Keep H H'){x:Addr}{k:Mk}(h:MkAt c H x k):MkAt c H' x k:=by
 cases k<;>(obtain⟨dx,h⟩:=h;exact⟨dx,s.ins h⟩)
def PrAt(H:Hp)(p:Addr)(k:Mk):Prop:=k.ok/\k.sp=true/\∃u,H p=some (.tup [.ref u,.bl k.wk])/\H u=some (.tup k.tup)
theorem PrAt.keep{H H':Hp}(s:Keep H H'){p:Addr}{k:Mk}(h:PrAt H p k):PrAt H' p k:=by
 obtain⟨o,e,u,h1,h2⟩:=h;exact⟨o,e,u,s.tup h1,s.tup h2⟩
abbrev Ft(R:Addr->Mk->Prop):List Addr->List Mk->Prop:=Paired R
theorem Ft.get{R:Addr->Mk->Prop}:∀{ps:List Addr} {ks:List Mk},Ft R ps ks->∀{i:Nat} {p:Addr},ps[i]? =some p->∃k,ks[i]? =some k/\R p k
 |_,_,.nil,_,_,h=>nomatch h
 |_,_,.cons r _,0,_,h=>by cases h;exact⟨(),r⟩
 |_,_,.cons _ t,i+1,_,h=>Ft.get t h
theorem Ft.keepM{c:Cs}{H H':Hp}(s:Keep H H'){ps:List Addr}{ks:List Mk}(h:Ft (MkAt c H) ps ks):Ft (MkAt c H') ps ks:=Paired.imp' (λ_ _ z=>z.keep s) h
theorem Ft.app{R:Addr->Mk->Prop}:∀{ps:List Addr} {ks:List Mk} {ps':List Addr} {ks':List Mk},Ft R ps ks->Ft R ps' ks'->Ft R (ps++ps') (ks++ks')
 |_,_,_,_,.nil,h=>h
 |_,_,_,_,.cons r t,h=>.cons r (Ft.app t h)
end KM
namespace L2
open PySem
theorem Gh{us:List Value}(h:us.length=1):∃a,us=[a]:=by
 cases us with
 |nil=>cases h
 |cons a r=>cases r with
  |nil=>exact⟨a,rfl⟩
  |cons b r=>cases h
theorem ue{us:List Value}{n:Nat}(h:us.length=n+1):∃a r,us=a::r/\r.length=n:=by
 cases us with
 |nil=>cases h
 |cons a r=>exact⟨a,r,rfl,Nat.succ.inj h⟩
theorem LO{us:List Value}(h:us.length=2):∃a b,us=[a,b]:=by
 obtain⟨a,r,rfl,h'⟩:=ue h;obtain⟨b,rfl⟩:=Gh h';exact⟨a,b,rfl⟩
theorem LR{us:List Value}(h:us.length=3):∃a b c,us=[a,b,c]:=by
 obtain⟨a,r,rfl,h'⟩:=ue h;obtain⟨b,c,rfl⟩:=LO h';exact⟨a,b,c,rfl⟩
theorem vv{us:List Value}(h:us.length=4):∃a b c d,us=[a,b,c,d]:=by
 obtain⟨a,r,rfl,h'⟩:=ue h;obtain⟨b,c,d,rfl⟩:=LR h';exact⟨a,b,c,d,rfl⟩
structure Gw(P:Program)(w:World)(K:FG)(mg:Str->Option Value)(base:Heap)(f:Addr)(k:Nat)(ps:List Str)(sp:Sp):Prop where
 ex:∃fd:FuncData,gk P w K mg base jj k f fd ps sp/\Binds K fd ps []/\PySem.W.keepIn K (.ref f)=true
theorem Df.at_{P:Program}{w:World}{K:FG}{mg:Str->Option Value}{base:Heap}{x:Str}{k:Nat}{ps:List Str}{sp:Sp}{f:Addr}(D:Df P w K mg base x k ps sp)(hm:mg x=some (.ref f)):Gw P w K mg base f k ps sp:=by
 obtain⟨f',fd,F,hb,hm',kp⟩:=D.ex;rw[hm] at hm';cases hm';exact⟨fd,F,hb,kp⟩
def aND(f:Addr)(sp:Sp)(tv:TE)(t:TA):TE:=λσ H Q=>tv σ H λv H1=>v=.ref f/\oS sp [] E0 t σ H1 Q
section
variable{X:Cx}{f:Addr}{k k':Nat}{ps:List Str}{sp:Sp}{y:Str}{e:Expr}{es:List Expr}{t:TA}{tv:TE}{p pos:Pos}
theorem JT(D:Gw X.prog X.w X.K X.mg X.base f k ps sp)(hr:Room k' X.A)(hv:E X (.Name y p) tv)(ha:As X (e::es) t)(hk:k<=k':=by decide)
  (he:starEach (e::es) X.env=(false,eval e X.env)::starEach es X.env:=by rfl) (hpl:(backTo pos (starEach es X.env)).any (·.1)=false:=by rfl):E X (.Call (.Name y p) (e::es) [] pos) (aND f sp tv t):=by
 obtain⟨fd,F,hb,kp⟩:=D.ex;refine⟨λpins s σ H Q I h=>?_⟩;refine eW (fJ (hv.h pins s σ H _ I h) λv s1 ⟨x,H1,I1,r1,ex,q⟩=>?_);subst ex;cases r1;refine PySem.W.callWith_K (h₀:=X.base) I1.ok.mod.kin kp (fJ (ha.h pos pins s1 σ H1 _ I1 q) λus s2 ⟨vs,H2,I2,r,q2⟩=>⟨I2.kIn,?_⟩) he hpl;exact pz F (hr.mono hk) hb .nil nW I2 r q2
end
section
variable{X:Cx}
def I9:V->List V->Hp->VK->Prop:=λx vs H Q=>∃l p:List Nat,x=.str (Tx l)/\vs=[.str (Tx p)]/\Q (.bl (decide (l.take p.length=p))) H
theorem WE(l p:List Nat):(decide (0+(Tx p).length<=(Tx l).length)&&Builtin.Str.subAt (Tx l) (Tx p) 0)=decide (l.take p.length=p):=by
 rw[i6,i6];have e:(Tx l).cps.extract 0 (0+(Tx p).length)=(l.take p.length).toArray:=by
  rw[i6];show l.toArray.extract 0 (0+p.length)=_;simp
 have e2:(((l.take p.length).toArray==p.toArray:Bool))=decide (l.take p.length=p):=by
  by_cases h:l.take p.length=p
  ·rw[h];simp
  ·rw[eV h];exact beq_eq_false_iff_ne.mpr λz=>h (by simpa using congrArg Array.toList z)
 unfold Builtin.Str.subAt;rw[e];show (_&&((l.take p.length).toArray==p.toArray))=_;rw[e2];by_cases h:l.take p.length=p
 ·have:0+p.length<=l.length:=by
   have:=congrArg List.length h;rw[cE] at this;omega
  rw[eS this,Bool.true_and]
 ·rw[eV h,Bool.and_false]
theorem VE:nV X "str.startswith" I9:=by
 intro pins s σ H x xs v us Q I rx rv h;obtain⟨l,p,rfl,rfl,q⟩:=h;obtain⟨u,rfl,r1⟩:=iO rv;obtain⟨t',rfl⟩:=r1;obtain⟨t,rfl⟩:=rx;refine call_gives PySem.F.slot_str_startswith (typeIs_str _ _ _) PySem.F.entry_str_startswith (PySem.F.args_str_startswith_2 _ _) (gives_str_startswith (Tx l) (Tx p) t t') ?_;rw[WE];exact⟨.bl _,H,I,rfl,q⟩
theorem xU{o e:Expr}{to te:TE}{apos cpos:Pos}(ho:E X o to)(he:E X e te)(hbase:attributeBase o "startswith" X.env (eval o X.env)=eval o X.env:=by rfl)
  (hfew:((backTo cpos (starEach [e] X.env)).all (λx=> !x.1)&&(backToKw cpos (keywordEach [] X.env)).all (λx=>x.1.isSome)&&decide (([e]:List Expr).length+([]:List Keyword).length+(if ([]:List Keyword).isEmpty then 0 else 1)<30))=true:=by rfl)
  (hline:(apos.endLine==cpos.line)=true:=by rfl) (hs:starEach [e] X.env=(false,eval e X.env)::starEach [] X.env:=by rfl) (hplain:(backTo cpos (starEach [] X.env)).any (·.1)=false:=by rfl):
  E X (.Call (.Attribute o "startswith" apos) [e] [] cpos) (mZ X.K "str" I9 to (je te iU)):=
 ⟨ou PySem.F.plainAttrs_str PySem.F.slot_str_startswith PySem.F.type_str_startswith VE ho.h (kK he.h k6 hs) hbase hfew hline hs hplain⟩
def AK:V->List V->Hp->VK->Prop:=λx vs H Q=>∃(l:List Nat) (c:Nat),x=.str (Tx l)/\vs=[.str (Tx [c])]/\Q (.bl (decide (l.getLast? =some c))) H
theorem PV(l:List Nat)(c:Nat):(decide (0+(Tx [c]).length<=(Tx l).length)&&Builtin.Str.subAt (Tx l) (Tx [c]) ((Tx l).length-(Tx [c]).length))=decide (l.getLast? =some c):=by
 rw[i6,i6];rcases List.eq_nil_or_concat l with rfl | ⟨r,x,rfl⟩
 ·simp
 ·rw[List.concat_eq_append];have e:(Tx (r++[x])).cps.extract ((r++[x]).length - [c].length) ((r++[x]).length - [c].length+(Tx [c]).length)= #[x]:=by
   show (r++[x]).toArray.extract ((r++[x]).length-1) ((r++[x]).length-1+1)= #[x];rw[aV,b8,Nat.add_sub_cancel];simp
  unfold Builtin.Str.subAt;rw[e];have e2:decide (0+[c].length<=(r++[x]).length)=true:=by simp
  rw[e2,Bool.true_and,List.getLast?_append,List.getLast?_singleton];show (#[x]== #[c])=decide (some x=some c);by_cases h:x=c
  ·subst h;simp
  ·have h2:¬some x=some c:=λz=>h (bH z);rw[eV h2];exact beq_eq_false_iff_ne.mpr λz=>h (by simpa using z)
theorem Xy:nV X "str.endswith" AK:=by
 intro pins s σ H x xs v us Q I rx rv h;obtain⟨l,c,rfl,rfl,q⟩:=h;obtain⟨u,rfl,r1⟩:=iO rv;obtain⟨t',rfl⟩:=r1;obtain⟨t,rfl⟩:=rx;refine call_gives PySem.F.slot_str_endswith (typeIs_str _ _ _) PySem.F.entry_str_endswith (PySem.F.args_str_endswith_2 _ _) (gives_str_endswith (Tx l) (Tx [c]) t t') ?_;rw[PV];exact⟨.bl _,H,I,rfl,q⟩
theorem HI{o e:Expr}{to te:TE}{apos cpos:Pos}(ho:E X o to)(he:E X e te)(hbase:attributeBase o "endswith" X.env (eval o X.env)=eval o X.env:=by rfl)
  (hfew:((backTo cpos (starEach [e] X.env)).all (λx=> !x.1)&&(backToKw cpos (keywordEach [] X.env)).all (λx=>x.1.isSome)&&decide (([e]:List Expr).length+([]:List Keyword).length+(if ([]:List Keyword).isEmpty then 0 else 1)<30))=true:=by rfl)
  (hline:(apos.endLine==cpos.line)=true:=by rfl) (hs:starEach [e] X.env=(false,eval e X.env)::starEach [] X.env:=by rfl) (hplain:(backTo cpos (starEach [] X.env)).any (·.1)=false:=by rfl):
  E X (.Call (.Attribute o "endswith" apos) [e] [] cpos) (mZ X.K "str" AK to (je te iU)):=
 ⟨ou PySem.F.plainAttrs_str PySem.F.slot_str_endswith PySem.F.type_str_endswith Xy ho.h (kK he.h k6 hs) hbase hfew hline hs hplain⟩
end
end L2
namespace KM
open PySem PySem.Spec PyProof.Rows L2
noncomputable def jR(t:List Nat):Option Mk:=
 if t=[76] then some (.lst 0) else if t=[76,87] then some .wrk
 else if t.take ([76,45]:List Nat).length=[76,45] then (gx 1 30 (i7 t (some 2) none)).map Mk.lst
 else if t.getLast? =some 87 then (gx 1 31 (i7 t none (some (-1)))).map Mk.nea else none
noncomputable def kz(t:List Nat):Option Int:=(gx 0 7 t).map λn=>if n=7 then 0 else n
noncomputable def Iv:Option Int->Option Int->Option Mk
 |some w,some m=>some (.nth w m)
 |_,_=>none
noncomputable def lG(t:List Nat):Option Mk:=
 if t.getLast? =some 76 then (kz (i7 t none (some (-1)))).map Mk.one
 else match fv 35 t with
  |[a,b]=>Iv (kz a) (gx 1 5 b)
  |_=>none
noncomputable def kg(wk:Bool)(t:List Nat):Option Mk:=if wk=true then lG t else jR t
def Br(c:Cs)(H:Hp)(v:V):Option Mk->Prop
 |none=>v=.non
 |some k=>∃x,v=.ref x/\MkAt c H x k
theorem ot(c:Nat):∀(l:List Nat),∀w∈fv c l,w.length<=l.length
 |[],w,hw=>by simp[fv] at hw;simp[hw]
 |x::r,w,hw=>by
  have ih:=ot c r;unfold fv at hw;split at hw
  ·rcases aT.mp hw with z | z
   ·subst z;simp
   ·have:=ih w z;simp;omega
  ·split at hw
   ·rename_i h t e;rcases aT.mp hw with z | z
    ·subst z;have:=ih h (by rw[e];simp);simp;omega
    ·have:=ih w (by rw[e];simp[z]);simp;omega
   ·have:w=[x]:=by simpa using hw
    subst this;simp
noncomputable def gU(lo hi:Int)(ws:List (List Nat)):List Int:=ws.filterMap (gA lo hi)
noncomputable def ip(wk:Bool)(lo hi:Int)(ws:List (List Nat)):List Mk:=ws.filterMap λw=>if (gA lo hi w).isSome=true then none else kg wk w
theorem W0{lo hi:Int}{ws:List (List Nat)}{w:List Nat}{m:Int}(h:gA lo hi w=some m):gU lo hi (ws++[w])=gU lo hi ws++[m]:=by
 unfold gU;rw[dY];simp[h]
theorem AD{lo hi:Int}{ws:List (List Nat)}{w:List Nat}(h:gA lo hi w=none):gU lo hi (ws++[w])=gU lo hi ws:=by
 unfold gU;rw[dY];simp[h]
theorem Q4{wk:Bool}{lo hi:Int}{ws:List (List Nat)}{w:List Nat}{m:Int}(h:gA lo hi w=some m):ip wk lo hi (ws++[w])=ip wk lo hi ws:=by
 unfold ip;rw[dY];simp[h]
theorem qL{wk:Bool}{lo hi:Int}{ws:List (List Nat)}{w:List Nat}{k:Mk}(h:gA lo hi w=none)(hk:kg wk w=some k):ip wk lo hi (ws++[w])=ip wk lo hi ws++[k]:=by
 unfold ip;rw[dY];simp[h,hk]
theorem DW(wk:Bool)(lo hi:Int)(ws:List (List Nat))(i:Nat):(ip wk lo hi (ws.take i)).length<=(ip wk lo hi ws).length:=((List.take_sublist i ws).filterMap _).length_le
structure gP(wk:Bool)(lo hi:Int)(l:List Nat):Prop where
 len:l.length<=300
 few:(fv 44 l).length<=40
 all:∀w∈fv 44 l,(gA lo hi w).isSome=true∨(kg wk w).isSome=true
 most:(ip wk lo hi (fv 44 l)).length<=20
theorem ND{xs:List V}(h:xs.length<=40):iI xs none (some 40)=xs:=by
 unfold iI;have e1:HT.sIx xs.length 0 none=0:=rfl;have e2:xs.length<=HT.sIx xs.length xs.length (some 40):=by
  show xs.length<=HT.sIx xs.length xs.length (some 40);unfold HT.sIx;simp;omega
 rw[e1,List.drop_zero,Nat.sub_zero];exact dH e2
def vp(H:Hp)(r:V):Option (Int×Int)->Prop
 |none=>r=.non
 |some (a,b)=>∃p,r=.ref p/\H p=some (.tup [.int a,.int b])
theorem Vz(es:List (Option Int)):(es.map oV).all li=true:=by
 rw[List.all_map];refine cG.mpr λx _=>?_;cases x<;>rfl
noncomputable def gJ(m:Int):Int:=Builtin.bitAnd (Builtin.bitOr m (m / 2^(7:Int).toNat)) 127
noncomputable def kU(wk:Bool)(m:Int):List Mk:=if m=0 then [] else if wk=true then [.wkd (gJ m)] else [.num m]
noncomputable def nk(wk:Bool)(lo hi:Int)(l:List Nat):List Mk:=kU wk (gm (gU lo hi (fv 44 l)))++ip wk lo hi (fv 44 l)
def Cl(t:List Nat):Prop:=(44∉t/\32∉t)/\t≠[]/\t.length<=8
instance (t:List Nat):Decidable (Cl t):=by unfold Cl;exact inferInstance
def nJ(lo hi:Int)(t:List Nat)(ns:List Int):Prop:=gA lo hi t=some (f7 ns)/\Cl t/\(∀n∈ns,lo<=n/\n<=hi)/\ns≠[]/\ns.length<=64
theorem tI{c:Nat}{a b:List Nat}{d:Nat}(h1:c∉a)(h2:c∉b)(h3:c≠d):c∉a++d::b:=by
 simp only[bS,aT,not_or];exact⟨h1,h3,h2⟩
theorem wQ{a b:List Nat}{d:Nat}(ha:(44∉a/\32∉a)/\a≠[]/\a.length<=5)(hb:(44∉b/\32∉b)/\b.length<=2)(h1:44≠d)(h2:32≠d):Cl (a++d::b):=by
 refine⟨⟨tI ha.1.1 hb.1.1 h1,tI ha.1.2 hb.1.2 h2⟩,by simp,?_⟩;have:=ha.2.2;have:=hb.2;rw[aV,bN];omega
theorem oF{n:Nat}(h:n<100):(44∉num n/\32∉num n)/\num n≠[]/\(num n).length<=2:=⟨⟨kS h (by decide),kS h (by decide)⟩,FI n,(rD n h).2.2.2⟩
theorem ql{a b s lo hi:Int}(h0:0<=a)(h1:b<=63)(hab:a<=b)(hs:0<s)(hl:lo<=a)(hb:b<=hi):(∀n∈iw a b s,lo<=n/\n<=hi)/\iw a b s≠[]/\(iw a b s).length<=64:=by
 refine⟨λn hn=>?_,λe=>?_,?_⟩
 ·have:=(vE hs).mp hn;omega
 ·have:a∈iw a b s:=(vE hs).mpr ⟨aZ _,hab,by rw[Int.sub_self];rfl⟩;rw[e] at this;cases this
 ·rw[qy,aQ,bY,rf hs,if_pos hab];have:=Int.ediv_le_self (a:=b-a) s ⋯;omega
theorem OC(a:Int):iw a a 1=[a]:=by
 rw[qy,rf (by decide),if_pos (aZ a),Int.sub_self];show [a+((0:Nat):Int)*1]=[a];simp
theorem i1{lo hi a:Int}(h0:0<=lo)(h1:lo<=a)(h2:a<=hi)(h3:hi<=63):nJ lo hi (num a.toNat) [a]:=by
 have ha:a.toNat<100:=⋯;have e:=yh (lo:=lo) (hi:=hi) ha ⋯ ⋯;rw[bV ⋯] at e;have c:=oF ha;have r:=ql (a:=a) (b:=a) (s:=1) (lo:=lo) (hi:=hi) ⋯ ⋯ ⋯ (by decide) h1 h2;have e2:=xh (kS ha (by decide)) e;unfold j9 at e2;rw[OC] at e2 r;exact⟨e2,⟨c.1,c.2.1,by have:=c.2.2;omega⟩,r⟩
theorem i2{lo hi a b:Int}(h0:0<=lo)(h1:lo<=a)(h2:a<=b)(h4:b<=hi)(h3:hi<=63):nJ lo hi (num a.toNat++45::num b.toNat) (iw a b 1):=by
 have ha:a.toNat<100:=⋯;have hb:b.toNat<100:=⋯;have e:=P1 (lo:=lo) (hi:=hi) ha hb ⋯ ⋯ ⋯;rw[bV ⋯,bV ⋯] at e;have ca:=oF ha;have cb:=oF hb;exact⟨xh (tI (kS ha (by decide)) (kS hb (by decide)) (by decide)) e,wQ ⟨ca.1,ca.2.1,by have:=ca.2.2;omega⟩ ⟨cb.1,cb.2.2⟩ (by decide) (by decide),ql ⋯ ⋯ h2 (by decide) h1 h4⟩
theorem i0{lo hi:Int}(h0:0<=lo)(h1:lo<=hi)(h3:hi<=63):nJ lo hi [42] (iw lo hi 1):=
 ⟨xh (by decide) D9,by decide,ql h0 h3 h1 (by decide) (aZ _) (aZ _)⟩
theorem i3{lo hi s:Int}(h0:0<=lo)(h1:lo<=hi)(h3:hi<=63)(hs:1<=s/\s<=99):nJ lo hi ([42]++47::num s.toNat) (iw lo hi s):=by
 have hs':s.toNat<100:=⋯;have e:=Ic (show 47∉[42] by decide) (D9 (lo:=lo) (hi:=hi)) hs' ⋯;rw[if_neg (by decide),bV ⋯] at e;have cs:=oF hs';exact⟨e,wQ (by decide) ⟨cs.1,cs.2.2⟩ (by decide) (by decide),ql h0 h3 h1 ⋯ (aZ _) (aZ _)⟩
theorem i4{lo hi a s:Int}(h0:0<=lo)(h1:lo<=a)(h2:a<=hi)(h3:hi<=63)(hs:1<=s/\s<=99):nJ lo hi (num a.toNat++47::num s.toNat) (iw a hi s):=by
 have ha:a.toNat<100:=⋯;have hs':s.toNat<100:=⋯;have e1:=yh (lo:=lo) (hi:=hi) ha ⋯ ⋯;have e:=Ic (kS ha (by decide)) e1 hs' ⋯;rw[if_pos (rD _ ha).1,bV ⋯,bV ⋯] at e;have ca:=oF ha;have cs:=oF hs';exact⟨e,wQ ⟨ca.1,ca.2.1,by have:=ca.2.2;omega⟩ ⟨cs.1,cs.2.2⟩ (by decide) (by decide),ql ⋯ h3 h2 ⋯ h1 (aZ _)⟩
theorem Qn:∀{zs:List Int},zs.Pairwise (·<·)->(∀z∈zs,0<=z)->∀i,0<=jm zs/\tb (jm zs) i=zs.any λz=>decide (z.toNat=i):=by
 intro zs hp hn i;have key:∀(n:Nat) (ys:List Int),ys.length=n->ys.Pairwise (·<·)->(∀z∈ys,0<=z)->jm ys=f7 ys:=by
  intro n;induction n with
  |zero=>intro ys h _ _;rw[List.length_eq_zero_iff.mp h];rfl
  |succ n ih=>
   intro ys hl hp hn;rcases List.eq_nil_or_concat ys with rfl | ⟨r,z,rfl⟩
   ·cases hl
   rw[List.concat_eq_append] at hl hp hn ⊢;have hpa:=cV.mp hp;have er:=ih r (by rw[aV,b8] at hl;omega) hpa.1 λx hx=>hn x (cM _ hx);have hz:=hn z (bR _ (aW.mpr rfl));have hb:tb (f7 r) z.toNat=false:=by
    rw[oP,dE];intro x hx;have h1:=hpa.2.2 x hx z (aW.mpr rfl);have h2:=hn x (cM _ hx);have:¬x.toNat=z.toNat:=⋯;simpa using this
   have e1:jm (r++[z])=jm r+1*2^z.toNat:=by unfold jm;rw[aY,List.sum_append];show _+(1*2^z.toNat+0)=_;omega
   have hnn:=jG r;have hp2:=cA (il z.toNat);rw[e1,er,Ob];refine jS ⋯ (mM hnn ⋯) λj=>?_;have e3:(1*2^z.toNat:Int)=2^z.toNat:=⋯;have hz0:Builtin.bitAnd (f7 r) (2^z.toNat)=0:=by
    refine jS (pQ hnn hp2) (aZ 0) λk=>?_;rw[lU hnn hp2,lP,ju];by_cases c:z.toNat=k
    ·subst c;rw[hb];rfl
    ·simp[c]
   have ea:f7 r+2^z.toNat=Builtin.bitOr (f7 r) (2^z.toNat):=by rw[bitOr_and,hz0];omega
   rw[e3,ea]
 rw[key _ zs rfl hp hn];exact⟨jG _,oP _ _⟩
theorem m9{m:Int}(h:0<=m)(i:Nat):0<=gJ m/\tb (gJ m) i=((tb m i||tb m (7+i))&&decide (i<7)):=by
 have h1:(0:Int)<=m / 2^(7:Int).toNat:=Int.ediv_nonneg h (by decide);unfold gJ;refine⟨pQ (mM h h1) (by decide),?_⟩;rw[lU (mM h h1) (by decide),oi h h1,Xd h];have e:tb 127 i=decide (i<7):=rq 7 i;rw[e];rfl
theorem Js{ms:List Int}(h:∀m∈ms,0<=m):gm ms=0↔∀m∈ms,m=0:=by
 constructor
 ·intro e m hm;refine jS (h m hm) (aZ 0) λi=>?_;have z:=jN h i;rw[e,ju] at z;have:=dE.mp z.symm m hm;rw[ju];simpa using this
 ·intro e;refine jS (ki h) (aZ 0) λi=>?_;rw[jN h,ju,dE];intro m hm;rw[e m hm,ju];exact bI
theorem FZ{ms:List Int}(h:∀m∈ms,0<=m):gJ (gm ms)=gm (ms.map gJ):=by
 have h':∀m∈ms.map gJ,0<=m:=λm hm=>by
  obtain⟨z,hz,rfl⟩:=bG.mp hm;exact (m9 (h z hz) 0).1
 refine jS (m9 (ki h) 0).1 (ki h') λi=>?_;rw[(m9 (ki h) i).2,jN h,jN h,jN h',List.any_map,cR];simp only[bL,dO,List.any_eq_true,eU,Function.comp];constructor
 ·rintro⟨⟨m,hm,e⟩ | ⟨m,hm,e⟩,hi⟩
  ·exact⟨m,hm,by rw[(m9 (h m hm) i).2,e,eS hi];rfl⟩
  ·exact⟨m,hm,by rw[(m9 (h m hm) i).2,e,eS hi,Bool.or_true];rfl⟩
 ·rintro⟨m,hm,e⟩;rw[(m9 (h m hm) i).2,bL,dO,eU] at e;rcases e with ⟨e | e,hi⟩
  ·exact⟨.inl ⟨m,hm,e⟩,hi⟩
  ·exact⟨.inr ⟨m,hm,e⟩,hi⟩
theorem vo{m:Int}(h0:0<m)(h1:m<=255):gJ m≠0/\0<=gJ m/\gJ m<=127:=by
 have all:∀n:Nat,n<256->0<n->gJ (n:Int)≠0/\0<=gJ (n:Int)/\gJ (n:Int)<=127:=by decide +kernel
 have e:m=((m.toNat:Nat):Int):=⋯;rw[e];exact all m.toNat ⋯ ⋯
def Ff(b:Bool)(t:List Nat):Mk->Prop
 |.num m=>b=false/\gA 1 31 t=some m/\0<m
 |.wkd m=>b=true/\∃M,gA 0 7 t=some M/\(0<M/\M<=255)/\m=gJ M
 |.nil=>False
 |k=>gA (if b=true then 0 else 1) (if b=true then 7 else 31) t=none/\kg b t=some k
theorem WM:∀n:Nat,n<8->(gA 0 7 (num n++[76])=none/\kg true (num n++[76])=some (.one ((n:Int)%7)))/\Cl (num n++[76]):=by decide +kernel
theorem Wy:∀n:Nat,n<8->∀m:Nat,m<6->1<=m->(gA 0 7 (num n++[35]++num m)=none/\kg true (num n++[35]++num m)=some (.nth ((n:Int)%7) m))/\Cl (num n++[35]++num m):=by decide +kernel
theorem u6{ns:List Int}(h:ns≠[])(hn:∀n∈ns,0<=n):0<f7 ns:=by
 have h0:=jG ns;rcases c8 h0 with h1 | h1
 ·exact h1
 ·cases ns with
  |nil=>exact absurd rfl h
  |cons n r=>
   have z:=oP (n::r) n.toNat;rw[←h1,ju,bX] at z;simp at z
end KM
namespace L2
open PySem PySem.Spec PyProof.Rows PySem.SeqAt
section
variable{X:Cx}
theorem OY:ig X (.builtin "isinstance") (λxs H Q=>∃(v:V) (t:Value) (C':Addr) (b:Bool),xs=[v,.ref C']/\ji X.K H v t/\PySem.W.kitOne X.K t (.ref C')=some b/\Q (.bl b) H):=by
 refine⟨λpins s σ H xs us Q I r h=>?_⟩;obtain⟨v,t,C',b,rfl,ty,e,q⟩:=h;obtain⟨u,w',rfl,r1,r2⟩:=oU r;cases r2;exact OE I r1 ty e λtk=>⟨.bl b,H,I.tok _,rfl,q⟩
structure IsC(K:FG)(C:Addr):Prop where
 ha:PySem.W.findIn K (.ref C) "__class__"=some (some (.builtin "object.__class__"))
 hn:PySem.W.specialIn K (.builtin "object.__class__") "__get__"=some (some (.builtin "getset_descriptor.__get__"))
 htk:PySem.W.takesIn K (.builtin "object.__class__")=some true
 hm:PySem.W.mroIn K C (.type "object")=some true
theorem IsC.ty{K:FG}{C a dx:Addr}{H:Hp}{fs:List (Str×V)}(i:IsC K C)(c:Cls K C)(h:H a=some (.ins C dx fs)):ji K H (.ref a) (.ref C):=.ins h c i.ha i.hn i.htk i.hm
end
end L2
namespace KM
open PySem PySem.Spec PyProof.Rows L2
def TpAt(b:Bool)(H:Hp)(u:Addr)(k:Mk):Prop:=H u=some (.tup k.tup)/\k.sp=true/\k.wk=b/\k.ok
theorem TpAt.keep{b:Bool}{H H':Hp}(s:Keep H H'){u:Addr}{k:Mk}(h:TpAt b H u k):TpAt b H' u k:=⟨s.tup h.1,h.2⟩
theorem Ft.keepT{b:Bool}{H H':Hp}(s:Keep H H'){ps:List Addr}{ks:List Mk}(h:Ft (TpAt b H) ps ks):Ft (TpAt b H') ps ks:=Paired.imp' (λ_ _ z=>z.keep s) h
noncomputable def Mk.pl:Mk->Option Int
 |.num m=>some m
 |.wkd m=>some m
 |_=>none
noncomputable def j4(ks:List Mk):List Int:=ks.filterMap Mk.pl
noncomputable def nG(ks:List Mk):List Mk:=ks.filter λk=>k.pl.isNone
noncomputable def p8(b:Bool)(M:Int):List Mk:=if M=0 then [] else if b=true then [.wkd M] else [.num M]
noncomputable def mK(b:Bool)(ks:List Mk):List Mk:=p8 b (gm (j4 ks))++nG ks
theorem Au{b:Bool}{ks:List Mk}(h:∀k∈ks,k.sp=true/\k.wk=b/\k.ok):∀m∈j4 ks,0<=m/\(b=true->m<=127):=by
 intro m hm;obtain⟨k,hk,e⟩:=List.mem_filterMap.mp hm;have:=h k hk;cases k with
 |num z=>cases e;exact⟨this.2.2,λhb=>by rw[←this.2.1] at hb;cases hb⟩
 |wkd z=>cases e;exact⟨this.2.2.1,λ_=>this.2.2.2⟩
 |lst z=>cases e
 |nea z=>cases e
 |wrk=>cases e
 |nth z y=>cases e
 |one z=>cases e
 |nil=>cases e
theorem vi{ms:List Int}{n:Nat}(h:∀m∈ms,0<=m/\m<2^n):gm ms<2^n:=by
 have h0:∀m∈ms,0<=m:=λm hm=>(h m hm).1;have e:gm ms=lC (tb (gm ms)) n:=by
  refine jS (ki h0) (K8 _ _) λi=>?_;rw[yN];by_cases c:i<n
  ·rw[eS c,Bool.true_and]
  ·rw[eV c,Bool.false_and,jN h0,dE];intro m hm;rw[qg (h m hm).2 ⋯];exact bI
 rw[e];exact WL _ _
theorem Zv{b:Bool}{ks:List Mk}(h:∀k∈ks,k.sp=true/\k.wk=b/\k.ok):∀k∈p8 b (gm (j4 ks)),k.sp=true/\k.wk=b/\k.ok:=by
 have hp:=Au h;have h0:0<=gm (j4 ks):=ki λm hm=>(hp m hm).1;intro k hk;unfold p8 at hk;split at hk
 ·cases hk
 ·split at hk
  ·rename_i hb;rw[aW.mp hk,hb];have e:(2:Int)^7=128:=by decide
   have:=vi (n:=7) (ms:=j4 ks) λm hm=>⟨(hp m hm).1,by have:=(hp m hm).2 hb;omega⟩;exact⟨rfl,rfl,h0,⋯⟩
  ·rename_i hb;rw[aW.mp hk];exact⟨rfl,by cases b with | true=>exact absurd rfl hb | false=>rfl,h0⟩
abbrev Ws(b:Bool):List (List Nat)->List Mk->Prop:=Paired λw k=>Cl w/\Ff b w k
noncomputable def iS(b:Bool):Int:=if b=true then 0 else 1
noncomputable def iW(b:Bool):Int:=if b=true then 7 else 31
theorem EZ(k:Mk)(ks:List Mk):j4 (k::ks)=(match k.pl with | some m=>m::j4 ks | none=>j4 ks)/\nG (k::ks)=(match k.pl with | some _=>nG ks | none=>k::nG ks):=by
 unfold j4 nG;rw[dC,List.filter_cons];cases k.pl<;>exact⟨rfl,rfl⟩
theorem Zf(b:Bool)(lo hi:Int)(w:List Nat)(ws:List (List Nat)):gU lo hi (w::ws)=(match gA lo hi w with | some m=>m::gU lo hi ws | none=>gU lo hi ws)/\ip b lo hi (w::ws)=(match gA lo hi w with | some _=>ip b lo hi ws | none=>match kg b w with | some k=>k::ip b lo hi ws | none=>ip b lo hi ws):=by
 unfold gU ip;rw[dC,dC];cases gA lo hi w with
 |some m=>exact⟨rfl,rfl⟩
 |none=>exact⟨rfl,by cases kg b w<;>rfl⟩
def oZ(b:Bool)(ws:List (List Nat))(ks:List Mk):Prop:=ip b (iS b) (iW b) ws=nG ks/\j4 ks=(gU (iS b) (iW b) ws).map (λm=>if b=true then gJ m else m)/\(∀m∈gU (iS b) (iW b) ws,0<m/\(b=true->m<=255))/\∀w∈ws,(gA (iS b) (iW b) w).isSome=true∨(kg b w).isSome=true
theorem ub(b:Bool):∀{ws:List (List Nat)} {ks:List Mk},Ws b ws ks->oZ b ws ks
 |_,_,.nil=>⟨rfl,rfl,λm hm=>(nomatch hm),λw hw=>(nomatch hw)⟩
 |w::ws,k::ks,.cons r t=>by
  obtain⟨i1,i2,i3,i4⟩:=ub b t;have c1:=EZ k ks;have c2:=Zf b (iS b) (iW b) w ws;have plain:∀(m M:Int),k.pl=some m->gA (iS b) (iW b) w=some M->(m=if b=true then gJ M else M)->(0<M/\(b=true->M<=255))->oZ b (w::ws) (k::ks):=λm M e1 e2 e3 e4=>by
   unfold oZ;rw[e1] at c1;rw[e2] at c2;rw[c1.1,c1.2,c2.1,c2.2];refine⟨i1,by rw[bT,←e3,←i2],λz hz=>?_,λv hv=>?_⟩
   ·rcases aT.mp hz with rfl | hz
    ·exact e4
    ·exact i3 z hz
   ·rcases aT.mp hv with rfl | hv
    ·exact .inl (by rw[e2];rfl)
    ·exact i4 v hv
  have mark:k.pl=none->gA (iS b) (iW b) w=none->kg b w=some k->oZ b (w::ws) (k::ks):=λe1 e2 e3=>by
   unfold oZ;rw[e1] at c1;rw[e2,e3] at c2;rw[c1.1,c1.2,c2.1,c2.2];refine⟨by rw[i1],i2,i3,λv hv=>?_⟩;rcases aT.mp hv with rfl | hv
   ·exact .inr (by rw[e3];rfl)
   ·exact i4 v hv
  cases k with
  |num m=>
   obtain⟨_,hb,hr,h0⟩:=r;subst hb;exact plain m m rfl hr rfl ⟨h0,λz=>nomatch z⟩
  |wkd m=>
   obtain⟨_,hb,M,hr,h0,hm⟩:=r;subst hb;exact plain m M rfl hr hm ⟨h0.1,λ_=>h0.2⟩
  |lst z=>exact mark rfl r.2.1 r.2.2
  |nea z=>exact mark rfl r.2.1 r.2.2
  |wrk=>exact mark rfl r.2.1 r.2.2
  |nth z y=>exact mark rfl r.2.1 r.2.2
  |one z=>exact mark rfl r.2.1 r.2.2
  |nil=>exact r.2.elim
theorem Pc{b:Bool}{ws:List (List Nat)}{ks:List Mk}{l:List Nat}(h:Ws b ws ks)(hl:fv 44 l=ws):nk b (iS b) (iW b) l=mK b ks:=by
 obtain⟨i1,i2,i3,_⟩:=ub b h;have hz:∀m∈gU (iS b) (iW b) ws,0<=m:=λm hm=>cA (i3 m hm).1;unfold nk mK;rw[hl,i1,i2];congr 1;cases b with
 |false=>
  have e:(gU (iS false) (iW false) ws).map (λm=>if false=true then gJ m else m)=gU (iS false) (iW false) ws:=List.map_id'' (λ_=>rfl) _;rw[e];rfl
 |true=>
  have e:gm ((gU (iS true) (iW true) ws).map (λm=>if true=true then gJ m else m))=gJ (gm (gU (iS true) (iW true) ws)):=(FZ hz).symm;rw[e];unfold kU p8;by_cases c:gm (gU (iS true) (iW true) ws)=0
  ·rw[if_pos c,c];rfl
  ·have c2:¬gJ (gm (gU (iS true) (iW true) ws))=0:=λz=>c (by
    rw[FZ hz] at z;have h0:∀m∈(gU (iS true) (iW true) ws).map gJ,0<=m:=λm hm=>by
     obtain⟨y,hy,rfl⟩:=bG.mp hm;exact (m9 (hz y hy) 0).1
    rw[Js hz];intro m hm;have:=(Js h0).mp z (gJ m) (bG.mpr ⟨m,hm,rfl⟩);exact absurd this (vo (i3 m hm).1 ((i3 m hm).2 rfl)).1)
   rw[if_neg c,if_neg c2];rfl
theorem none_of{H H':Hp}(s:Same H H'){p:Addr}(h:H' p=none):H p=none:=by
 cases e:H p with
 |none=>rfl
 |some o=>rw[s _ _ e] at h;cases h
theorem uy:∀(ws:List (List Nat)),(∀w∈ws,w.length<=8)->(gj 44 ws).length<=9*ws.length
 |[],_=>a9 _
 |[w],h=>by
  have:=h w (a8 ..);show w.length<=9;omega
 |w::v::ws,h=>by
  have ih:=uy (v::ws) λz hz=>h z (bM _ hz);have:=h w (a8 ..);show (w++44::gj 44 (v::ws)).length<=_;rw[aV,bN,bN];omega
theorem Ws.cl{b:Bool}:∀{ws:List (List Nat)} {ks:List Mk},Ws b ws ks->∀w∈ws,Cl w
 |_,_,.nil,w,hw=>nomatch hw
 |_,_,.cons r t,w,hw=>by
  rcases aT.mp hw with rfl | hw
  ·exact r.1
  ·exact Ws.cl t w hw
theorem ES{b:Bool}{ws:List (List Nat)}{ks:List Mk}(h:Ws b ws ks)(hne:ws≠[])(hn:ws.length<=20):fv 44 (gj 44 ws)=ws/\gP b (iS b) (iW b) (gj 44 ws):=by
 have hs:=pf 44 ws hne λw hw=>(h.cl w hw).1.1;have hl:=uy ws λw hw=>(h.cl w hw).2.2;refine⟨hs,⋯,by rw[hs];omega,?_,?_⟩
 ·rw[hs];exact (ub b h).2.2.2
 ·rw[hs];exact bK (List.length_filterMap_le ..) hn
def PrT(H:Hp)(ts:List Addr)(prs:List (Nat×Nat)):Prop:=Paired (λ(t:Addr) (pr:Nat×Nat)=>H t=some (.tup [.int pr.1,.int pr.2])) ts prs
theorem PrT.keep{H H':Hp}{ts:List Addr}{prs:List (Nat×Nat)}(h:PrT H ts prs)(k:Keep H H'):PrT H' ts prs:=Paired.mapP h λ_ _ z=>k.tup z
theorem Paired.at{α β:Type}{F:α->β->Prop}:∀{l:List α} {r:List β} {i:Nat} {a:α},Paired F l r->l[i]? =some a->∃b,r[i]? =some b/\F a b
 |_,_,_,_,.nil,e=>by simp at e
 |_,_,0,_,.cons h _,e=>by
  have:=bH e;subst this;exact⟨(),h⟩
 |_,_,i+1,_,.cons _ t,e=>Paired.at (i:=i) t e
noncomputable def rt(x:Nat×Nat):List Nat:=if x.1=x.2 then num x.1 else num x.1++45::num x.2
noncomputable def Dd(b:Bool)(m l f:Int):Int:=if b=true then kb m l f else kP m l
theorem DL{m f:Int}(h:0<=m)(n:Nat):pH m f n=tb m ((f+(1+(n:Int))-1)%7).toNat:=by
 unfold pH;by_cases c:tb m ((f+(1+(n:Int))-1)%7).toNat=true
 ·rw[c];exact eS ((og h _).mpr c)
 ·have c':tb m ((f+(1+(n:Int))-1)%7).toNat=false:=by simpa using c
  rw[c'];exact eV λq=>c ((og h _).mp q)
theorem wkN_mem{m f z:Int}:∀{n:Nat},z∈pY m f n↔∃j,j<n/\pH m f j=true/\z=1+(j:Int)
 |0=>⟨λh=>(nomatch h),λ⟨j,h,_⟩=>absurd h (dM j)⟩
 |n+1=>by
  show z∈pY m f n++(if pH m f n=true then [1+(n:Int)] else [])↔_;rw[bS,wkN_mem];constructor
  ·rintro (⟨j,h1,h2,h3⟩ | h)
   ·exact⟨j,b9 h1,h2,h3⟩
   ·split at h
    ·rename_i c;exact⟨n,cS n,c,aW.mp h⟩
    ·cases h
  ·rintro⟨j,h1,h2,h3⟩;by_cases c:j=n
   ·subst c;rw[if_pos h2];exact .inr (aW.mpr h3)
   ·exact .inl ⟨j,⋯,h2,h3⟩
theorem N2{m l f:Int}(h0:0<=m)(h1:m<=127)(h:Lf l f)(i:Nat):tb (kb m l f) i=(decide (1<=i)&&(decide ((i:Int)<=l)&&tb m ((f+(i:Int)-1)%7).toNat)):=by
 have hw:=Cg m (qW h0 h1) l (lZ h.1.1 h.1.2) f (jL h.2.1 h.2.2);obtain⟨_,hp,hn⟩:=V0 hw.2;rw[hw.1,(Qn hp (λz hz=>(hn z hz).1) i).2,cR,List.any_eq_true];simp only[bL,eU];have hl:=h.1.1;constructor
 ·rintro⟨z,hz,e⟩;obtain⟨j,j1,j2,j3⟩:=wkN_mem.mp hz;rw[DL h0] at j2;have:i=1+j:=⋯;subst this;exact⟨⋯,⋯,j2⟩
 ·rintro⟨i1,i2,i3⟩;refine⟨(i:Int),wkN_mem.mpr ⟨i-1,⋯,?_,⋯⟩,⋯⟩;rw[DL h0,show (1+((i-1:Nat):Int))=(i:Int) by omega];exact i3
theorem F9{m l:Int}(h0:0<=m)(hl:28<=l/\l<=31)(i:Nat):tb (kP m l) i=(tb m i&&tb (2*2^l.toNat-2) i):=by
 have hp:=il l.toNat;exact lU h0 ⋯ i
theorem xj{α:Type}(l:List α)(p:α->Bool)(c:Bool):(l.any λx=>c&&p x)=(c&&l.any p):=by
 induction l with
 |nil=>rw[List.any_nil,List.any_nil,Bool.and_false]
 |cons x r ih=>rw[bX,bX,ih,Bool.and_or_distrib_left]
theorem rC{α:Type}{p q:α->Bool}:∀{l:List α},(∀x∈l,p x=q x)->l.any p=l.any q
 |[],_=>rfl
 |x::r,h=>by rw[bX,bX,h x (a8 ..),rC λy hy=>h y (bM _ hy)]
theorem yr{b:Bool}{ms:List Int}{l f:Int}(hm:∀m∈ms,0<=m/\(b=true->m<=127))(h:Lf l f)(i:Nat):tb (Dd b (gm ms) l f) i=ms.any λm=>tb (Dd b m l f) i:=by
 have h0:∀m∈ms,0<=m:=λm hz=>(hm m hz).1;cases b with
 |false=>
  show tb (kP (gm ms) l) i=ms.any λm=>tb (kP m l) i;rw[F9 (ki h0) h.1,jN h0,Bool.and_comm,←xj];exact rC λm hz=>by rw[F9 (h0 m hz) h.1,Bool.and_comm]
 |true=>
  have e:(2:Int)^7=128:=by decide
  have hM:gm ms<=127:=by
   have:=vi (n:=7) (ms:=ms) λm hz=>⟨h0 m hz,by have:=(hm m hz).2 rfl;omega⟩;omega
  show tb (kb (gm ms) l f) i=ms.any λm=>tb (kb m l f) i;rw[N2 (ki h0) hM h,jN h0,←xj,←xj];exact rC λm hz=>by rw[N2 (h0 m hz) ((hm m hz).2 rfl) h]
theorem ZO{b:Bool}{k:Mk}{m:Int}(hp:k.pl=some m)(hw:k.wk=b)(l f:Int):k.due l f=Dd b m l f:=by
 cases k with
 |num z=>cases hp;cases hw;rfl
 |wkd z=>cases hp;cases hw;rfl
 |lst z=>cases hp
 |nea z=>cases hp
 |wrk=>cases hp
 |nth z y=>cases hp
 |one z=>cases hp
 |nil=>cases hp
theorem AI{b:Bool}(l f:Int)(i:Nat):∀{ks:List Mk},(∀k∈ks,k.wk=b)->(ks.any λk=>tb (k.due l f) i)=((j4 ks).any (λm=>tb (Dd b m l f) i)||(nG ks).any λk=>tb (k.due l f) i)
 |[],_=>rfl
 |k::ks,h=>by
  have ih:=AI l f i (ks:=ks) λz hz=>h z (bM _ hz);have c:=EZ k ks;have hk:=h k (a8 ..);rw[bX,ih];cases e:k.pl with
  |some m=>
   rw[e] at c;rw[c.1,c.2,bX,ZO e hk,Bool.or_assoc]
  |none=>
   rw[e] at c;rw[c.1,c.2,bX];cases tb (k.due l f) i<;>cases (j4 ks).any _<;>rfl
theorem va{b:Bool}{ks:List Mk}(h:∀k∈ks,k.sp=true/\k.wk=b/\k.ok):∀k∈mK b ks,k.sp=true/\k.wk=b/\k.ok:=λk hk=>by
 rcases bS.mp hk with z | z
 ·exact Zv h k z
 ·exact h k ((List.mem_filter.mp z).1)
theorem P8{b:Bool}{ks:List Mk}{l f:Int}(h:∀k∈ks,k.sp=true/\k.wk=b/\k.ok)(hlf:Lf l f):jt (mK b ks) l f=jt ks l f:=by
 refine OJ hlf (λk hk=>(va h k hk).2.2) (λk hk=>(h k hk).2.2) λi=>?_;have hp:=Au h;rw[AI l f i λk hk=>(h k hk).2.1,←yr hp hlf i];unfold mK;rw[List.any_append];congr 1;unfold p8;by_cases c:gm (j4 ks)=0
 ·rw[if_pos c,c];have:=yr (b:=b) (ms:=[]) (λm hm=>nomatch hm) hlf i;rw[show gm []=0 from rfl] at this;rw[this];rfl
 ·rw[if_neg c];cases b with
  |true=>show (tb (kb _ l f) i||false)=_;rw[Bool.or_false];rfl
  |false=>show (tb (kP _ l) i||false)=_;rw[Bool.or_false];rfl
end KM
namespace L2
open PySem PySem.Spec PyProof.Rows
section
variable{X:Cx}{C:Addr}{m:Str}{k k':Nat}{ps:List Str}{sp:Sp}{o:Expr}{ta:TE}{apos pos:Pos}
theorem Lm{pl:Sem Bool}(c:Cls X.K C)(D:n8 X.prog X.w X.K X.mg X.base C m k ps sp)(hr:Room k' X.A)(ho:E X o ta)(hk:k<=k':=by decide)
  (ht:eval (.Call (.Attribute o m apos) [] [] pos) X.env=(do
   let ov ←eval o X.env
   standAt apos.atName
   let (f,first) ←holding [ov] (getMethod ov m pl)
   callWith pos f first (backTo pos (starEach [] X.env)) (backToKw pos (keywordEach [] X.env))):=by rfl):E X (.Call (.Attribute o m apos) [] [] pos) (rG C m sp [] E0 ta iU):=by
 obtain⟨f,fd,F,hb,hm⟩:=D.ex;exact⟨Xs ho.h c hm F (hr.mono hk) hb .nil nW ht⟩
variable{body:List Stmt}{tb:TS}{h:ExceptHandler}{hs:List ExceptHandler}
theorem ZP(hb:Ss X.nox body tb):S X (.Try body (h::hs) [] [] pos) tb:=by
 refine⟨λpins s σ H D I hw=>?_⟩;refine wpAny_Try_except (eG (hb.h pins s σ H D (I.wish _) hw) (λf s1 q=>?_) λe s1 hx=>False.elim hx);cases f with
 |next=>exact wpAny_execs_nil q.unwish
 |ret v=>exact q.unwish
 |brk=>exact q.unwish
 |cont=>exact q.unwish
end
section
variable{js:List Nat}{σ:St}{tt:TT}{te:TE}{Q:VK}{H1:Hp}
theorem Zs{K K':FG}{a:Addr}{xs:List V}(R:Addr->Nat->List V->Hp->Prop)(hm:∀D i l H l',R D i l H->R D i l (upd H D (.lst l')))(hS:∀D i l H H',Same H H'->R D i l H->R D i l H')(hn:xs.length<=sizeLine)(h0:∀D,H1 D=none->R D 0 [] H1)(hq:SqL K H1 a xs)
  (hs:∀(i:Nat) (x:V) (l:List V) (D:Addr) (H2:Hp) (E:V->Hp->Prop) (F:Hp->Prop),xs[i]? =some x->R D i l H2->H1 D=none->Same H1 H2->H2 D=some (.lst l)->(∀y H5,Same H2 H5->R D (i+1) (l++[y]) H5->E y H5)->(∀H4,Same H2 H4->R D (i+1) l H4->F H4)->
   tt (some (.int i)::some x::gT js σ) H2 λb H4=>if b=true then te (some (.int i)::some x::gT js σ) H4 E else F H4)
  (hd:∀(D:Addr) (H2:Hp) (l:List V),R D xs.length l H2->H1 D=none->Same H1 H2->H2 D=some (.lst l)->Q (.ref D) H2):
  w6 (mY K a) 2 js (qY K' 2 (sy (jT 0) (sy (jT 1) uB))) σ tt te Q H1:=by
 intro D hD;refine⟨λi m H2=>m=xs.length-i/\i<=xs.length/\Same H1 H2/\∃l,H2 D=some (.lst l)/\l.length<=i/\R D i l H2,⟨xs.length,by simp,a9 _,fm hD _,[],fk,aP _,hm _ _ _ _ _ (h0 D hD)⟩,?_⟩;rintro i m H2 ⟨rfl,hi,s2,l,h2,hll,hR⟩;by_cases hlt:i<xs.length
 ·refine .inr ⟨⟨xs,xs[i],s2.seq hq,by simp[hlt]⟩,λv H3 y τ hτ=>?_⟩;obtain⟨T,rfl,hT,ev⟩:=y;obtain⟨x,hx,rfl⟩:=ev xs (s2.seq hq);have sT:=fm hT (.tup [.int i,x]);have s3:=s2.trans sT;have h3:=sT _ _ h2;obtain⟨t0,t1,rfl⟩:∃t0 t1,τ=[t0,t1]:=by
   match τ,hτ with
   |[a,b],_=>exact⟨a,b,rfl⟩
  have h:=hs i x l D _ (λy H5=>∃ys,H5 D=some (.lst ys)/\ys.length<sizeLine/\∃m',m'<xs.length-i/\(m'=xs.length-(i+1)/\i+1<=xs.length/\Same H1 (upd H5 D (.lst (ys++[y])))/\∃l,(upd H5 D (.lst (ys++[y]))) D=some (.lst l)/\l.length<=i+1/\R D (i+1) l (upd H5 D (.lst (ys++[y]))))) (λH4=>∃m',m'<xs.length-i/\(m'=xs.length-(i+1)/\i+1<=xs.length/\Same H1 H4/\∃l,H4 D=some (.lst l)/\l.length<=i+1/\R D (i+1) l H4)) hx (hS _ _ _ _ _ sT hR) hD s3 h3
   (λz H5 s5 r5=>by
    refine⟨l,s5 _ _ h3,cZ hll (bJ hlt hn),xs.length-(i+1),⋯,rfl,hlt,λb o hb=>?_,l++[z],fk,by rw[aV,b8];omega,hm _ _ _ _ _ r5⟩;rw[fG (g6 hb hD)];exact s5 _ _ (s3 _ _ hb))
   (λH4 s4 r4=>⟨xs.length-(i+1),⋯,rfl,hlt,s3.trans s4,l,s4 _ _ h3,⋯,r4⟩)
  exact⟨T,[.int i,x],rfl,SqT.of fk,rfl,.int i,[x],rfl,x,[],rfl,rfl,⟨[some (.int i),some x],rfl,rfl⟩,h⟩
 ·have e:i=xs.length:=⋯;subst e;exact .inl ⟨⟨xs,s2.seq hq,rfl⟩,hd D H2 l hR hD s2 h2⟩
end
def KD(K:FG)(a:Addr)(kvs:List (Int×V)):Prop:=
 ∃(es:Array DictEntry) (ep:Nat) (vs:List (gi×Value)),K.lookup a=some ⟨.type "dict",none,.dict es ep,#[]⟩/\KV (kvs.map λx=>((Sum.inl x.1:gi),x.2)) vs/\(vs.map (·.1)).Nodup/\∀(P:Program) (w:World),KeysOf (mQ P w) es/\PySem.Pairs (mQ P w) es.toList vs
def WP(K:FG)(td ty:TE):TE:=λσ H Q=>td σ H λx H1=>ty σ H1 λy H2=>∃a kvs k v,x=.ref a/\KD K a kvs/\y=.int k/\kvs.lookup k=some v/\Q v H2
theorem NI{k:Int}{v:V}:∀{kvs:List (Int×V)} {vs:List (gi×Value)},KV (kvs.map λx=>((Sum.inl x.1:gi),x.2)) vs->kvs.lookup k=some v->∃w',valueAt vs (Sum.inl k:gi)=some w'/\RelV v w'
 |[],_,_,h=>by cases h
 |(k0,v0)::r,_,.cons (b:=(k1,w1)) h t,hl=>by
  obtain⟨e1,e2⟩:=h;have e1:(Sum.inl k0:gi)=k1:=e1;subst e1;rw[dG] at hl;unfold valueAt;by_cases c:k=k0
  ·subst c;rw[show (k==k)=true from beq_self_eq_true k] at hl;cases hl;refine⟨w1,?_,e2⟩;rw[List.find?_cons_of_pos (by simp)];rfl
  ·rw[show (k==k0)=false from beq_false_of_ne c] at hl;obtain⟨w',h1,h2⟩:=NI t hl;refine⟨w',?_,h2⟩;rw[List.find?_cons_of_neg (by simp;exact λz=>c z.symm)];exact h1
section
variable{X:Cx}{o i:Expr}{td ty:TE}{pos:Pos}
theorem ul(ho:E X o td)(hi:E X i ty)(hs:FA i:=by intro _ _;rfl):E X (.Subscript o i pos) (WP X.K td ty):=by
 refine⟨λpins s σ H Q I h=>?_⟩;refine Vh PySem.F.slot_dict_getitem.lookup hs (fJ (ho.h pins s σ H _ I h) λu s1 ⟨x,H1,I1,rx,q1⟩=>fJ (hi.h pins s1 σ H1 _ I1 q1) λiv s2 ⟨y,H2,I2,ry,a,kvs,k,v,ex,hk,ey,l,q2⟩=>?_);subst ex;subst ey;obtain rfl:u=Value.ref a:=rx;obtain⟨es,ep,vs,lk,kv,nd,kp⟩:=hk;obtain⟨k1,k2⟩:=kp X.prog X.w;have dd:s2.heap.DictOf (mQ X.prog X.w) a vs:=⟨_,es,ep,I2.kIn _ _ lk,⟨rfl,rfl,rfl⟩,rfl,k1,k2,nd⟩
 obtain⟨w',hw,rw'⟩:=NI kv l;exact⟨dd.typeIs,wpAny_getItem_of (Pq (k:=Sum.inl k) ry) dd.mapOf hw ⟨v,H2,I2.tok _,rw',q2⟩⟩
end
end L2
namespace KM
open PySem PySem.Spec PyProof.Rows L2
theorem FV{ks:List Mk}{l f:Int}(h:Lf l f)(o:∀k∈ks,k.ok):0<=jt ks l f:=ki λm hm=>by
 obtain⟨k,hk,rfl⟩:=bG.mp hm;exact nH (o k hk) h
def DV(c:Cs)(H:Hp)(v:V):Ko->Prop
 |none=>v=.non
 |some ks=>∃p qs,v=.ref p/\H p=some (.lst (qs.map V.ref))/\Ft (MkAt c H) qs ks/\∀k∈ks,k.ok
theorem DV.keep{c:Cs}{H H':Hp}(s:Same H H'){v:V}:∀{ko:Ko},DV c H v ko->DV c H' v ko
 |none,h=>h
 |some _,⟨p,qs,e,h1,h2,h3⟩=>⟨p,qs,e,s _ _ h1,h2.keepM s.keep,h3⟩
noncomputable def jf(ko:Ko)(a l f:Int):Int:=match ko with
 |none=>a
 |some ks=>Builtin.bitOr a (jt ks l f)
noncomputable def iK(kd kw:Ko)(l f:Int):Int:=if kd.isNone=true/\kw.isNone=true then 2*2^l.toNat-2 else jf kw (jf kd 0 l f) l f
def DT(b:Bool)(t:List Nat)(ko:Ko):Prop:=(32∉t/\t≠[])/\gP b (iS b) (iW b) t/\match ko with
 |none=>t=[42]
 |some ks=>t≠[42]/\(∀k∈ks,k.sp=true/\k.wk=b/\k.ok)/\nk b (iS b) (iW b) t=mK b ks
noncomputable def gO(b:Bool):Ko->Ko
 |none=>none
 |some ks=>some (mK b ks)
theorem zz{b:Bool}{t:List Nat}{ko:Ko}(h:DT b t ko){a l f:Int}(hl:Lf l f):jf (gO b ko) a l f=jf ko a l f:=by
 cases ko with
 |none=>rfl
 |some ks=>
  show Builtin.bitOr a (jt (mK b ks) l f)=Builtin.bitOr a (jt ks l f);rw[P8 h.2.2.2.1 hl]
theorem JE(b:Bool)(ko:Ko):(gO b ko).isNone=ko.isNone:=by cases ko<;>rfl
theorem Vv{t u:List Nat}{kd kw:Ko}(hd:DT false t kd)(hw:DT true u kw){l f:Int}(hl:Lf l f):iK (gO false kd) (gO true kw) l f=iK kd kw l f:=by
 unfold iK;rw[JE,JE,zz hd hl,zz hw hl]
theorem uS{c d:Nat}(hcd:c≠d):∀{ws:List (List Nat)},(∀w∈ws,c∉w)->c∉gj d ws
 |[],_=>b7
 |[w],h=>h w (a8 ..)
 |w::v::ws,h=>by
  show c∉w++d::gj d (v::ws);rw[bS,aT,not_or,not_or];exact⟨h w (a8 ..),hcd,uS hcd λz hz=>h z (bM _ hz)⟩
theorem IV:∀{ws:List (List Nat)},ws≠[]->(∀w∈ws,w≠[])->∀d,gj d ws≠[]
 |[],h,_,_=>absurd rfl h
 |[w],_,h,_=>h w (a8 ..)
 |w::v::ws,_,h,d=>λe=>by
  have e:w++d::gj d (v::ws)=[]:=e;rw[List.append_eq_nil_iff] at e;cases e.2
theorem qK{b:Bool}{ws:List (List Nat)}{ks:List Mk}(h:Ws b ws ks)(hne:ws≠[])(hn:ws.length<=20)(hs:∀w∈ws,w≠[42])(ho:∀k∈ks,k.sp=true/\k.wk=b/\k.ok):DT b (gj 44 ws) (some ks):=by
 have w:=ES h hne hn;refine⟨⟨uS (by decide) λx hx=>(h.cl x hx).1.2,IV hne (λx hx=>(h.cl x hx).2.1) 44⟩,w.2,λe=>?_,ho,Pc h w.1⟩;have e1:=w.1;rw[e] at e1;have e2:fv 44 [42]=[[42]]:=rfl;rw[e2] at e1;exact hs [42] (by rw[←e1];exact aW.mpr rfl) rfl
theorem ni(b:Bool):DT b [42] none:=by
 refine⟨by decide,?_,rfl⟩;have c:Cl [42]/\Ff b [42] (if b=true then .wkd 127 else .num 4294967294):=by
  cases b with
  |true=>exact⟨by decide,rfl,255,by decide +kernel,by decide,by decide +kernel⟩
  |false=>exact⟨by decide,rfl,by decide +kernel,by decide⟩
 exact (ES (.cons c .nil:Ws b [[42]] _) (bZ _ _) (by show 1<=20;decide)).2
structure FT(lo hi:Int)(t:List Nat)(m:Int):Prop where
 ok:K2 lo hi t
 len:t.length<=300
 is:gm (l7 lo hi t)=m
 sp:32∉t
 ne:t≠[]
 nn:0<=m
theorem J3{lo hi:Int}{ws:List (List Nat)}{nss:List (List Int)}(h:Paired (nJ lo hi) ws nss)(hne:ws≠[])(hn:ws.length<=20):FT lo hi (gj 44 ws) (f7 nss.flatten):=by
 have all:∀{ws:List (List Nat)} {nss:List (List Int)},Paired (nJ lo hi) ws nss->(∀w∈ws,Cl w/\(gA lo hi w).isSome=true)/\(ws.map λw=>(gA lo hi w).getD 0)=nss.map f7:=by
  intro ws nss h;induction h with
  |nil=>exact⟨λw hw=>(nomatch hw),rfl⟩
  |cons r t ih=>
   refine⟨λw hw=>?_,?_⟩
   ·rcases aT.mp hw with z | z
    ·subst z;exact⟨r.2.1,by rw[r.1];rfl⟩
    ·exact ih.1 w z
   ·rw[bT,bT,ih.2,r.1];rfl
 have a:=all h;have hs:=pf 44 ws hne λw hw=>(a.1 w hw).1.1.1;have hl:=uy ws λw hw=>(a.1 w hw).1.2.2;refine⟨⟨by rw[hs];omega,by rw[hs];exact λw hw=>(a.1 w hw).2⟩,⋯,?_,uS (by decide) λx hx=>(a.1 x hx).1.1.2,IV hne (λx hx=>(a.1 x hx).1.2.1) 44,jG _⟩;unfold l7;rw[hs,a.2];have nn:∀m∈nss.map f7,0<=m:=λm hm=>by
  obtain⟨z,_,rfl⟩:=bG.mp hm;exact jG _
 refine jS (ki nn) (jG _) λi=>?_;rw[jN nn,oP,List.any_map,List.any_flatten];exact rC λz _=>oP z i
end KM
namespace L2
open PySem PySem.Spec PyProof.Rows
section
open PySem.W Builtin Builtin.ObjectAttr
variable{prog:Program}{w:World}{A:Around}{E:Value->Shared->Prop}{s:Shared}{K:FG}{x C:Addr}{f:Str}{v:Value}{o:Obj}{vs:Array Value}
end
def PY(e C:Addr)(d:Option Addr)(h:Heap):Prop:=∃(vs:Array Value) (sl:Array (Option Value)),h.get? e=some ⟨.ref C,d,.fields vs,sl⟩/\vs[1]? =some .none/\vs[2]? =some .none/\4<vs.size
noncomputable def xn(a C:Addr)(d:Option Addr):HO:=.ext (PY a C d)
theorem PY.ok{P:Program}{w:World}{H:Hp}{h:Heap}{a C:Addr}{d:Option Addr}(x:PY a C d h):ObjOk P w H h a (xn a C d):=by
 obtain⟨vs,sl,e,r⟩:=id x;exact⟨x,⟨_,e⟩,λh1 h2 ⟨vs,sl,e,r⟩ k=>⟨vs,sl,k _ e,r⟩⟩
section
open PySem.W
variable{prog:Program}{w:World}{A:Around}{E:Value->Shared->Prop}{s:Shared}{K:FG}{C fI:Addr}
variable{X:Cx}{pins:List (Addr×Obj)}{σ:St}{H:Hp}
variable{env:Env}
end
structure RoomQ(k:Nat)(A:Around):Prop where
 dp:A.depth+3*k+5<recursionLimit
 un:A.units+16*k+200<cLine
theorem Room.q{k:Nat}{A:Around}(r:Room k A):RoomQ k A:=⟨r.dp,r.un⟩
theorem RoomQ.units{k:Nat}{A:Around}(r:RoomQ k A):A.units+64<cLine:=by have:=r.un;omega
end L2
namespace L2
open PySem PySem.Spec PyProof.Rows PySem.SeqAt
theorem m8{α:Type}[DecidableEq α]:∀{xs ys:List α},xs.Nodup->(∀x∈xs,x∈ys)->xs.length<=ys.length
 |[],_,_,_=>a9 _
 |x::xs,ys,hn,hs=>by
  have hx:x∈ys:=hs x (by simp);have hn':=List.nodup_cons.mp hn;have ih:=m8 (xs:=xs) (ys:=ys.erase x) hn'.2 λz hz=>by
   have ne:z≠x:=λe=>hn'.1 (e▸hz);exact (List.mem_erase_of_ne ne).mpr (hs z (bM _ hz))
  rw[List.length_erase_of_mem hx] at ih;have:0<ys.length:=List.length_pos_of_mem hx;rw[bN];omega
section
variable{X:Cx}
theorem EO(hc:X.calm=true:=by rfl):ig X (.builtin "sorted") (λxs H Q=>∃(q:Addr) (ns:List Int),xs=[.ref q]/\H q=some (uv X.prog X.w q ns)/\ns.length<=63/\∀(D:Addr) (zs:List Int),H D=none->zs.Pairwise (·<·)->(∀x,x∈zs↔x∈ns)->Q (.ref D) (upd H D (.lst (zs.map V.int)))):=by
 refine⟨λpins s σ H xs us Q I r h=>?_⟩;obtain⟨q,ns,rfl,hq,hb,k⟩:=h;obtain⟨u,rfl,ru⟩:=iO r;cases ru;obtain⟨es,ep,t,e,SE,m⟩:=(I.hok q _ hq).1;have h63:=m8 SE.nd λx hx=>(m x).mp hx;have hes:es.size<64:=by
  unfold gW at h63;rw[aQ,bO] at h63;omega
 refine Ov (I.ok.hd hc) e SE hes λs' D vs zs c lD eD hi hp hm kp g o=>?_;have vz:=rS hi;have lz:zs.length<=63:=bK (m8 (hp.imp λh=>by omega) λx hx=>(m x).mp ((hm x).mp hx)) hb;have J:=(I.laid (a:=D) (o:=.lst (zs.map V.int)) (t':=s.toks) (h':=s'.heap) kp lD ⟨by rw[aQ,eJ];omega,vs,c,vz,eD⟩).other (s':=s') rfl g o;exact⟨.ref D,_,J,rfl,k D zs (I.hok.fresh lD) hp λx=>(hm x).trans (m x)⟩
variable{P:Program}{w:World}{K:FG}{mg:Str->Option Value}{base:Heap}{m qual:Str}{st:Stmt}{ps N:List Str}{k:Nat}{sp:Sp}{C:Addr}
variable{x:Str}{k':Nat}{e:Expr}{es:List Expr}{t:TA}{p pos:Pos}{E:XK}
end
end L2
namespace L2
open PySem PySem.Spec PyProof.Rows PySem.SeqAt
section
variable{X:Cx}
theorem OV{x:Str}{k k':Nat}{sp:Sp}{p pos:Pos}(D:Df X.prog X.w X.K X.mg X.base x k [] sp)(hr:Room k' X.A)(hk:k<=k':=by decide)(hg:Gl X x:=by rfl)
  (hdb:(x==("__debug__":Str))=false:=by decide):E X (.Call (.Name x p) [] [] pos) (oS sp [] E0 iU):=by
 obtain⟨f,fd,F,hb,hm,kp⟩:=D.ex;exact⟨WR F (hr.mono hk) hg hm kp hb .nil nW hdb⟩
end
theorem xr{us:List Value}(h:us.length=0):us=[]:=dQ h
theorem RL{K:FG}{H H':Hp}{v:V}{t:Value}(s:Same H H')(h:ji K H v t):ji K H' v t:=by
 cases h with
 |non=>exact .non
 |bl x=>exact .bl x
 |int i=>exact .int i
 |str x=>exact .str x
 |flt x=>exact .flt x
 |lst e=>exact .lst (s _ _ e)
 |frz e=>exact .frz (s _ _ e)
 |tup e=>exact .tup (s _ _ e)
 |dK e=>exact .dK (s _ _ e)
 |dT e=>exact .dT (s _ _ e)
 |ins e c a n k m=>exact .ins (s _ _ e) c a n k m
def IsB(K:FG)(C:Addr)(H:Hp)(v:V)(b:Bool):Prop:=∃t,ji K H v t/\PySem.W.kitOne K t (.ref C)=some b
theorem IsB.keep{K:FG}{C:Addr}{H H':Hp}{v:V}{b:Bool}(h:IsB K C H v b)(s:Same H H'):IsB K C H' v b:=by
 obtain⟨t,h1,h2⟩:=h;exact⟨t,RL s h1,h2⟩
def AB(t u:TS):TS:=λD σ H=>∃I:St->Hp->Prop,t {D with nx:=I} σ H/\∀σ' H',I σ' H'->u D σ' H'
theorem OA{X:Cx}{st:Stmt}{rest:List Stmt}{t u:TS}(h1:S X st t)(h2:Ss X rest u):Ss X (st::rest) (AB t u):=by
 refine⟨λpins s σ H D I h=>?_⟩;obtain⟨J,h,hJ⟩:=h;refine wpAny_execs_cons (fJ (h1.h pins s σ H {D with nx:=J} I h) λf s1 q=>?_);cases f with
 |next=>
  obtain⟨σ',H',I',q⟩:=q;exact h2.h pins s1 σ' H' D I' (hJ _ _ q)
 |ret v=>exact q
 |brk=>exact q
 |cont=>exact q
theorem Digs.non{ds:List Int}(h:Digs ds []):ds=[]:=by cases h;rfl
noncomputable def n6(K:FG)(a b:Addr):It:=
 ⟨λi H=>∃xs ys x y,SqL K H a xs/\SqL K H b ys/\xs[i]? =some x/\ys[i]? =some y,λi H v H'=>∃T,v=.ref T/\H T=none/\∀xs ys,SqL K H a xs->SqL K H b ys->∃x y,xs[i]? =some x/\ys[i]? =some y/\H'=upd H T (.tup [x,y]),
  λi H=>∃xs ys,SqL K H a xs/\SqL K H b ys/\(xs.length=i∨ys.length=i)⟩
theorem VH{P:Program}{w:World}{K:FG}{es:List Expr}{kk:Nat}{pos:Pos}(a b z TI TO i1 i2:Addr)(n:Nat)(ez:z=n+4)(eI:TI=n+2)(eO:TO=n+3)(e1:i1=n)(e2:i2=n+1):
  iQ P w K (.Tuple es kk pos) (n6 K a b) [z,TI,TO,i1,i2] z (λi h=>IsZip h z TI TO .none/\IsPair h TI (.ref i1) (.ref i2)/\(∃x y,IsPair h TO x y)/\h.IsListIter i1 a i/\h.IsListIter i2 b i/\a<n/\b<n) where
 mem:=by simp
 obj:=λi h st c hc=>by
  obtain⟨hz,hI,⟨x,y,hO⟩,⟨o1,q1,_,d1⟩,⟨o2,q2,_,d2⟩,_⟩:=st;simp only[aT,b7,or_false] at hc;rcases hc with rfl | rfl | rfl | rfl | rfl
  ·exact⟨_,hz,λv q=>by have q':Data.fields _=Data.cell v:=q;cases q'⟩
  ·exact⟨_,hI,λv q=>by have q':Data.seq _ _=Data.cell v:=q;cases q'⟩
  ·exact⟨_,hO,λv q=>by have q':Data.seq _ _=Data.cell v:=q;cases q'⟩
  ·exact⟨o1,q1,λv q=>by rw[d1] at q;cases q⟩
  ·exact⟨o2,q2,λv q=>by rw[d2] at q;cases q⟩
 keep:=λi h h' st k=>by
  obtain⟨hz,hI,⟨x,y,hO⟩,h1,h2,la,lb⟩:=st;exact⟨k _ (by simp) _ hz,k _ (by simp) _ hI,⟨x,y,k _ (by simp) _ hO⟩,h1.at λo q=>k _ (by simp) o q,h2.at λo q=>k _ (by simp) o q,la,lb⟩
 item:=by
  intro X hP hw hK hc i pins s σ H E I hf st hg;subst hP hw hK;obtain⟨xs,ys,x,y,hq,hr,hx,hy⟩:=hg;obtain⟨hz,hI,⟨x0,y0,hO⟩,h1,h2,la,lb⟩:=st;obtain⟨its,rv,p,_⟩:=I.list hq;obtain⟨its',rv',p',_⟩:=I.list hr;obtain⟨u,hu,ru⟩:=rv.get hx;obtain⟨u',hu',ru'⟩:=rv'.get hy;have D:ZipApart z TI TO i1 i2 a b:=by subst ez eI eO e1 e2;exact zipApart_new la lb
  refine wpAny_pyNext_zip_item D hz hI hO h1 h2 p.isList p'.isList (x:=u) (y:=u') (by simpa using hu) (by simpa using hu') λg ho hO1 hj1 hj2 hT hsz hk=>?_;refine⟨(),wpAny_letOwnedTupleGo_zip ho λg2 hz2 sb=>?_⟩;have lz:z<s.heap.objs.size:=aR hz;have k2:∀c oc,c∉[z,TI,TO,i1,i2]->s.heap.get? c=some oc->g2.get? c=some oc:=λc oc hc q=>by
   simp only[aT,b7,or_false,not_or] at hc;exact (sb.2 c hc.1).trans (hk c oc hc.1 hc.2.2.1 hc.2.2.2.1 hc.2.2.2.2 q)
  have hTz:s.heap.objs.size≠z:=Nat.ne_of_gt lz;have hT2:g2.get? s.heap.objs.size=some {cls:=.type "tuple",data:=.seq #[u,u']}:=(sb.2 _ hTz).trans hT;have hn:=I.hok.fresh (aP s.heap.objs.size);have I2:Inv X pins σ (upd H s.heap.objs.size (.tup [x,y])) {s with heap:=g2,toks:=s.toks}:=I.turnT k2 hf (aP _) ⟨by show 2<=sizeLine;decide,[u,u'],.cons ru (.cons ru' .nil),⟨_,hT2,rfl,()⟩⟩;refine⟨.ref s.heap.objs.size,_,I2,rfl,⟨s.heap.objs.size,rfl,hn,λxs' ys' e e'=>⟨x,y,by rw[I.list_inj e hq];exact hx,by rw[I.list_inj e' hr];exact hy,rfl⟩⟩,⟨hz2,?_,⟨_,_,(sb.2 _ D.TOz).trans hO1⟩,hj1.at λo q=>(sb.2 _ D.i1z).trans q,hj2.at λo q=>(sb.2 _ D.i2z).trans q,la,lb⟩,λc hc=>?_⟩
  ·exact (sb.2 _ D.TIz).trans (hk _ _ D.TIz D.TITO D.TIi1 D.TIi2 hI)
  have hclt:c<s.heap.objs.size:=by
   have m1:=aR hI;have m2:=aR hO;obtain⟨_,q1,_⟩:=h1;obtain⟨_,q2,_⟩:=h2;simp only[aT,b7,or_false] at hc;rcases hc with rfl | rfl | rfl | rfl | rfl
   ·exact lz
   ·exact m1
   ·exact m2
   ·exact aR q1
   ·exact aR q2
  rw[fG (aU hclt)];exact (hf c hc).1
 done:=by
  intro X hP hw hK hc i pins s σ H E I hf st hg;subst hP hw hK;obtain⟨xs,ys,hq,hr,hx⟩:=hg;obtain⟨hz,hI,⟨x0,y0,hO⟩,h1,h2,la,lb⟩:=st;obtain⟨its,rv,p,_⟩:=I.list hq;obtain⟨its',rv',p',_⟩:=I.list hr;have l1:=rv.length;have l2:=rv'.length;have D:ZipApart z TI TO i1 i2 a b:=by subst ez eI eO e1 e2;exact zipApart_new la lb
  refine wpAny_pyNext_zip_end (I.ok.hd hc) D hz hI hO h1 h2 p.isList p'.isList (hx.imp (λe=>by simp;omega) λe=>by simp;omega) λh' hk=>⟨rfl,?_⟩;exact I.turnN (ch:=[z,TI,TO,i1,i2]) (t':=s.toks) (λc oc hc q=>by
   simp only[aT,b7,or_false,not_or] at hc;exact hk c oc hc.1 hc.2.2.1 hc.2.2.2.1 hc.2.2.2.2 q) hf
 self:=λ_ _ _ _ _ st h=>wpAny_pyIter_zip st.1 h
section
variable{X:Cx}{es:List Expr}{kk:Nat}{tpos:Pos}
def Wj(K:FG)(tl tr:TE):TI:=λσ H R=>tl σ H λx H1=>tr σ H1 λy H2=>∃a b,x=.ref a/\y=.ref b/\(∃xs,SqL K H2 a xs)/\(∃ys,SqL K H2 b ys)/\R (n6 K a b) H2
theorem iZ{l r:Expr}{tl tr:TE}{p pos:Pos}(hm:X.mg "zip"=none)(hl:E X l tl)(hr:E X r tr)(hg:Gl X "zip":=by rfl)(hs:starEach [l,r] X.env=[(false,eval l X.env),(false,eval r X.env)]:=by rfl)(hs2:starEach [r] X.env=[(false,eval r X.env)]:=by rfl):
  Il X (.Tuple es kk tpos) (.Call (.Name "zip" p) [l,r] [] pos) (Wj X.K tl tr):=by
 refine⟨λpins s σ H R I h=>?_⟩;have hA:PA X [l,r] (je tl (je tr iU)):=kK hl.h (kK hr.h k6 hs2) (by rw[hs,hs2]);refine Call_ (nq I hg hm boot_zip (PyProof.Rows.callWith_type1 (fJ (hA pos pins s σ H (λvs H1=>match vs with | [x,y]=>∃a b,x=.ref a/\y=.ref b/\(∃xs,SqL X.K H1 a xs)/\(∃ys,SqL X.K H1 b ys)/\R (n6 X.K a b) H1 | _=>False) I ?_) λus s1 ⟨vs,H1,I1,r1,q1⟩=>?_) (by rw[hs,hs2]) (by rw[hs2];rfl)))
 ·exact h
 match vs,q1,r1 with
 |[x,y],q1,r1=>?_
 obtain⟨a,b,rfl,rfl,⟨xs,hq⟩,⟨ys,hq'⟩,q⟩:=q1;obtain⟨u,u',rfl,rx,ry⟩:=oU r1;cases rx;cases ry;obtain⟨its,rv,pl,hz⟩:=I1.list hq;obtain⟨its',rv',pl',hz'⟩:=I1.list hq';have la:a<s1.heap.objs.size:=by obtain⟨o,q,_⟩:=pl.isList;exact aR q
 have lb:b<s1.heap.objs.size:=by obtain⟨o,q,_⟩:=pl'.isList;exact aR q
 refine call_zip_2 pl.isList pl'.isList λh' hzp hI hO hi1 hi2 hsz hk=>?_;refine wpAny_pyIter_zip hzp ?_;have I2:Inv X pins σ H1 {s1 with heap:=h'}:=I1.kept (t':=s1.toks) hk;refine⟨_,_,_,_,H1,rfl,I2,VH a b _ _ _ _ _ s1.heap.objs.size rfl rfl rfl rfl rfl,⟨hzp,hI,⟨_,_,hO⟩,hi1,hi2,la,lb⟩,λc hc=>?_,q⟩;have hb2:s1.heap.objs.size<=c:=by
  simp only[aT,b7,or_false] at hc;rcases hc with rfl | rfl | rfl | rfl | rfl
  ·exact dP _ _
  ·exact dP _ _
  ·exact dP _ _
  ·exact aP _
  ·exact dP _ _
 exact I1.fpOk hb2 (I1.hok.fresh hb2)
variable{js:List Nat}{σ:St}{tt:TT}{te:TE}{Q:VK}{H1:Hp}
end
theorem iD{X:Cx}{K:FG}{e:Expr}{f:Str}{ta:TE}{pos:Pos}(he:E X e ta)(hK:X.K=K:=by rfl)(hb:attributeBase e f X.env (eval e X.env)=eval e X.env:=by rfl):E X (.Attribute e f pos) (wZ K ta f):=hK▸Q0 he hb
section
variable{js:List Nat}{σ:St}{tt:TT}{te:TE}{Q:VK}{H1:Hp}
theorem sg{K:FG}{a:Addr}{xs:List V}(R:Addr->Nat->List V->Hp->Prop)(hm:∀D i l H l0 l',H D=some (.lst l0)->H1 D=none->R D i l H->R D i l (upd H D (.lst l')))(hn:xs.length<=sizeLine)(h0:∀D,H1 D=none->R D 0 [] (upd H1 D (.lst [])))(hq:SqL K H1 a xs)
  (hs:∀(i:Nat) (v:V) (l:List V) (D:Addr) (H2:Hp) (E:V->Hp->Prop) (F:Hp->Prop),xs[i]? =some v->R D i l H2->H1 D=none->Same H1 H2->H2 D=some (.lst l)->(∀y H5,Same H2 H5->R D (i+1) (l++[y]) H5->E y H5)->(∀H4,Same H2 H4->R D (i+1) l H4->F H4)->
   tt (some v::gT js σ) H2 λb H4=>if b=true then te (some v::gT js σ) H4 E else F H4)
  (hd:∀(D:Addr) (H2:Hp) (l:List V),R D xs.length l H2->H1 D=none->Same H1 H2->H2 D=some (.lst l)->Q (.ref D) H2):mj (mW K a) js σ tt te Q H1:=by
 intro D hD;refine⟨λi m H2=>m=xs.length-i/\i<=xs.length/\Same H1 H2/\∃l,H2 D=some (.lst l)/\l.length<=i/\R D i l H2,⟨xs.length,by simp,a9 _,fm hD _,[],fk,aP _,h0 D hD⟩,?_⟩;rintro i m H2 ⟨rfl,hi,s2,l,h2,hll,hR⟩;by_cases hlt:i<xs.length
 ·refine .inr ⟨⟨xs,xs[i],s2.seq hq,by simp[hlt]⟩,λv H3 y=>?_⟩;obtain⟨e,ev⟩:=y;subst e;refine hs i v l D _ _ _ (ev xs (s2.seq hq)) hR hD s2 h2 (λz H5 s5 r5=>?_) (λH4 s4 r4=>?_)
  ·refine⟨l,s5 _ _ h2,cZ hll (bJ hlt hn),xs.length-(i+1),⋯,rfl,hlt,λb o hb=>?_,l++[z],fk,by rw[aV,b8];omega,hm _ _ _ _ _ _ (s5 _ _ h2) hD r5⟩;rw[fG (g6 hb hD)];exact s5 _ _ (s2 _ _ hb)
  ·exact⟨xs.length-(i+1),⋯,rfl,hlt,s2.trans s4,l,s4 _ _ h2,⋯,r4⟩
 ·have e:i=xs.length:=⋯;subst e;exact .inl ⟨⟨xs,s2.seq hq,aP _⟩,hd D H2 l hR hD s2 h2⟩
theorem Rl{lo:Int}{n:Nat}(R:Addr->Nat->List V->Hp->Prop)(hm:∀D i l H l0 l',H D=some (.lst l0)->H1 D=none->R D i l H->R D i l (upd H D (.lst l')))(hn:n<=sizeLine)(h0:∀D,H1 D=none->R D 0 [] (upd H1 D (.lst [])))
  (hs:∀(i:Nat) (l:List V) (D:Addr) (H2:Hp) (E:V->Hp->Prop) (F:Hp->Prop),i<n->R D i l H2->H1 D=none->Same H1 H2->H2 D=some (.lst l)->(∀y H5,Same H2 H5->R D (i+1) (l++[y]) H5->E y H5)->(∀H4,Same H2 H4->R D (i+1) l H4->F H4)->
   tt (some (.int (lo+i))::gT js σ) H2 λb H4=>if b=true then te (some (.int (lo+i))::gT js σ) H4 E else F H4)
  (hd:∀(D:Addr) (H2:Hp) (l:List V),R D n l H2->H1 D=none->Same H1 H2->H2 D=some (.lst l)->Q (.ref D) H2):mj (lB lo n) js σ tt te Q H1:=by
 intro D hD;refine⟨λi m H2=>m=n-i/\i<=n/\Same H1 H2/\∃l,H2 D=some (.lst l)/\l.length<=i/\R D i l H2,⟨n,by simp,a9 _,fm hD _,[],fk,aP _,h0 D hD⟩,?_⟩;rintro i m H2 ⟨rfl,hi,s2,l,h2,hll,hR⟩;by_cases hlt:i<n
 ·refine .inr ⟨hlt,λv H3 y=>?_⟩;obtain⟨e,ev⟩:=y;subst e ev;refine hs i l D _ _ _ hlt hR hD s2 h2 (λz H5 s5 r5=>?_) (λH4 s4 r4=>?_)
  ·refine⟨l,s5 _ _ h2,cZ hll (bJ hlt hn),n-(i+1),⋯,rfl,hlt,λb o hb=>?_,l++[z],fk,by rw[aV,b8];omega,hm _ _ _ _ _ _ (s5 _ _ h2) hD r5⟩;rw[fG (g6 hb hD)];exact s5 _ _ (s2 _ _ hb)
  ·exact⟨n-(i+1),⋯,rfl,hlt,s2.trans s4,l,s4 _ _ h2,⋯,r4⟩
 ·have e:i=n:=⋯;subst e;exact .inl ⟨aP _,hd D H2 l hR hD s2 h2⟩
variable{prog:Program}{w:World}{A:Around}{E:Value->Shared->Prop}{s:Shared}
variable{X:Cx}{es:List Expr}{kk:Nat}{tpos:Pos}
end
end L2
namespace L2
open PySem PySem.Spec PyProof.Rows PySem.SeqAt
noncomputable abbrev qZ:=Int×Int×Int
noncomputable def rP(p:qZ):PyData:=.tuple [.int p.1,.int p.2.1,.int p.2.2]
noncomputable def tf(l:List qZ):PyData:=.list (l.map rP)
section
variable{X:Cx}
theorem BW:∀ns ms:List qZ,PySem.Spec.sameAll (ns.map rP) (ms.map rP)=decide (ns=ms)
 |[],[]=>by simp[PySem.Spec.sameAll]
 |[],_::_=>by simp[PySem.Spec.sameAll]
 |_::_,[]=>by simp[PySem.Spec.sameAll]
 |(a,b,c)::r,(x,y,z)::q=>by
  simp only[bT,rP,PySem.Spec.sameAll,PySem.Spec.same,BW r q];by_cases h1:a=x<;>by_cases h2:b=y<;>by_cases h3:c=z<;>simp[h1,h2,h3]
theorem om:∀ns ms:List (List qZ),PySem.Spec.sameAll (ns.map tf) (ms.map tf)=decide (ns=ms)
 |[],[]=>by simp[PySem.Spec.sameAll]
 |[],_::_=>by simp[PySem.Spec.sameAll]
 |_::_,[]=>by simp[PySem.Spec.sameAll]
 |a::r,b::q=>by
  simp only[bT,tf,PySem.Spec.sameAll,PySem.Spec.same,BW a b,om r q];by_cases h1:a=b<;>simp[h1]
end
def SameBut(S:Addr->Prop)(H H':Hp):Prop:=∀b o,H b=some o->¬S b->H' b=some o
theorem SameBut.trans{S:Addr->Prop}{H H1 H2:Hp}(a:SameBut S H H1)(b:SameBut S H1 H2):SameBut S H H2:=λc o h n=>b c o (a c o h n) n
theorem SameBut.seq{S:Addr->Prop}{K:FG}{H H':Hp}{a:Addr}{xs:List V}(e:SameBut S H H')(n:∀o,H a=some o->¬S a)(h:SqL K H a xs):SqL K H' a xs:=by
 rcases h with (h | ⟨o,h⟩) | h
 ·exact .inl (.inl (e _ _ h (n _ h)))
 ·exact .inl (.inr ⟨o,e _ _ h (n _ h)⟩)
 ·exact .inr h
theorem fE{N P:List Str}{sc:Scope}(h1:sc.kind=.function:=by rfl)(h2:sc.isCoroutine=false:=by rfl)(h3:sc.isGenerator=false:=by rfl)(h4:N.Nodup:=by decide +kernel)(h5:N.take P.length=P:=by rfl)(h6:∀x∈P,sc.names.lookup x=some .local∨sc.names.lookup x=some .cell:=by decide +kernel)(h7:∀y∈sc.names,y.2≠ .free:=by decide +kernel):eZ N P sc:=⟨h1,h2,h3,h4,h5,h6,h7⟩
theorem zL(n:Nat)(h:n<=100:=by decide):n<=sizeLine:=by rw[eJ];omega
end L2
namespace L2
open PySem PySem.Spec PyProof.Rows PySem.W
noncomputable def gK(H:Hp)(a:Addr):Hp:=λb=>if b=a then none else H b
theorem oe{H:Hp}{a:Addr}:gK H a a=none:=if_pos rfl
theorem ik{H:Hp}{a b:Addr}(h:b≠a):gK H a b=H b:=if_neg h
theorem pR{H:Hp}{a b:Addr}{o:HO}(h:gK H a b=some o):b≠a/\H b=some o:=by
 by_cases e:b=a
 ·rw[e,oe] at h;cases h
 ·rw[ik e] at h;exact⟨e,h⟩
section
variable{P:Program}{w:World}{H:Hp}{h:Heap}{a:Addr}{o:HO}
theorem HOk.era_(x:HOk P w H h)(no:∀z,H a≠some (.own z))(nt:∀xs,H a≠some (.tup xs)):HOk P w (gK H a) h:=λb u e=>by
 obtain⟨hb,e⟩:=pR e;refine (x b u e).stay (λ_ _ _ q=>q) (λc q=>?_) λc xs q=>?_
 ·by_cases z:c=a
  ·exact absurd (z▸q) (no b)
  ·rw[ik z];exact q
 ·by_cases z:c=a
  ·exact absurd (z▸q) (nt xs)
  ·rw[ik z];exact q
theorem HOk.track(x:HOk P w H h)(hn:H a=none)(new:ObjOk P w (upd H a o) h a o):HOk P w (upd H a o) h:=λb u e=>by
 by_cases hb:b=a
 ·subst hb;rw[fk] at e;cases e;exact new
 ·rw[fG hb] at e;exact (x b u e).stay (λ_ _ _ q=>q) (λc q=>by rw[fG (g6 q hn)];exact q) λc xs q=>by rw[fG (g6 q hn)];exact q
end
end L2
namespace L2
open PySem PySem.Spec PyProof.Rows PySem.W
end L2
namespace L2
open PySem PySem.Spec PyProof.Rows PySem.W
section
variable{X:Cx}
def Calls(P:Program)(w:World)(K:Frag)(mg:Str->Option Value)(base:Heap)(k:Nat)(f:Addr)(vs:List V)(H:Hp)(Q:VK):Prop:=
 ∀(A:Around) (outer:List Env) (s:Shared) (us:List Value),Room k A->Env0 P w K mg base A outer s H->Vals vs us->codeAny (model P w) A (.call (.ref f) ⟨us,[]⟩) (CR jj outer P w H s Q E0) s
end
end L2
namespace L2
open PySem PySem.Spec PyProof.Rows PySem.W
end L2
namespace L2
open PySem PySem.Spec PyProof.Rows PySem.SeqAt
end L2
namespace L2
open PySem PySem.Spec PyProof.Rows PySem.SeqAt
theorem fj{X:Cx}{st:Stmt}{rest:List Stmt}{t u:TS}(h1:S X st t)(h2:Ss X rest u):Ss X (st::rest) (let r:=u;vf t r):=Zt h1 h2
theorem mE{X:Cx}{st:Stmt}{rest:List Stmt}{t u:TS}(h1:S X st t)(h2:Ss X rest u):Ss X (st::rest) (let r:=u;AB t r):=OA h1 h2
theorem Ef{J:It}{js:List Nat}{σ:St}{tt:TT}{te:TE}{Q:VK}{H1:Hp}(h:mj J js σ tt te Q H1):w6 J 1 js (jT 0) σ tt te Q H1:=by
 intro D hD;obtain⟨W,h0,hs⟩:=h D hD;refine⟨W,h0,λi m H2 w=>?_⟩;rcases hs i m H2 w with z | ⟨hg,z⟩
 ·exact .inl z
 ·refine .inr ⟨hg,λv H3 y τ hτ=>?_⟩;obtain⟨u,rfl⟩:∃u,τ=[u]:=List.length_eq_one_iff.mp hτ;exact⟨⟨[some v],rfl,rfl⟩,z v H3 y⟩
section
variable{X:Cx}{elt iter:Expr}{x y:Str}{px py pos spos:Pos}{ifs:List Expr}{scope:Scope}{N':List Str}{js:List Nat}{tt:TT}{te:TE}{wi:TI}
theorem CG{cl:List (Str×Addr)}{C:Addr}{ex:List Addr}{pins:List (Addr×Obj)}{s:Shared}{H:Hp}(hx:scope.names.lookup x=some .local)(hnd:(x::N').Nodup):Gt (hW X ([x]++N') scope cl C ex pins s H) (.Name x px) (jT 0):=by
 have hl:(relabel scope X.env).names.lookup x=some .local:=by rw[xc,hx];rfl
 exact⟨N0 hnd rfl (.inl hl) (.inr hl)⟩
theorem kj(N':List Str)(js:List Nat)(hi:Il X (.Name x px) iter wi)
  (ht:∀(cl:List (Str×Addr)) (C:Addr) (ex:List Addr) (pins:List (Addr×Obj)) (s:Shared) (H:Hp),Fs (hW X (x::N') scope cl C ex pins s H) ifs tt)
  (he:∀(cl:List (Str×Addr)) (C:Addr) (ex:List Addr) (pins:List (Addr×Obj)) (s:Shared) (H:Hp),E (hW X (x::N') scope cl C ex pins s H) elt te)
  (hcl:∃cl,jC X scope cl:=by exact wD rfl rfl rfl rfl) (hx:scope.names.lookup x=some .local:=by rfl) (hnd:(x::N').Nodup:=by decide +kernel) (hN:js.map (λj=>X.N[j]?)=N'.map some:=by rfl)
  (hk:N'.all (λy=>(X.env.kindOf y==some .cell)||(X.env.kindOf y==some .free))=true:=by rfl) (hf:N'.all (λy=>scope.names.lookup y==some .free)=true:=by rfl) (hc:X.calm=true:=by rfl)
  (hs:∀x,foldedSetIterable iter X.env x=pure x:=by intro _;rfl):E X (.ListComp elt [⟨.Name x px,iter,ifs,0⟩] scope pos) (Cr wi js tt te):=by
 obtain⟨cl,hcl⟩:=hcl;refine⟨λpins s σ H Q I h=>?_⟩;rw[eval_ListComp];refine wpAny_comprehension_free (use:=none) rfl hs hcl.is hcl.kind hcl.names (fJ (hi.h pins s σ H _ I h) λxv s₁ h₁=>fJ h₁ λitv s₂ h₂=>?_);obtain⟨it,fp,tn,J,H2,rfl,I2,T,st,hfp,q⟩:=h₂;refine xp (xs:=[x]) (g:=jT 0) (RR:=λacc C=>compPost (model X.prog X.w) X.A X.xe none (EP X pins σ Q) acc C) hcl hnd hN hk hf hc (λ_ _ _ _ _=>(CG hx hnd).h) (λC ex pins s H=>(ht cl C ex pins s H).h) (λC ex pins s H=>(he cl C ex pins s H).h) I2 T st hfp (Ef q) ?_
 intro D C s' H' m I' hC0 hCL hCs hCc hCp hn hq;refine⟨m,hn,λh' sb=>⟨.ref D,H',?_,rfl,hq⟩⟩;exact I'.turned (t':=s'.toks) (λb o hb e=>(sb.2 b hb).trans e) hC0 hCL (.inr hCs) hCc hCp
theorem N7(i:Nat)(N':List Str)(js:List Nat)(hi:Il X (.Name x px) iter wi)
  (ht:∀(cl:List (Str×Addr)) (C:Addr) (ex:List Addr) (pins:List (Addr×Obj)) (s:Shared) (H:Hp),Fs (hW X (x::N') scope cl C ex pins s H) ifs tt)
  (he:∀(cl:List (Str×Addr)) (C:Addr) (ex:List Addr) (pins:List (Addr×Obj)) (s:Shared) (H:Hp),E (hW X (x::N') scope cl C ex pins s H) elt te)
  (hXN:X.N.Nodup) (hsw:swapsWith (.ListComp elt [⟨.Name x px,iter,ifs,0⟩] scope pos) (some (.Name y py)) spos.line X.env=pure true:=by rfl)
  (hiN:X.N[i]? =some y:=by rfl) (hy:X.env.scope.names.lookup y=some .local:=by rfl)
  (hcl:∃cl,jC X scope cl:=by exact wD rfl rfl rfl rfl) (hx:scope.names.lookup x=some .local:=by rfl) (hnd:(x::N').Nodup:=by decide +kernel) (hN:js.map (λj=>X.N[j]?)=N'.map some:=by rfl)
  (hk:N'.all (λy=>(X.env.kindOf y==some .cell)||(X.env.kindOf y==some .free))=true:=by rfl) (hf:N'.all (λy=>scope.names.lookup y==some .free)=true:=by rfl) (hc:X.calm=true:=by rfl)
  (hs:∀x,foldedSetIterable iter X.env x=pure x:=by intro _;rfl):S X (.Assign [.Name y py] (.ListComp elt [⟨.Name x px,iter,ifs,0⟩] scope pos) spos) (pZ (Cr wi js tt te) (jT i)):=by
 obtain⟨cl,hcl⟩:=hcl;refine⟨λpins s σ H D I h=>?_⟩;rw[exec_Assign_Name_used _ _ _ _ hsw];refine eE (wpAny_standAt (eE ?_));show wpAny _ X.A (do let _ ←comprehension (.ListComp elt [⟨.Name x px,iter,ifs,0⟩] scope pos) scope X.env _ (newList []) false (eval iter X.env) (some (assign (.Name y py) X.env))) _ _ s
 refine eE (eG (wpAny_comprehension_free (use:=some (assign (.Name y py) X.env)) (Q:=λ_ s'=>SP X pins D .next s') rfl hs hcl.is hcl.kind hcl.names ?_) (λ_ s' hq=>eX (eX hq)) λ_ _ z=>z);refine fJ (hi.h pins s σ H _ I h) λxv s₁ h₁=>fJ h₁ λitv s₂ h₂=>?_;obtain⟨it,fp,tn,J,H2,rfl,I2,T,st,hfp,q⟩:=h₂;refine xp (xs:=[x]) (g:=jT 0) (Q:=λv H'=>D.nx (σ.set i (some v)) H') (RR:=λacc C=>compPost (model X.prog X.w) X.A X.xe (some (assign (.Name y py) X.env)) (λ_ s'=>SP X pins D .next s') acc C) hcl hnd hN hk hf hc (λ_ _ _ _ _=>(CG hx hnd).h) (λC ex pins s H=>(ht cl C ex pins s H).h) (λC ex pins s H=>(he cl C ex pins s H).h) I2 T st hfp (Ef q) ?_
 intro D' C s' H' m I' hC0 hCL hCs hCc hCp hn hq;show wpAny _ _ (assign (.Name y py) X.env (.ref D')) _ _ s';refine wpAny_assign_Name (Fb I' hXN hiN (.inl hy) (v:=.ref D') rfl (λs3 I3 sb3=>?_) (.inr hy));obtain⟨a3,sb3,e3⟩:=sb3;have hCa:C≠a3:=by
  rcases e3 with e3 | e3
  ·rw[e3];exact hCL
  ·exact λz=>hCc y a3 e3 z.symm
 refine⟨m,hn.sameBut sb3 hCa,λh' sb=>⟨σ.set i (some (.ref D')),H',?_,hq⟩⟩;exact I3.turned (t':=s3.toks) (λb o hb e=>(sb.2 b hb).trans e) hC0 hCL (.inr hCs) hCc hCp
variable{e e1 e2 e3:Expr}{t t1 t2 t3:TE}
theorem A1(h:E X e t)(he':starEach (e::[]) X.env=(false,eval e X.env)::starEach [] X.env:=by rfl):As X [e] (je t iU):=aC h aN he'
theorem A2(h1:E X e1 t1)(h2:E X e2 t2)(he1':starEach (e1::[e2]) X.env=(false,eval e1 X.env)::starEach [e2] X.env:=by rfl)(he2':starEach (e2::[]) X.env=(false,eval e2 X.env)::starEach [] X.env:=by rfl):As X [e1,e2] (je t1 (je t2 iU)):=aC h1 (aC h2 aN he2') he1'
theorem A3(h1:E X e1 t1)(h2:E X e2 t2)(h3:E X e3 t3)(he1':starEach (e1::[e2,e3]) X.env=(false,eval e1 X.env)::starEach [e2,e3] X.env:=by rfl)(he2':starEach (e2::[e3]) X.env=(false,eval e2 X.env)::starEach [e3] X.env:=by rfl)(he3':starEach (e3::[]) X.env=(false,eval e3 X.env)::starEach [] X.env:=by rfl):As X [e1,e2,e3] (je t1 (je t2 (je t3 iU))):=aC h1 (aC h2 (aC h3 aN he3') he2') he1'
end
noncomputable def Y0{X x pos}:=@v_ X x pos 0
noncomputable def Y1{X x pos}:=@v_ X x pos 1
noncomputable def Y2{X x pos}:=@v_ X x pos 2
noncomputable def Y3{X x pos}:=@v_ X x pos 3
noncomputable def Y4{X x pos}:=@v_ X x pos 4
noncomputable def Y5{X x pos}:=@v_ X x pos 5
noncomputable def Y6{X x pos}:=@v_ X x pos 6
noncomputable def Y7{X x pos}:=@v_ X x pos 7
noncomputable def Y8{X x pos}:=@v_ X x pos 8
noncomputable def Y9{X x pos}:=@v_ X x pos 9
noncomputable def iv(σ:St)(i:Nat):Int:=match σ[i]? with
 |some (some (.int n))=>n
 |_=>0
end L2
namespace L2
open PySem PySem.Spec PyProof.Rows PySem.W
noncomputable def jW(H:Hp)(A C:Addr):Hp:=gK (gK H A) C
noncomputable def kx(G:Hp)(A C:Addr)(xs ys:List V):Hp:=upd (upd G A (.lst xs)) C (.lst ys)
theorem MP{H:Hp}{A C b:Addr}{o:HO}(h:jW H A C b=some o):b≠A/\b≠C/\H b=some o:=by
 obtain⟨n,h⟩:=pR h;obtain⟨n',h⟩:=pR h;exact⟨n',n,h⟩
theorem qt{H:Hp}{A C b:Addr}(h1:b≠A)(h2:b≠C):jW H A C b=H b:=by
 unfold jW;rw[ik h2,ik h1]
theorem qm{H:Hp}{A C b:Addr}(h:H b=none):jW H A C b=none:=by
 cases e:jW H A C b with
 |none=>rfl
 |some o=>rw[(MP e).2.2] at h;cases h
theorem sH{H:Hp}{A C:Addr}:jW H A C A=none/\jW H A C C=none:=by
 refine⟨?_,oe⟩;cases e:jW H A C A with
 |none=>rfl
 |some o=>exact absurd rfl (MP e).1
theorem nY{G:Hp}{A C b:Addr}{xs ys:List V}(h1:b≠A)(h2:b≠C):kx G A C xs ys b=G b:=by
 unfold kx;rw[fG h2,fG h1]
section
variable{X:Cx}
theorem ZE{pins:List (Addr×Obj)}{σ:St}{H:Hp}{s:Shared}{Q:VK}{us:List Value}{vs:List V}{k:Nat}{f:Addr}{fd:FuncData}{ps:List Str}{sp:Sp}{A C:Addr}{xs ys:List V}(F:gk X.prog X.w X.K X.mg X.base jj k f fd ps sp)(hr:Room k X.A)(hb:Binds X.K fd ps [])
  (I:Inv X pins σ H s) (r:Vals vs us) (hA:H A=some (.lst xs)) (hC:H C=some (.lst ys)) (ne:A≠C)
  (q:sp vs (jW H A C) (λv H'=>H' A=none->H' C=none->Q v (kx H' A C xs ys)) E0):
  wpAny (model X.prog X.w) X.A (call (.ref f) us) (EP X pins σ Q) X.xe s:=by
 have hok:HOk X.prog X.w (jW H A C) s.heap:=(I.hok.era_ (λz e=>by rw[hA] at e;cases e) (λxs e=>by rw[hA] at e;cases e)).era_ (λz e=>by rw[ik ne.symm,hC] at e;cases e) (λxs e=>by rw[ik ne.symm,hC] at e;cases e);have e0:Env0 X.prog X.w X.K X.mg X.base X.A X.stack s (jW H A C):=⟨I.ok.frames,I.ok.mod,λb o e=>⟨(I.bs b o e).1,qm (I.bs b o e).2⟩,bK I.ok.bsz I.sz,I.stack,λb hb=>qm (I.stkFree b hb),hok,I.bare⟩
 have hlen:(us++[]).length=ps.length:=by rw[cC,←r.length];exact F.len _ _ _ _ q
 have bt:=hb s us I.kIn hlen;rw[cC] at bt;refine wpAny_call (eP (F.run X.A X.stack s _ ⟨us,[]⟩ us vs _ E0 hr e0 bt r q) λr s' hq=>?_);cases r with
 |error e=>exact False.elim hq
 |ok fl=>
  cases fl with
  |next=>exact False.elim hq
  |brk=>exact False.elim hq
  |cont=>exact False.elim hq
  |ret u=>
   obtain⟨v,H',os,bare,un,hok',rz,q⟩:=hq;obtain⟨zA,iA,nA,vA,oA⟩:=I.hok A _ hA;obtain⟨zC,iC,nC,vC,oC⟩:=I.hok C _ hC;have fA:A∉jI X.stack:=λz=>by rw[I.stkFree A z] at hA;cases hA
   have fC:C∉jI X.stack:=λz=>by rw[I.stkFree C z] at hC;cases hC
   have nx:∀{b:Addr},b∉([]:List Addr):=λz=>by cases z
   have hnA:=un.free A _ oA sH.1 nx;have hnC:=un.free C _ oC sH.2 nx;have kA:=un.keep A _ oA sH.1 fA nx;have kC:=un.keep C _ oC sH.2 fC nx;have t1:HOk X.prog X.w (upd H' A (.lst xs)) s'.heap:=hok'.track hnA ⟨zA,iA,nA,vA,kA⟩;have t2:HOk X.prog X.w (kx H' A C xs ys) s'.heap:=t1.track (by rw[fG ne.symm];exact hnC) ⟨zC,iC,nC,vC,kC⟩;have no:∀{b:Addr},H b=none->b≠A/\b≠C:=λ{b} n=>⟨λz=>(by rw[z,hA] at n;cases n),λz=>(by rw[z,hC] at n;cases n)⟩
   have so:∀{b:Addr} {o:HO},H b=some o->(∀xs,o≠ .lst xs)->b≠A/\b≠C:=λ{b o} e n=>⟨λz=>by rw[z,hA] at e;exact n _ (bH e).symm,λz=>by rw[z,hC] at e;exact n _ (bH e).symm⟩;refine I.after ⟨v,kx H' A C xs ys,os,bare,⟨λb o e n hb hx=>un.keep b o e (qm n) hb hx,λb o e n hb hx=>un.slot b o e (qm n) hb hx,λb o e n hx=>?_,λb o e hx=>un.there b o e hx,λb xs e=>?_,λb o u e=>?_,λb qs e=>?_⟩,t2,rz,q hnA hnC⟩
   ·obtain⟨z1,z2⟩:=no n;rw[nY z1 z2];exact un.free b o e (qm n) hx
   ·obtain⟨z1,z2⟩:=so e λ_ z=>by cases z
    rw[nY z1 z2];exact un.tups b xs (by rw[qt z1 z2];exact e)
   ·obtain⟨z1,z2⟩:=so e λ_ z=>by cases z
    rw[nY z1 z2];exact un.frzs b o u (by rw[qt z1 z2];exact e)
   ·obtain⟨z1,z2⟩:=so e λ_ z=>by cases z
    obtain⟨more,e'⟩:=un.tbls b qs (by rw[qt z1 z2];exact e);exact⟨more,by rw[nY z1 z2];exact e'⟩
inductive uk (sp:Sp) (vs:List V) (H:Hp) (Q:VK):Prop
 |mk (A C:Addr) (xs ys:List V) (hA:H A=some (.lst xs)) (hC:H C=some (.lst ys)) (ne:A≠C) (q:sp vs (jW H A C) (λv H'=>H' A=none->H' C=none->Q v (kx H' A C xs ys)) E0)
def UW(sp:Sp)(t:TA):TE:=λσ H Q=>t σ H λvs H1=>uk sp vs H1 Q
theorem Yu{x:Str}{k k':Nat}{ps:List Str}{sp:Sp}{e:Expr}{es:List Expr}{t:TA}{p pos:Pos}(D:Df X.prog X.w X.K X.mg X.base x k ps sp)(hr:Room k' X.A)(ha:As X (e::es) t)(hk:k<=k':=by decide)(hg:Gl X x:=by rfl)
  (hdb:(x==("__debug__":Str))=false:=by decide) (he:starEach (e::es) X.env=(false,eval e X.env)::starEach es X.env:=by rfl) (hpl:(backTo pos (starEach es X.env)).any (·.1)=false:=by rfl):
  E X (.Call (.Name x p) (e::es) [] pos) (UW sp t):=by
 obtain⟨f,fd,F,hb,hm,kp⟩:=D.ex;refine⟨λpins s σ H Q I h=>?_⟩;refine eW (m7 I hg hm ?_ hdb);refine callWith_K (h₀:=X.base) I.ok.mod.kin kp (fJ (ha.h pos pins s σ H _ I h) λus s1 ⟨vs,H1,I1,r,q⟩=>⟨I1.kIn,?_⟩) he hpl;cases q with
 |mk A C xs ys hA hC ne q=>exact ZE F (hr.mono hk) hb I1 r hA hC ne q
end
end L2
namespace L2
open PySem PySem.Spec PyProof.Rows PySem.W
def pw{α:Type}(lt:Nat->Nat->Bool)(n:Nat):KasT α->(α->Prop)->Prop
 |.ret a,Q=>Q a
 |.ask i j k,Q=>i<n/\j<n/\pw lt n (k (lt i j)) Q
theorem oI{α β:Type}{lt:Nat->Nat->Bool}{n:Nat}{f:α->KasT β}{Q:β->Prop}:∀{t:KasT α},pw lt n t (λa=>pw lt n (f a) Q)->pw lt n (t.bind f) Q
 |.ret _,h=>h
 |.ask _ _ _,⟨h1,h2,h⟩=>⟨h1,h2,oI h⟩
theorem m6{α:Type}{lt:Nat->Nat->Bool}{n:Nat}{Q R:α->Prop}(hq:∀a,Q a->R a):∀{t:KasT α},pw lt n t Q->pw lt n t R
 |.ret _,h=>hq _ h
 |.ask _ _ _,⟨h1,h2,h⟩=>⟨h1,h2,m6 hq h⟩
theorem Ak{α:Type}{lt:Nat->Nat->Bool}{n:Nat}{Q:α->Prop}{G:α->Shared->Prop}{s:Shared}{cmp:Nat->Nat->(Bool->Shared->Prop)->Shared->Prop}(hc:∀i j (C:Bool->Shared->Prop),i<n->j<n->C (lt i j) s->cmp i j C s)(hq:∀a,Q a->G a s):∀{t:KasT α},pw lt n t Q->t.kasWp cmp G s
 |.ret _,h=>hq _ h
 |.ask i j _,⟨h1,h2,h⟩=>hc i j _ h1 h2 (Ak hc hq h)
structure kq(lt:Nat->Nat->Bool)(n:Nat):Prop where
 tr:∀i j k,lt i j=true->lt j k=true->lt i k=true
 ir:∀i,lt i i=false
 to:∀i j,i<n->j<n->i≠j->lt i j=true∨lt j i=true
section
variable{lt:Nat->Nat->Bool}{n:Nat}
noncomputable def fX(p:Array Nat)(k:Nat):Nat:=p.getD k 0
def Pm(n:Nat)(p:Array Nat):Prop:=p.Perm (List.range n).toArray
theorem Pm.len{p:Array Nat}(h:Pm n p):p.size=n:=by
 have:=h.size_eq;simpa using this
theorem lO{p:Array Nat}{k:Nat}(h:k<p.size):p[k]? =some (fX p k):=by
 unfold fX;simp[Array.getD,h]
theorem Pm.low{p:Array Nat}(h:Pm n p){k:Nat}(hk:k<n):fX p k<n:=by
 have hl:=h.len;have m:fX p k∈p:=by
  rw[Array.mem_iff_getElem?];exact⟨k,lO ⋯⟩
 have:=h.mem_iff.mp m;simpa using this
theorem Pm.inj{p:Array Nat}(h:Pm n p){i j:Nat}(hi:i<n)(hj:j<n)(e:fX p i=fX p j):i=j:=by
 have hl:=h.len;have nd:p.toList.Nodup:=(Array.perm_iff_toList_perm.mp h).nodup_iff.mpr (by simpa using List.nodup_range);have e1:p.toList[i]? =some (fX p i):=by rw[b6];exact lO ⋯
 have e2:p.toList[j]? =some (fX p i):=by rw[b6,e];exact lO ⋯
 obtain⟨h1,e1⟩:=bB.mp e1;obtain⟨h2,e2⟩:=bB.mp e2;exact (List.getElem_inj nd).mp (e1.trans e2.symm)
theorem Pm.to{p:Array Nat}(h:Pm n p)(O:kq lt n){i j:Nat}(hi:i<n)(hj:j<n)(ne:i≠j):lt (fX p i) (fX p j)=true∨lt (fX p j) (fX p i)=true:=O.to _ _ (h.low hi) (h.low hj) λe=>ne (h.inj hi hj e)
def Up(lt:Nat->Nat->Bool)(p:Array Nat)(m:Nat):Prop:=∀i j,i<j->j<m->lt (fX p i) (fX p j)=true
def Dn(lt:Nat->Nat->Bool)(p:Array Nat)(m:Nat):Prop:=∀i j,i<j->j<m->lt (fX p j) (fX p i)=true
theorem Z6(O:kq lt n){p:Array Nat}{m:Nat}(h1:1<=m)(h:Up lt p m)(l:lt (fX p (m-1)) (fX p m)=true):Up lt p (m+1):=λi j hij hj=>by
 by_cases c:j<m
 ·exact h i j hij c
 obtain rfl:j=m:=⋯;by_cases c2:i=j-1
 ·rw[c2];exact l
 ·exact O.tr _ _ _ (h i (j-1) ⋯ ⋯) l
theorem Od(O:kq lt n){p:Array Nat}{m:Nat}(h1:1<=m)(h:Dn lt p m)(l:lt (fX p m) (fX p (m-1))=true):Dn lt p (m+1):=λi j hij hj=>by
 by_cases c:j<m
 ·exact h i j hij c
 obtain rfl:j=m:=⋯;by_cases c2:i=j-1
 ·rw[c2];exact l
 ·exact O.tr _ _ _ l (h i (j-1) ⋯ ⋯)
theorem xk(O:kq lt n){p:Array Nat}(hp:Pm n p):∀{f a:Nat},1<=a->a+f=n->Up lt p a->pw lt n (kas_asc p f a) λm=>a<=m/\m<=n/\Up lt p m/\(m=n∨lt (fX p m) (fX p (m-1))=true)
 |0,a,h1,e,h=>⟨aP _,⋯,h,.inl ⋯⟩
 |f+1,a,h1,e,h=>by
  refine⟨hp.low ⋯,hp.low ⋯,?_⟩;show pw lt n (if lt (fX p a) (fX p (a-1))=true then .ret a else kas_asc p f (a+1)) _;split
  ·rename_i c;exact⟨aP _,⋯,h,.inr c⟩
  ·rename_i c;have l:lt (fX p (a-1)) (fX p a)=true:=(hp.to O ⋯ ⋯ ⋯).resolve_left c;exact m6 (λm hm=>⟨⋯,hm.2⟩) (xk O hp ⋯ ⋯ (Z6 O h1 h l))
theorem Bz(O:kq lt n){p:Array Nat}(hp:Pm n p):∀{f a:Nat},1<=a->a+f=n->Dn lt p a->pw lt n (kas_desc f p a 0) λr=>r.1=p/\r.2.2=0/\1<=r.2.1/\r.2.1<=n/\Dn lt p r.2.1
 |0,a,h1,e,h=>⟨rfl,rfl,h1,by show a<=n;omega,h⟩
 |f+1,a,h1,e,h=>by
  refine⟨hp.low ⋯,hp.low ⋯,?_⟩;show pw lt n (if lt (fX p a) (fX p (a-1))=true then (if 0>0 then kas_desc f (kas_rev p (a-(0+1)) a) (a+1) 0 else kas_desc f p (a+1) 0) else .ask (fX p (a-1)) (fX p a) λd=>if d=true then .ret (p,a,0) else kas_desc f p (a+1) (0+1)) _;split
  ·rename_i c;rw[if_neg (by decide)];exact Bz O hp ⋯ ⋯ (Od O h1 h c)
  ·rename_i c;have l:lt (fX p (a-1)) (fX p a)=true:=(hp.to O ⋯ ⋯ ⋯).resolve_left c;refine⟨hp.low ⋯,hp.low ⋯,?_⟩;show pw lt n (if lt (fX p (a-1)) (fX p a)=true then .ret (p,a,0) else kas_desc f p (a+1) (0+1)) _;rw[if_pos l];exact⟨rfl,rfl,h1,by show a<=n;omega,h⟩
theorem QK{p:Array Nat}{m:Nat}(hp:Pm n p)(hm:m<=n)(h:Dn lt p m):Pm n (kas_rev p 0 m)/\Up lt (kas_rev p 0 m) m:=by
 have hl:=hp.len;have g:∀k,k<m->fX (kas_rev p 0 m) k=fX p (m-1-k):=λk hk=>by
  have e:=getElem?_mirror (xs:=p) (i:=0) (j:=m) ⋯ ((m-0) / 2) ⋯ k;have hs:(kas_rev p 0 m).size=n:=(mirror_size _ _ _ _).trans hl;have e2:(kas_rev p 0 m)[k]? =p[m-1-k]? :=by
   refine e.trans ?_;split
   ·rw[show 0+m-1-k=m-1-k by omega]
   ·rw[show m-1-k=k by omega]
  rw[lO ⋯,lO ⋯] at e2;exact bH e2
 refine⟨(mirror_perm _ _ _ _).trans hp,λi j hij hj=>?_⟩;rw[g i ⋯,g j hj];exact h _ _ ⋯ ⋯
theorem ZF(O:kq lt n){p:Array Nat}{m:Nat}(hp:Pm n p)(h1:1<=m)(hm:m<=n)(h:Dn lt p m):pw lt n (kas_tail3 m n p) λr=>Pm n r.2/\1<=r.1/\r.1<=n/\Up lt r.2 r.1:=by
 obtain⟨h2,h3⟩:=QK hp hm h;exact oI (m6 (λa ha=>⟨h2,by show 1<=a;omega,ha.2.1,ha.2.2.1⟩) (xk O h2 h1 ⋯ h3))
theorem QV(O:kq lt n){p:Array Nat}(hn:2<=n)(hp:Pm n p):pw lt n (kas_count n p) λr=>Pm n r.2/\1<=r.1/\r.1<=n/\Up lt r.2 r.1:=by
 refine oI (m6 (λm hm=>?_) (xk O hp (aP 1) ⋯ (λi j h1 h2=>by omega)));obtain⟨m1,m2,m3,m4⟩:=hm;by_cases c:m=n
 ·rw[if_pos (by rw[c];exact beq_self_eq_true n)];exact⟨hp,m1,m2,m3⟩
 ·rw[if_neg (by simpa using c)];by_cases c1:m>1
  ·rw[if_pos c1];refine⟨hp.low ⋯,hp.low ⋯,?_⟩;show pw lt n (if lt (fX p 0) (fX p (m-1))=true then .ret (m,p) else kas_descPart m n (kas_rev p 0 m)) _;rw[if_pos (m3 0 (m-1) ⋯ ⋯)];exact⟨hp,m1,m2,m3⟩
  ·rw[if_neg c1];obtain rfl:m=1:=⋯;have l:=m4.resolve_left c;refine oI (m6 (λr hr=>?_) (Bz O hp (f:=n-(1+1)) (a:=1+1) ⋯ ⋯ (Od O (aP 1) (λi j h1 h2=>by omega) l)));obtain⟨rp,q,m⟩:=r;obtain⟨r1,r2,r3,r4,r5⟩:=hr;obtain rfl:rp=p:=r1;obtain rfl:m=0:=r2;rw[if_neg (show ¬(0:Nat)>0 by decide)];exact ZF O hp r3 r4 r5
theorem xg(O:kq lt n){p:Array Nat}{k:Nat}(hp:Pm n p)(hk:k<n):∀{f l r:Nat},l<=r->r<=k->r-l<=f->(∀i,i<l->lt (fX p i) (fX p k)=true)->(∀i,r<=i->i<k->lt (fX p k) (fX p i)=true)->Up lt p k->
  pw lt n (kas_place p k f l r) λm=>m<=k/\(∀i,i<m->lt (fX p i) (fX p k)=true)/\∀i,m<=i->i<k->lt (fX p k) (fX p i)=true
 |0,l,r,h1,h2,h3,a,b,u=>⟨⋯,a,λi x y=>b i ⋯ y⟩
 |f+1,l,r,h1,h2,h3,a,b,u=>by
  show pw lt n (if l ≥ r then .ret l else .ask (fX p k) (fX p ((l+r) / 2)) λc=>if c=true then kas_place p k f l ((l+r) / 2) else kas_place p k f ((l+r) / 2+1) r) _;by_cases c:l ≥ r
  ·rw[if_pos c];exact⟨⋯,a,λi x y=>b i ⋯ y⟩
  ·rw[if_neg c];refine⟨hp.low hk,hp.low ⋯,?_⟩;have hmid:(l+r) / 2<r:=⋯;show pw lt n (if lt (fX p k) (fX p ((l+r) / 2))=true then kas_place p k f l ((l+r) / 2) else kas_place p k f ((l+r) / 2+1) r) _;split
   ·rename_i z;refine xg O hp hk ⋯ ⋯ ⋯ a (λi x y=>?_) u;by_cases e:i=(l+r) / 2
    ·rw[e];exact z
    ·exact O.tr _ _ _ z (u _ _ ⋯ y)
   ·rename_i z;have z':=(hp.to O hk (show (l+r) / 2<n by omega) ⋯).resolve_left z;refine xg O hp hk ⋯ h2 ⋯ (λi x=>?_) b u;by_cases e:i=(l+r) / 2
    ·rw[e];exact z'
    ·exact O.tr _ _ _ (u i ((l+r) / 2) ⋯ ⋯) z'
theorem QH{p:Array Nat}{k l:Nat}(hp:Pm n p)(hk:k<n)(hl:l<=k)(u:Up lt p k)(a:∀i,i<l->lt (fX p i) (fX p k)=true)(b:∀i,l<=i->i<k->lt (fX p k) (fX p i)=true):Pm n (bubble p k (k-l))/\Up lt (bubble p k (k-l)) (k+1):=by
 have hz:=hp.len;have hs:(bubble p k (k-l)).size=n:=(bubble_size _ _ _).trans hz;have g:∀i,i<=k->fX (bubble p k (k-l)) i=if i=l then fX p k else if l<i then fX p (i-1) else fX p i:=λi hi=>by
  have e:=getElem?_bubble (xs:=p) (src:=k) ⋯ (k-l) ⋯ i;rw[lO ⋯,show k-(k-l)=l by omega] at e;split at e
  ·rename_i c;rw[lO ⋯] at e;rw[if_pos c];exact bH e
  ·rename_i c;rw[if_neg c];split at e
   ·rename_i c2;rw[lO ⋯] at e;rw[if_pos c2.1];exact bH e
   ·rename_i c2;rw[lO ⋯] at e;rw[if_neg (λz=>c2 ⟨z,hi⟩)];exact bH e
 refine⟨(bubble_perm _ _ _).trans hp,λi j hij hj=>?_⟩;rw[g i ⋯,g j ⋯];by_cases c1:i=l
 ·rw[if_pos c1,if_neg ⋯,if_pos ⋯];exact b _ ⋯ ⋯
 rw[if_neg c1];by_cases c2:j=l
 ·rw[if_pos c2,if_neg ⋯];exact a _ ⋯
 rw[if_neg c2];by_cases c3:l<i
 ·rw[if_pos c3,if_pos ⋯];exact u _ _ ⋯ ⋯
 rw[if_neg c3];by_cases c4:l<j
 ·rw[if_pos c4];exact u _ _ ⋯ ⋯
 ·rw[if_neg c4];exact u _ _ hij ⋯
theorem FR(O:kq lt n):∀{f:Nat} {p:Array Nat} {k:Nat},Pm n p->k+f=n->Up lt p k->pw lt n (kas_bin f p k) λp=>Pm n p/\Up lt p n
 |0,p,k,hp,e,u=>⟨hp,by rw[←e];exact u⟩
 |f+1,p,k,hp,e,u=>by
  refine oI (m6 (λm hm=>?_) (xg O hp ⋯ (a9 _) (aP _) ⋯ (λi h=>by omega) (λi h1 h2=>by omega) u));obtain⟨b1,b2⟩:=QH hp ⋯ hm.1 u hm.2.1 hm.2.2;exact FR O b1 ⋯ b2
theorem ZD(O:kq lt n)(hn:2<=n):pw lt n (kas_sort n) λp=>Pm n p/\Up lt p n:=by
 refine oI (m6 (λr hr=>?_) (QV O hn (p:=(List.range n).toArray) (Array.Perm.refl _)));obtain⟨h1,h2,h3,h4⟩:=hr;split
 ·exact FR O h1 ⋯ (by rw[Nat.max_eq_left h2];exact h4)
 ·rename_i c;exact⟨h1,by rw[show n=r.1 by omega];exact h4⟩
end
end L2
namespace L2
open PySem PySem.Spec PyProof.Rows PySem.W PySem.Calls
section
variable{prog:Program}{w:World}{A:Around}{E:Value->Shared->Prop}{s:Shared}
theorem RG{a:Addr}{vs:List Value}{n:Nat}{R:List Value->Prop}{P:PySem.Fin->Shared->Prop}(ho:s.heap.get? a=some (seqObj "list" vs.toArray n))(h2:2<=vs.length)(h64:vs.length<64)
  (hk:∀h',(∀b o,b≠a->s.heap.get? b=some o->h'.get? b=some o)->wpAny (model prog w) A (keyKind' vs.toArray) (λκ s'=>s'={s with heap:=h'}/\(kas_sort vs.length).kasWp (kas_ask prog w A κ vs) (λp s''=>s''=s'/\R (p.toList.map λi=>vs.getD i Value.none)) s') (λ_ _=>False) {s with heap:=h'})
  (hP:∀out h' c,R out->(∀b o,b≠a->s.heap.get? b=some o->h'.get? b=some o)->h'.get? a=some (seqObj "list" (List.toArray out) c)->P (.done (.ret .none)) {s with heap:=h'}):
  wpAny (model prog w) A (Builtin.«list.sort» ⟨[.ref a],[]⟩) P E s:=by
 have ha:a<s.heap.objs.size:=aR ho;have s1:=Heap.SameBut.update s.heap a (Obj.mapSeq λ_=>(#[]:Array Value));obtain⟨e1,ho1⟩:∃e1,(s.heap.update a (Obj.mapSeq λ_=>(#[]:Array Value))).get? a=some (seqObj "list" #[] e1):=⟨_,get?_update_seq ho λ_=> #[]⟩;have k1:∀b o,b≠a->s.heap.get? b=some o->(((s.heap.update a (Obj.mapSeq λ_=>(#[]:Array Value))).push (seqObj "tuple" vs.toArray 0)).push (seqObj "list" #[] 0)).get? b=some o:=λb o nb e=>
  aS _ (aS _ (by rw[dU _ _ _ _ nb];exact e))
 have na:(((s.heap.update a (Obj.mapSeq λ_=>(#[]:Array Value))).push (seqObj "tuple" vs.toArray 0)).push (seqObj "list" #[] 0)).get? a=some (seqObj "list" #[] e1):=aS _ (aS _ ho1);have ask:=hk _ k1;rw[list_sort_plain];refine eE (listItems_at ho rfl ?_);refine eE (listUpdate_at ho rfl ?_ (by rw[bE,eJ];omega) (a9 _));refine eE (seqEpoch_at ho1 rfl ?_);refine eE (wpAny_newTuple ?_ (by show vs.length<=_;rw[eJ];omega))
 refine eE (wpAny_newList ?_ (a9 _));refine eK ?_;show wpAny (model prog w) A _ P E {s with heap:=((s.heap.update a (Obj.mapSeq λ_=>(#[]:Array Value))).push (seqObj "tuple" vs.toArray 0)).push (seqObj "list" #[] 0)};dsimp only;have hn2:¬vs.toArray.size<2:=by rw[bE];omega
 rw[if_neg hn2,if_neg hn2];generalize ((s.heap.update a (Obj.mapSeq λ_=>(#[]:Array Value))).push (seqObj "tuple" vs.toArray 0)).push (seqObj "list" #[] 0)=h3 at k1 na ask ⊢;refine eE (eG ask (λκ s0 hk=>?_) λ_ _ x=>x.elim);obtain⟨rfl,hk⟩:=hk;refine eE (eG (kat_run (Q:=λst' s'=>s'={s with heap:=h3}/\∃p:Array Nat,p.size=vs.length/\arrOf st'=p.map (kas_item (vs.toArray.zip vs.toArray))/\failedOf st'=none/\R (p.toList.map λi=>vs.getD i Value.none))
  rfl h2 h64 (λp' st' s' a1 a2 a3 a4=>⟨a4.1,p',a1,a2,a3,a4.2⟩) hk) ?_ λ_ _ e=>e)
 rintro⟨⟨⟩,st'⟩ s' ⟨rfl,p,hp,har,hf,hR⟩;dsimp only;have hout:=kat_snds rfl har;have hsz:(List.toArray (p.toList.map λi=>vs.getD i Value.none)).size=vs.length:=by rw[bE,aQ,bO,hp]
 rw[hout];obtain⟨c2,hc2⟩:∃c2,(h3.update a (Obj.mapSeq λ_=>List.toArray (p.toList.map λi=>vs.getD i Value.none))).get? a=some (seqObj "list" (List.toArray (p.toList.map λi=>vs.getD i Value.none)) c2):=⟨_,get?_update_seq na λ_=>List.toArray (p.toList.map λi=>vs.getD i Value.none)⟩;refine eE (seqEpoch_at na rfl ?_);refine eE (listUpdate_at na rfl ?_ (a9 _) (bK (Nat.le_of_eq hsz) (by rw[eJ];omega)));rw[hf]
 simp only[bne_self_eq_false,Bool.false_eq_true,if_false];exact eX (hP _ _ c2 hR (λb o nb e=>by rw[dU _ _ _ _ nb];exact k1 b o nb e) hc2)
theorem Xj{l:Addr}{vs:List Value}{R:List Value->Prop}{Q:Value->Shared->Prop}(hl:s.heap.IsList l vs.toArray)(h2:2<=vs.length)(h64:vs.length<64)
  (hk:∀(A':Around) h',(∀b o,s.heap.get? b=some o->h'.get? b=some o)->wpAny (model prog w) A' (keyKind' vs.toArray) (λκ s'=>s'={s with heap:=h'}/\(kas_sort vs.length).kasWp (kas_ask prog w A' κ vs) (λp s''=>s''=s'/\R (p.toList.map λi=>vs.getD i Value.none)) s') (λ_ _=>False) {s with heap:=h'})
  (hQ:∀out D h' c,R out->(∀b o,s.heap.get? b=some o->h'.get? b=some o)->s.heap.objs.size<=D->h'.get? D=some (seqObj "list" (List.toArray out) c)->Q (.ref D) {s with heap:=h'}):
  wpAny (model prog w) A (call (.builtin "sorted") [.ref l]) Q E s:=by
 refine Calls.call_function_entry kind_sorted plain_sorted entry_sorted (args_sorted1 _) ?_;unfold Builtin.«sorted»;refine eE (m:=checkCount "sorted" 1 1 _) (eX ?_);refine eE (collect_list hl ?_ (by rw[eJ];omega));refine eE (wpAny_newList ?_ (by rw[eJ];omega));have hsz:((s.heap.push (seqObj "list" #[] 0)).update s.heap.objs.size (Obj.mapSeq (·++vs.toArray))).objs.size=s.heap.objs.size+1:=by
  rw[Heap.size_update,size_push']
 have hoL:(((s.heap.push (seqObj "list" #[] 0)).update s.heap.objs.size (Obj.mapSeq (·++vs.toArray))).push (seqObj "list" vs.toArray 0)).get? (s.heap.objs.size+1)=some (seqObj "list" vs.toArray 0):=by
  rw[←hsz];exact bD _ rfl
 have keep:∀b o,s.heap.get? b=some o->(((s.heap.push (seqObj "list" #[] 0)).update s.heap.objs.size (Obj.mapSeq (·++vs.toArray))).push (seqObj "list" vs.toArray 0)).get? b=some o:=λb o q=>by
  have hlt:b<s.heap.objs.size:=aR q;rw[Heap.get?_push_ne _ _ _ (by rw[hsz];exact aU (b9 hlt)),dU _ _ _ _ (aU hlt),Heap.get?_push_ne _ _ _ (aU hlt)];exact q
 have ne:∀b o,s.heap.get? b=some o->b≠s.heap.objs.size+1:=λb o q=>aU (b9 (aR q));show wpAny _ _ _ _ _ {s with heap:=((s.heap.push (seqObj "list" #[] 0)).update s.heap.objs.size (Obj.mapSeq (·++vs.toArray))).push (seqObj "list" vs.toArray 0)};rw[hsz];refine eE (eK (d9 slot_list_sort ⟨_,hoL,rfl⟩ entry_list_sort ?body (args_list_sort _)))
 case body=>
  refine RG (s:={s with heap:=((s.heap.push (seqObj "list" #[] 0)).update s.heap.objs.size (Obj.mapSeq (·++vs.toArray))).push (seqObj "list" vs.toArray 0)}) (R:=R) hoL h2 h64 (λh' kp=>hk _ h' λb o e=>kp b o (ne b o e) (keep b o e)) λout h' c hR kp hD=>?_;exact⟨(),eX ⟨(),hQ out _ h' c hR (λb o e=>kp b o (ne b o e) (keep b o e)) (cD _) hD⟩⟩
end
end L2
namespace L2
open PySem PySem.Spec PyProof.Rows PySem.W PySem.Calls
noncomputable def hV(p q:Int×Int):Bool:=decide (p.1<q.1)||(decide (p.1=q.1)&&decide (p.2<q.2))
theorem ltP_iff{p q:Int×Int}:hV p q=true↔p.1<q.1∨(p.1=q.1/\p.2<q.2):=by
 unfold hV;rw[dO,bL,eU,eU,eU]
theorem sC{α:Type}{l:List α}{i:Nat}{d:α}(h:i<l.length):l.getD i d=l[i]:=by
 rw[d7,bC h];rfl
theorem Xa{ps:List (Int×Int)}(nd:ps.Nodup):kq (λi j=>hV (ps.getD i (0,0)) (ps.getD j (0,0))) ps.length where
 tr i j k h1 h2:=by
  have h1:=ltP_iff.mp h1;have h2:=ltP_iff.mp h2;refine ltP_iff.mpr ?_;omega
 ir i:=by
  rw[Bool.eq_false_iff];intro h;have:=ltP_iff.mp h;omega
 to i j hi hj ne:=by
  have e:ps.getD i (0,0)≠ps.getD j (0,0):=λe=>by
   rw[sC hi,sC hj] at e;exact ne ((List.getElem_inj nd).mp e)
  generalize ps.getD i (0,0)=a at e ⊢;generalize ps.getD j (0,0)=b at e ⊢;obtain⟨a1,a2⟩:=a;obtain⟨b1,b2⟩:=b;have e:¬(a1=b1/\a2=b2):=λz=>e (by rw[z.1,z.2]);rw[ltP_iff,ltP_iff];show (a1<b1∨a1=b1/\a2<b2)∨b1<a1∨b1=a1/\b2<a2;omega
def mh(h:Heap)(v:Value)(p:Int×Int):Prop:=∃(a:Addr) (x y:Value),v=.ref a/\IsTup h a #[x,y]/\(∃t,x=.int p.1 t)/\∃t,y=.int p.2 t
section
variable{prog:Program}{w:World}{A:Around}{E:Value->Shared->Prop}{s:Shared}
theorem Wh{v u:Value}{p q:Int×Int}{Q:Bool->Shared->Prop}(hv:mh s.heap v p)(hu:mh s.heap u q)(h:Q (hV p q) s):wpAny (model prog w) A (keyLt' (tuples' true) v u) Q E s:=by
 obtain⟨a,x,y,rfl,⟨o,ho,hc,n,hd⟩,⟨t1,rfl⟩,t2,rfl⟩:=hv;obtain⟨a',x',y',rfl,⟨o',ho',hc',n',hd'⟩,⟨t3,rfl⟩,t4,rfl⟩:=hu;refine kat_lt ho hd ho' hd' ?_;show KatLex prog w A true false Q [(.int p.1 t1,.int q.1 t3),(.int p.2 t2,.int q.2 t4)] 0 s;refine kat_cons (wpAny_eqBool_int ?_);refine kat_go (λe=>kat_yes ?_) (λe=>kat_no ?_)
 ·have e1:p.1=q.1:=by simpa using e
  refine kat_cons (wpAny_eqBool_int ?_);refine kat_go (λe=>kat_yes (kat_nil ?_)) (λe=>kat_no ?_)
  ·have e2:p.2=q.2:=by simpa using e
   have z:hV p q=false:=by
    rw[Bool.eq_false_iff];intro z;have:=ltP_iff.mp z;omega
   rw[z] at h;exact h
  ·have z:hV p q=decide (p.2<q.2):=by
    unfold hV;rw[eV ⋯,eS e1,Bool.false_or,Bool.true_and]
   rw[z] at h;exact kat_one _ _ (lt_int h)
 ·have e1:¬p.1=q.1:=by simpa using e
  have z:hV p q=decide (p.1<q.1):=by
   unfold hV;rw[eV e1,Bool.false_and,Bool.or_false]
  rw[z] at h;exact oneLt_int h
theorem Fm{h:Heap}:∀{vs:List Value} {ps:List (Int×Int)},Paired (mh h) vs ps->∃fs:List Value,KatTups h vs fs/\fs.length=vs.length/\∀f∈fs,∃z t,f=.int z t
 |_,_,.nil=>⟨[],KatTups.nil,rfl,λf hf=>nomatch hf⟩
 |_,_,.cons r t=>by
  obtain⟨fs,h1,h2,h3⟩:=Fm t;obtain⟨a,x,y,rfl,⟨o,ho,hc,n,hd⟩,⟨t1,rfl⟩,t2,rfl⟩:=r;exact⟨_::fs,KatTups.cons ho hc hd rfl h1,by rw[bN,bN,h2],List.forall_mem_cons.mpr ⟨⟨_,()⟩,h3⟩⟩
theorem uz{h:Heap}:∀{vs:List Value} {ps:List (Int×Int)},Paired (mh h) vs ps->∀i,i<ps.length->mh h (vs.getD i Value.none) (ps.getD i (0,0))
 |_,_,.cons r _,0,_=>r
 |_,_,.cons _ t,i+1,hi=>uz t i (by simpa using hi)
theorem D3{h h':Heap}(k:∀b o,h.get? b=some o->h'.get? b=some o):∀{vs:List Value} {ps:List (Int×Int)},Paired (mh h) vs ps->Paired (mh h') vs ps
 |_,_,.nil=>.nil
 |_,_,.cons ⟨a,x,y,e,⟨o,ho,r⟩,z⟩ t=>.cons ⟨a,x,y,e,⟨o,k _ _ ho,r⟩,z⟩ (D3 k t)
theorem pS{α β:Type}{F:α->β->Prop}:∀{l:List α} {r:List β},Paired F l r->l.length=r.length
 |_,_,.nil=>rfl
 |_,_,.cons _ t=>by rw[bN,bN,pS t]
theorem RU{l:Addr}{vs:List Value}{ps:List (Int×Int)}{Q:Value->Shared->Prop}(hl:s.heap.IsList l vs.toArray)(hp:Paired (mh s.heap) vs ps)(h2:2<=ps.length)(h64:ps.length<64)(nd:ps.Nodup)
  (hQ:∀(p:List Nat) D h' c,p.Perm (List.range ps.length)->(p.map λi=>ps.getD i (0,0)).Pairwise (λa b=>hV a b=true)->(∀b o,s.heap.get? b=some o->h'.get? b=some o)->s.heap.objs.size<=D->h'.get? D=some (seqObj "list" (List.toArray (p.map λi=>vs.getD i Value.none)) c)->Q (.ref D) {s with heap:=h'}):
  wpAny (model prog w) A (call (.builtin "sorted") [.ref l]) Q E s:=by
 have len:=pS hp;refine Xj (R:=λout=>∃p:List Nat,out=(p.map λi=>vs.getD i Value.none)/\p.Perm (List.range ps.length)/\(p.map λi=>ps.getD i (0,0)).Pairwise (λa b=>hV a b=true)) hl ⋯ ⋯ (λA' h' k=>?_) λout D h' c ⟨p,e,e1,e2⟩ k lD hD=>hQ p D h' c e1 e2 k lD (by rw[e] at hD;exact hD);have hp':=D3 k hp;obtain⟨fs,t1,t2,t3⟩:=Fm hp';refine kat_kind (T:=.type "int") t1 ⋯ (λv hv=>?_) rfl ⟨rfl,?_⟩
 ·obtain⟨z,t,rfl⟩:=t3 v hv;exact Looks.of_pure rfl
 ·rw[len];refine Ak (n:=ps.length) (lt:=λi j=>hV (ps.getD i (0,0)) (ps.getD j (0,0))) (Q:=λp=>Pm ps.length p/\Up _ p ps.length) (λi j C hi hj hC=>Wh (uz hp' i hi) (uz hp' j hj) hC) (λp hpu=>⟨rfl,p.toList,rfl,?_,?_⟩) (ZD (Xa nd) h2)
  ·simpa using Array.perm_iff_toList_perm.mp hpu.1
  ·rw[List.pairwise_map,dZ];intro i j hi hj hij;have z:=hpu.2 i j hij (by have:=hpu.1.len;rw[←this];simpa using hj);have g:∀k (hk:k<p.toList.length),fX p k=p.toList[k]:=λk hk=>by
    unfold fX;have:k<p.size:=by simpa using hk
    simp[Array.getD,this]
   rw[g i hi,g j hj] at z;exact z
end
end L2
namespace L2
open PySem PySem.Spec PyProof.Rows PySem.W PySem.Calls
section
variable{prog:Program}{w:World}{A:Around}{E:Value->Shared->Prop}{s:Shared}
theorem T8{a:Addr}{vs:List Value}{n:Nat}{P:PySem.Fin->Shared->Prop}(ho:s.heap.get? a=some (seqObj "list" vs.toArray n))(h2:vs.length<2)
  (hP:∀h' c,(∀b o,b≠a->s.heap.get? b=some o->h'.get? b=some o)->h'.get? a=some (seqObj "list" vs.toArray c)->P (.done (.ret .none)) {s with heap:=h'}):
  wpAny (model prog w) A (Builtin.«list.sort» ⟨[.ref a],[]⟩) P E s:=by
 obtain⟨e1,ho1⟩:∃e1,(s.heap.update a (Obj.mapSeq λ_=>(#[]:Array Value))).get? a=some (seqObj "list" #[] e1):=⟨_,get?_update_seq ho λ_=> #[]⟩;have k1:∀b o,b≠a->s.heap.get? b=some o->(((s.heap.update a (Obj.mapSeq λ_=>(#[]:Array Value))).push (seqObj "tuple" vs.toArray 0)).push (seqObj "list" #[] 0)).get? b=some o:=λb o nb e=>
  aS _ (aS _ (by rw[dU _ _ _ _ nb];exact e))
 have na:(((s.heap.update a (Obj.mapSeq λ_=>(#[]:Array Value))).push (seqObj "tuple" vs.toArray 0)).push (seqObj "list" #[] 0)).get? a=some (seqObj "list" #[] e1):=aS _ (aS _ ho1);rw[list_sort_plain];refine eE (listItems_at ho rfl ?_);refine eE (listUpdate_at ho rfl ?_ (by rw[bE,eJ];omega) (a9 _));refine eE (seqEpoch_at ho1 rfl ?_);refine eE (wpAny_newTuple ?_ (by show vs.length<=_;rw[eJ];omega));refine eE (wpAny_newList ?_ (a9 _))
 refine eK ?_;show wpAny (model prog w) A _ P E {s with heap:=((s.heap.update a (Obj.mapSeq λ_=>(#[]:Array Value))).push (seqObj "tuple" vs.toArray 0)).push (seqObj "list" #[] 0)};dsimp only;have hn2:vs.toArray.size<2:=by rw[bE];omega
 rw[if_pos hn2,if_pos hn2];generalize ((s.heap.update a (Obj.mapSeq λ_=>(#[]:Array Value))).push (seqObj "tuple" vs.toArray 0)).push (seqObj "list" #[] 0)=h3 at k1 na ⊢;refine eE (eX ?_);rw[StateT.run_pure];refine eE (eX ?_);dsimp only;have hout:(arrOf (SortSt.mk' general' (vs.toArray.zip vs.toArray) #[] 7 none)).map (·.2)=vs.toArray:=by
  show (vs.toArray.zip vs.toArray).map (·.2)=vs.toArray;apply Array.toList_inj.mp;simp[List.map_snd_zip]
 rw[hout];obtain⟨c2,hc2⟩:∃c2,(h3.update a (Obj.mapSeq λ_=>vs.toArray)).get? a=some (seqObj "list" vs.toArray c2):=⟨_,get?_update_seq na λ_=>vs.toArray⟩;refine eE (seqEpoch_at na rfl ?_);refine eE (listUpdate_at na rfl ?_ (a9 _) (by rw[bE,eJ];omega));simp only[bne_self_eq_false,Bool.false_eq_true,if_false];exact eX (hP _ c2 (λb o nb e=>by rw[dU _ _ _ _ nb];exact k1 b o nb e) hc2)
theorem ZI{l:Addr}{vs:List Value}{Q:Value->Shared->Prop}(hl:s.heap.IsList l vs.toArray)(h2:vs.length<2)
  (hQ:∀D h' c,(∀b o,s.heap.get? b=some o->h'.get? b=some o)->s.heap.objs.size<=D->h'.get? D=some (seqObj "list" vs.toArray c)->Q (.ref D) {s with heap:=h'}):
  wpAny (model prog w) A (call (.builtin "sorted") [.ref l]) Q E s:=by
 refine Calls.call_function_entry kind_sorted plain_sorted entry_sorted (args_sorted1 _) ?_;unfold Builtin.«sorted»;refine eE (m:=checkCount "sorted" 1 1 _) (eX ?_);refine eE (collect_list hl ?_ (by rw[eJ];omega));refine eE (wpAny_newList ?_ (by rw[eJ];omega));have hsz:((s.heap.push (seqObj "list" #[] 0)).update s.heap.objs.size (Obj.mapSeq (·++vs.toArray))).objs.size=s.heap.objs.size+1:=by
  rw[Heap.size_update,size_push']
 have hoL:(((s.heap.push (seqObj "list" #[] 0)).update s.heap.objs.size (Obj.mapSeq (·++vs.toArray))).push (seqObj "list" vs.toArray 0)).get? (s.heap.objs.size+1)=some (seqObj "list" vs.toArray 0):=by
  rw[←hsz];exact bD _ rfl
 have keep:∀b o,s.heap.get? b=some o->(((s.heap.push (seqObj "list" #[] 0)).update s.heap.objs.size (Obj.mapSeq (·++vs.toArray))).push (seqObj "list" vs.toArray 0)).get? b=some o:=λb o q=>by
  have hlt:b<s.heap.objs.size:=aR q;rw[Heap.get?_push_ne _ _ _ (by rw[hsz];exact aU (b9 hlt)),dU _ _ _ _ (aU hlt),Heap.get?_push_ne _ _ _ (aU hlt)];exact q
 have ne:∀b o,s.heap.get? b=some o->b≠s.heap.objs.size+1:=λb o q=>aU (b9 (aR q));show wpAny _ _ _ _ _ {s with heap:=((s.heap.push (seqObj "list" #[] 0)).update s.heap.objs.size (Obj.mapSeq (·++vs.toArray))).push (seqObj "list" vs.toArray 0)};rw[hsz];refine eE (eK (d9 slot_list_sort ⟨_,hoL,rfl⟩ entry_list_sort ?body (args_list_sort _)))
 case body=>
  refine T8 (s:={s with heap:=((s.heap.push (seqObj "list" #[] 0)).update s.heap.objs.size (Obj.mapSeq (·++vs.toArray))).push (seqObj "list" vs.toArray 0)}) hoL h2 λh' c kp hD=>?_;exact⟨(),eX ⟨(),hQ _ h' c (λb o e=>kp b o (ne b o e) (keep b o e)) (cD _) hD⟩⟩
end
def gI(H:Hp)(v:V)(p:Int×Int):Prop:=∃t,v=.ref t/\H t=some (.tup [.int p.1,.int p.2])
theorem IC{P:Program}{w:World}{H:Hp}{h:Heap}(ok:HOk P w H h):∀{us:List V} {vs:List Value} {ps:List (Int×Int)},Vals us vs->Paired (gI H) us ps->Paired (mh h) vs ps
 |_,_,_,.nil,.nil=>.nil
 |_,_,_,.cons r rs,.cons ⟨t,e,ht⟩ ts=>by
  subst e;cases r;obtain⟨_,its,rv,it⟩:=ok t _ ht;cases rv with
  |cons r1 rv=>
   cases rv with
   |cons r2 rv=>
    cases rv;exact .cons ⟨t,_,(),it,r1,r2⟩ (IC ok rs ts)
theorem GA{H:Hp}:∀{us:List V} {ps:List (Int×Int)},Paired (gI H) us ps->∀i,i<ps.length->gI H (us.getD i .non) (ps.getD i (0,0))
 |_,_,.cons r _,0,_=>r
 |_,_,.cons _ t,i+1,hi=>GA t i (by simpa using hi)
theorem AG{H:Hp}{us:List V}{ps:List (Int×Int)}(hp:Paired (gI H) us ps):∀{p:List Nat},(∀i∈p,i<ps.length)->Paired (gI H) (p.map λi=>us.getD i .non) (p.map λi=>ps.getD i (0,0))
 |[],_=>.nil
 |i::p,h=>.cons (GA hp i (h i a8)) (AG hp λj hj=>h j (bM _ hj))
theorem GR{us:List V}{vs:List Value}(r:Vals us vs):∀{p:List Nat},(∀i∈p,i<us.length)->Vals (p.map λi=>us.getD i .non) (p.map λi=>vs.getD i Value.none)
 |[],_=>.nil
 |i::p,h=>by
  have hi:=h i a8;obtain⟨u,hu,ru⟩:=Vals.get r (i:=i) (bC hi);refine .cons ?_ (GR r λj hj=>h j (bM _ hj));show RelV (us.getD i .non) (vs.getD i Value.none);rw[sC hi,d7,hu];exact ru
section
variable{X:Cx}
theorem Nn:ig X (.builtin "sorted") (λxs H Q=>∃(l:Addr) (us:List V) (ps:List (Int×Int)),xs=[.ref l]/\SqL X.K H l us/\Paired (gI H) us ps/\ps.length<64/\ps.Nodup/\∀(D:Addr) (us':List V) (ps':List (Int×Int)),H D=none->Paired (gI H) us' ps'->ps'.Perm ps->ps'.Pairwise (λa b=>hV a b=true)->Q (.ref D) (upd H D (.lst us'))):=by
 refine⟨λpins s σ H xs us Q I r h=>?_⟩;obtain⟨l,us,ps,rfl,hl,hp,h64,nd,k⟩:=h;obtain⟨u,rfl,ru⟩:=iO r;cases ru;obtain⟨its,rv,pl,hz⟩:=I.list hl;have hv:=IC I.hok rv hp;have len:=pS hp;have lv:=pS hv;by_cases h2:2<=ps.length
 ·refine RU pl.isList hv h2 h64 nd λp D h' c hperm hpw kp lD hD=>?_;have hin:∀i∈p,i<ps.length:=λi hi=>bW.mp (hperm.mem_iff.mp hi);have vz:=GR rv (p:=p) (λi hi=>by rw[len];exact hin i hi);have J:=I.laid (a:=D) (o:=.lst (p.map λi=>us.getD i .non)) (t':=s.toks) (h':=h') kp lD ⟨by rw[aQ,hperm.length_eq,bY,eJ];omega,_,c,vz,hD⟩;refine⟨.ref D,_,J,rfl,k D _ _ (I.hok.fresh lD) (AG hp hin) ?_ hpw⟩;have e:(List.range ps.length).map (λi=>ps.getD i (0,0))=ps:=by
   apply List.ext_getElem
   ·simp
   ·intro i h1 h2;rw[List.getElem_map,List.getElem_range];exact sC h2
  have z:=hperm.map λi=>ps.getD i (0,0);rw[e] at z;exact z
 ·refine ZI pl.isList ⋯ λD h' c kp lD hD=>?_;have J:=I.laid (a:=D) (o:=.lst us) (t':=s.toks) (h':=h') kp lD ⟨hz,_,c,rv,hD⟩;refine⟨.ref D,_,J,rfl,k D _ _ (I.hok.fresh lD) hp (List.Perm.refl _) ?_⟩
  match ps,h2 with
  |[],_=>exact .nil
  |[p],_=>exact List.pairwise_singleton _ _
  |_::_::_,h2=>exact absurd (by simp) h2
end
end L2
namespace L2
open PySem PySem.Spec PyProof.Rows PySem.W
section
variable{X:Cx}
theorem ZV:oK X (tG X.K):=⟨YC⟩
theorem Iq{K:FG}(hK:X.K=K:=by rfl):oK X (tG K):=hK▸ZV
theorem CN{K:FG}(hK:X.K=K:=by rfl):gF X (binaryOp .Add) (λx y H Q=>∃(a b:Addr) (xs ys:List V),x=.ref a/\y=.ref b/\SqT K H a xs/\SqT K H b ys/\(xs≠[]/\ys≠[])/\xs.length+ys.length<=sizeLine/\∀p,H p=none->Q (.ref p) (upd H p (.tup (xs++ys)))):=by
 subst hK;refine⟨λpins s σ H x y v u Q I rx ry h=>?_⟩;obtain⟨a,b,xs,ys,rfl,rfl,ha,hb,hn,hz,q⟩:=h;cases rx;cases ry;obtain⟨i1,r1,p1,z1⟩:=I.tuple ha;obtain⟨i2,r2,p2,z2⟩:=I.tuple hb;obtain⟨⟨cls,dd,data,sl⟩,ho,hc,n,hd⟩:=id p1;obtain⟨⟨cls2,dd2,data2,sl2⟩,ho2,hc2,n2,hd2⟩:=id p2;simp only at hc hd hc2 hd2;subst hc hd hc2 hd2;have l1:=r1.length;have l2:=r2.length;have e1:¬i1.toArray.isEmpty=true:=by
  intro e;have e:i1=[]:=by simpa using e
  rw[e] at l1;exact hn.1 (dQ l1)
 have e2:¬i2.toArray.isEmpty=true:=by
  intro e;have e:i2=[]:=by simpa using e
  rw[e] at l2;exact hn.2 (dQ l2)
 refine concat_meets ⟨_,ho,rfl⟩ ⟨_,ho2,rfl⟩ noFill_tuple_add seq_tuple_add PySem.F.slot_tuple_add PySem.F.entry_tuple_add (PySem.F.args_tuple_add_2 _ _) (tuple_addW2 a b _ _ n n2 dd dd2 sl sl2 e1 e2 (by simp only[bE];omega)) ⟨ho,ho2,?_⟩;refine⟨.ref s.heap.objs.size,upd H s.heap.objs.size (.tup (xs++ys)),I.laid (t':=s.toks) (λb u e=>aS _ e) (aP _) ?_,rfl,q _ (I.hok.fresh (aP _))⟩;have z:=IsTup.new s.heap (i1.toArray++i2.toArray)
 exact⟨by rw[aV];exact hz,i1++i2,r1.append r2,by simpa using z⟩
theorem UO{K:FG}{o e:Expr}{to te:TE}{apos cpos:Pos}(ho:E X o to)(he:E X e te)(hbase:attributeBase o "pop" X.env (eval o X.env)=eval o X.env:=by rfl)
  (hfew:((backTo cpos (starEach [e] X.env)).all (λx=> !x.1)&&(backToKw cpos (keywordEach [] X.env)).all (λx=>x.1.isSome)&&decide (([e]:List Expr).length+([]:List Keyword).length+(if ([]:List Keyword).isEmpty then 0 else 1)<30))=true:=by rfl)
  (hline:(apos.endLine==cpos.line)=true:=by rfl) (hs:starEach [e] X.env=(false,eval e X.env)::starEach [] X.env:=by rfl) (hplain:(backTo cpos (starEach [] X.env)).any (·.1)=false:=by rfl) (hK:X.K=K:=by rfl):
  E X (.Call (.Attribute o "pop" apos) [e] [] cpos) (mZ K "list" K5 to (je te iU)):=
 hK▸⟨ou PySem.F.plainAttrs_list PySem.F.slot_list_pop PySem.F.type_list_pop P2 ho.h (kK he.h k6 hs) hbase hfew hline hs hplain⟩
end
end L2
namespace L2
open PySem PySem.Spec PyProof.Rows PySem.W
section
variable{X:Cx}
theorem Vp:ig X (.builtin "sorted") (λxs H Q=>∃(l:Addr) (ns:List Int),xs=[.ref l]/\SqL X.K H l (ns.map V.int)/\ns.length<64/\∀(D:Addr) (zs:List Int),H D=none->zs.Perm ns->zs.Pairwise (·<=·)->Q (.ref D) (upd H D (.lst (zs.map V.int)))):=by
 refine⟨λpins s σ H xs us Q I r h=>?_⟩;obtain⟨l,ns,rfl,hl,h64,k⟩:=h;obtain⟨u,rfl,ru⟩:=iO r;cases ru;obtain⟨its,rv,pl,hz⟩:=I.list hl;have len:=rv.length;rw[aQ] at len;refine sorted_ints pl.isList (x8 rv) ⋯ λout zs hi hp hs=>?_;obtain⟨c,hD⟩:=sortedAll_at s.heap its out;have vz:=rS hi;have J:=I.laid (a:=s.heap.objs.size+1) (o:=.lst (zs.map V.int)) (t':=s.toks) (h':=sortedAll s.heap its out) (λb o e=>sortedAll_old e) (cD _) ⟨by rw[aQ,hp.length_eq,eJ];omega,out.toList,c,vz,hD⟩
 exact⟨.ref (s.heap.objs.size+1),_,J,rfl,k _ zs (I.hok.fresh (cD _)) hp hs⟩
end
end L2
namespace L2
open PySem PySem.Spec PyProof.Rows
abbrev Dx(P:Program)(w:World)(base:Heap){K:PySem.W.Frag}{mg:Str->Option Value}{x:Str}{st:Stmt}{ps:List Str}(_:Fn K mg x st ps)(k:Nat)(sp:Sp):Prop:=Df P w K mg base x k ps sp
abbrev Dm(P:Program)(w:World)(mg:Str->Option Value)(base:Heap){K:PySem.W.Frag}{C:Addr}{m q:Str}{st:Stmt}{ps:List Str}(_:FnM K C m q st ps)(k:Nat)(sp:Sp):Prop:=n8 P w K mg base C m k ps sp
end L2
namespace K83
open PySem PySem.Spec PyProof.Rows L2 KM
noncomputable def top(i:Nat):Stmt:=PySem.Challenge.pw_fivefields_k83_readings.main.body.getD i (.Pass ⟨0,0,0,0⟩)
abbrev aF:Addr:=399
abbrev aH:Addr:=433
abbrev aI:Addr:=466
abbrev aM:Addr:=492
abbrev aG:Addr:=525
abbrev aE:Addr:=558
abbrev aJ:Addr:=591
abbrev aO:Addr:=364
abbrev aA:Addr:=740
abbrev aD:Addr:=847
abbrev aB:Addr:=889
noncomputable abbrev ij:KM.Cs:=⟨aF,aH,aI,aM,aG,aE,aJ,aO⟩
noncomputable abbrev Jr:Stmt:=g9 (top 75) 0
noncomputable abbrev AF:Stmt:=g9 (top 76) 0
noncomputable abbrev Lr:Stmt:=g9 (top 76) 1
noncomputable abbrev oH:Stmt:=g9 (top 77) 0
noncomputable abbrev GZ:Stmt:=g9 (top 77) 1
noncomputable abbrev Nv:Stmt:=g9 (top 78) 0
noncomputable abbrev EG:Stmt:=g9 (top 78) 1
noncomputable abbrev Jy:Stmt:=g9 (top 79) 0
noncomputable abbrev Dr:Stmt:=g9 (top 80) 0
noncomputable abbrev zk:Stmt:=g9 (top 80) 1
noncomputable abbrev Kh:Stmt:=g9 (top 81) 0
noncomputable abbrev Jx:Stmt:=g9 (top 81) 1
noncomputable abbrev M5:Stmt:=g9 (top 82) 0
noncomputable abbrev E6:Stmt:=g9 (top 82) 1
noncomputable abbrev DR:Stmt:=g9 (top 101) 0
noncomputable abbrev zM:Stmt:=g9 (top 101) 5
noncomputable abbrev Bg:Stmt:=g9 (top 101) 4
noncomputable abbrev oR:Stmt:=g9 (top 116) 0
noncomputable abbrev Ed:Stmt:=g9 (top 116) 1
noncomputable abbrev I8:Stmt:=g9 (top 116) 2
noncomputable abbrev YT:Stmt:=g9 (top 116) 3
noncomputable abbrev y8:Stmt:=g9 (top 117) 0
noncomputable abbrev A7:Stmt:=g9 (top 117) 3
noncomputable abbrev Ei:Stmt:=g9 (top 117) 1
noncomputable abbrev Mm:Stmt:=g9 (top 117) 2
noncomputable def gX(y:Int):Bool:=decide (y%4=0)&&(!decide (y%100=0)||decide (y%400=0))
noncomputable def mb(y s:Int):Int:=(y+s-1) / s
noncomputable def db(y:Int):Int:=365*y+(mb y 4-mb y 100+mb y 400)
noncomputable def lasts:List Int:=[31,28,31,30,31,30,31,31,30,31,30,31]
noncomputable def jc(y:Int):Int:=if gX y=true then 1 else 0
noncomputable def gd(y m:Int):Int:=if m=2 then 28+jc y else lasts.getD (m-1).toNat 0
theorem ri(y:Int):gX y=true↔(y%4=0/\(y%100≠0∨y%400=0)):=by
 unfold gX;simp
theorem G0{y:Int}(h:y%4=0/\(y%100≠0∨y%400=0)):gX y=true:=(ri y).mpr h
theorem Gf{y:Int}(h:¬(y%4=0/\(y%100≠0∨y%400=0))):gX y=false:=by
 cases e:gX y
 ·rfl
 ·exact absurd ((ri y).mp e) h
theorem nj(y:Int):db y=365*y+((y+3) / 4-(y+99) / 100+(y+399) / 400):=by
 have e1:y+4-1=y+3:=⋯;have e2:y+100-1=y+99:=⋯;have e3:y+400-1=y+399:=⋯;unfold db mb;rw[e1,e2,e3]
theorem uj(y q:Int):db (y+400*q)=db y+146097*q:=by rw[nj,nj];omega
theorem GD(y q:Int):jc (y+400*q)=jc y:=by
 have e:gX (y+400*q)=gX y:=by
  unfold gX;rw[show (y+400*q)%4=y%4 by omega,show (y+400*q)%100=y%100 by omega,show (y+400*q)%400=y%400 by omega]
 unfold jc;rw[e]
theorem xI:∀r:Nat,r<400->db ((r:Int)+1)-db (r:Int)=365+jc (r:Int):=by decide +kernel
theorem RP(y:Int):db (y+1)-db y=365+jc y:=by
 have z:=xI (y%400).toNat ⋯;obtain⟨q,e⟩:∃q,y=((y%400).toNat:Int)+400*q:=⟨y / 400,⋯⟩;generalize ((y%400).toNat:Int)=r at z e;rw[e,show r+400*q+1=r+1+400*q by omega,uj,uj,GD];omega
theorem vn{m:Int}(h1:1<=m)(h2:m<=12):hZ (lasts.map V.int) (m-1)=some (V.int (lasts.getD (m-1).toNat 0)):=by
 have hk:(m-1).toNat<12:=⋯;have e:m-1=(((m-1).toNat:Nat):Int):=⋯;rw[e];refine mF ?_;rw[bP];generalize (m-1).toNat=j at hk
 match j,hk with
 |0,_ | 1,_ | 2,_ | 3,_ | 4,_ | 5,_ | 6,_ | 7,_ | 8,_ | 9,_ | 10,_ | 11,_=>rfl
 |n+12,h=>exact absurd h ⋯
noncomputable def nE(y:Int):Nat->Int
 |0=>0
 |n+1=>nE y n+gd y ((n:Int)+1)
noncomputable def jF(y m:Int):Int:=nE y (m-1).toNat
theorem xH{y m:Int}(h:1<=m):jF y (m+1)=jF y m+gd y m:=by
 have e:(m+1-1).toNat=(m-1).toNat+1:=⋯;have e2:(((m-1).toNat:Nat):Int)+1=m:=⋯;unfold jF;rw[e];show nE y (m-1).toNat+gd y (((m-1).toNat:Int)+1)=_;rw[e2]
theorem SI(y:Int):jF y 13=365+jc y:=by
 show 0+gd y 1+gd y 2+gd y 3+gd y 4+gd y 5+gd y 6+gd y 7+gd y 8+gd y 9+gd y 10+gd y 11+gd y 12=_;have e2:gd y 2=28+jc y:=rfl;rw[e2];show 0+31+(28+jc y)+31+30+31+30+31+31+30+31+30+31=_;omega
noncomputable def nr(k:Int):List Int:=if k / 7=12 then [2,29,k%7] else [k / 7+1,gd 1 (k / 7+1),k%7]
noncomputable def jg(k:Int):Int:=if k / 7=12 then 2 else k / 7+1
noncomputable def gG(k:Int):Int:=if k / 7=12 then 29 else gd 1 (k / 7+1)
theorem Hj(k:Int):nr k=[jg k,gG k,k%7]:=by
 unfold nr jg gG;split<;>rfl
theorem Xu:∀n:Nat,n<91->(1<=jg n/\jg n<=12)/\(28<=gG n/\gG n<=31):=by decide +kernel
theorem me{k:Int}(h0:0<=k)(h1:k<=90):(1<=jg k/\jg k<=12)/\Lf (gG k) (k%7):=by
 have z:=Xu k.toNat ⋯;rw[bV h0] at z;exact⟨z.1,z.2,⋯,⋯⟩
def DVn(c:Cs)(D:Addr)(H:Hp)(v:V)(ko:Ko):Prop:=DV c H v ko/\∀p,v=.ref p->p≠D
theorem DVn.keep{c:Cs}{D:Addr}{H H':Hp}(s:Same H H'){v:V}{ko:Ko}(h:DVn c D H v ko):DVn c D H' v ko:=⟨h.1.keep s,h.2⟩
theorem DVn.upd{c:Cs}{D:Addr}{H:Hp}{l':List V}{v:V}:∀{ko:Ko},DVn c D H v ko->(∃l,H D=some (.lst l))->DVn c D (upd H D (.lst l')) v ko
 |none,h,_=>h
 |some ks,⟨⟨p,qs,e,h1,h2,h3⟩,hn⟩,⟨l,hl⟩=>⟨⟨p,qs,e,by rw[fG (hn p e)];exact h1,h2.keepM (tT hl),h3⟩,hn⟩
def RR(c:Cs)(m0 m1 m3:Int)(kd kw:Ko)(D:Addr)(i:Nat)(l:List V)(H:Hp):Prop:=match i with
 |0=>l=[]
 |1=>l=[.int m0]
 |2=>l=[.int m0,.int m1]
 |3=>∃dv,l=[.int m0,.int m1,dv]/\DVn c D H dv kd
 |4=>∃dv,l=[.int m0,.int m1,dv,.int m3]/\DVn c D H dv kd
 |_=>∃dv wv,l=[.int m0,.int m1,dv,.int m3,wv]/\DVn c D H dv kd/\DVn c D H wv kw
theorem RR.keep{c:Cs}{m0 m1 m3:Int}{kd kw:Ko}{D:Addr}{l:List V}{H H':Hp}(s:Same H H'):∀{i:Nat},RR c m0 m1 m3 kd kw D i l H->RR c m0 m1 m3 kd kw D i l H'
 |0,h=>h
 |1,h=>h
 |2,h=>h
 |3,⟨dv,e,h⟩=>⟨dv,e,h.keep s⟩
 |4,⟨dv,e,h⟩=>⟨dv,e,h.keep s⟩
 |_+5,⟨dv,wv,e,h,h'⟩=>⟨dv,wv,e,h.keep s,h'.keep s⟩
theorem RR.upd{c:Cs}{m0 m1 m3:Int}{kd kw:Ko}{D:Addr}{l l':List V}{H:Hp}(hl:∃l,H D=some (.lst l)):∀{i:Nat},RR c m0 m1 m3 kd kw D i l H->RR c m0 m1 m3 kd kw D i l (upd H D (.lst l'))
 |0,h=>h
 |1,h=>h
 |2,h=>h
 |3,⟨dv,e,h⟩=>⟨dv,e,h.upd hl⟩
 |4,⟨dv,e,h⟩=>⟨dv,e,h.upd hl⟩
 |_+5,⟨dv,wv,e,h,h'⟩=>⟨dv,wv,e,h.upd hl,h'.upd hl⟩
theorem Z4{ws:List (List Nat)}(h:∀w∈ws,w≠[]):rN (.str (Tx [])) (ws.map λq=>V.str (Tx q))=false:=by
 unfold rN;rw[List.any_map,dE];intro w hw hc;have e:Tx w=Tx []:=beq_iff_eq.mp (show (Tx w==Tx [])=true from hc);exact h w hw (by have:=congrArg (λz=>z.cps.toList) e;simpa [Tx] using this)
noncomputable def ic(m0 m1:Int)(dv:V)(m3:Int)(wv:V)(tm:Int):List (Str×V):=fK "time_mask" (.int tm) (fK "weekday_marks" wv (fK "month_mask" (.int m3) (fK "day_marks" dv (fK "hour_mask" (.int m1) (fK "minute_mask" (.int m0) [])))))
theorem Yk(m0 m1:Int)(dv:V)(m3:Int)(wv:V)(tm:Int):(ic m0 m1 dv m3 wv tm).lookup ("minute_mask":Str)=some (.int m0):=by
 unfold ic;rw[gc,if_neg (by decide +kernel),gc,if_neg (by decide +kernel),gc,if_neg (by decide +kernel),gc,if_neg (by decide +kernel),gc,if_neg (by decide +kernel),gc,if_pos rfl]
theorem TM(m0 m1:Int)(dv:V)(m3:Int)(wv:V)(tm:Int):(ic m0 m1 dv m3 wv tm).lookup ("hour_mask":Str)=some (.int m1):=by
 unfold ic;rw[gc,if_neg (by decide +kernel),gc,if_neg (by decide +kernel),gc,if_neg (by decide +kernel),gc,if_neg (by decide +kernel),gc,if_pos rfl]
theorem XB(m0 m1:Int)(dv:V)(m3:Int)(wv:V)(tm:Int):(ic m0 m1 dv m3 wv tm).lookup ("day_marks":Str)=some (dv):=by
 unfold ic;rw[gc,if_neg (by decide +kernel),gc,if_neg (by decide +kernel),gc,if_neg (by decide +kernel),gc,if_pos rfl]
theorem UV(m0 m1:Int)(dv:V)(m3:Int)(wv:V)(tm:Int):(ic m0 m1 dv m3 wv tm).lookup ("month_mask":Str)=some (.int m3):=by
 unfold ic;rw[gc,if_neg (by decide +kernel),gc,if_neg (by decide +kernel),gc,if_pos rfl]
theorem P0(m0 m1:Int)(dv:V)(m3:Int)(wv:V)(tm:Int):(ic m0 m1 dv m3 wv tm).lookup ("weekday_marks":Str)=some (wv):=by
 unfold ic;rw[gc,if_neg (by decide +kernel),gc,if_pos rfl]
theorem XJ(m0 m1:Int)(dv:V)(m3:Int)(wv:V)(tm:Int):(ic m0 m1 dv m3 wv tm).lookup ("time_mask":Str)=some (.int tm):=by
 unfold ic;rw[gc,if_pos rfl]
theorem Jn(m0 m1:Int)(dv:V)(m3:Int)(wv:V)(tm:Int):(ic m0 m1 dv m3 wv tm).lookup ("days_in":Str)=none:=by
 unfold ic;rw[gc,if_neg (by decide +kernel),gc,if_neg (by decide +kernel),gc,if_neg (by decide +kernel),gc,if_neg (by decide +kernel),gc,if_neg (by decide +kernel),gc,if_neg (by decide +kernel)];rfl
theorem zI(m0 m1:Int)(dv:V)(m3:Int)(wv:V)(tm:Int):(ic m0 m1 dv m3 wv tm).lookup ("times":Str)=none:=by
 unfold ic;rw[gc,if_neg (by decide +kernel),gc,if_neg (by decide +kernel),gc,if_neg (by decide +kernel),gc,if_neg (by decide +kernel),gc,if_neg (by decide +kernel),gc,if_neg (by decide +kernel)];rfl
def SV(b:Bool)(H:Hp)(v:V):Ko->Prop
 |none=>v=.non
 |some ks=>∃p us,v=.ref p/\H p=some (.lst (us.map V.ref))/\Ft (TpAt b H) us ks
theorem SV.keep{b:Bool}{H H':Hp}(s:Same H H'){v:V}:∀{ko:Ko},SV b H v ko->SV b H' v ko
 |none,h=>h
 |some _,⟨p,us,e,h1,h2⟩=>⟨p,us,e,s _ _ h1,h2.keepT s.keep⟩
theorem vW{b:Bool}{ko:Ko}{a l f:Int}(h:Lf l f)(o:∀ks,ko=some ks->∀k∈ks,k.ok)(ha:0<=a):0<=jf ko a l f:=by
 cases ko with
 |none=>exact ha
 |some ks=>exact mM ha (FV h (o ks rfl))
theorem Xb{a m:Int}{k:Nat}(ha:0<=a)(hk:a<2^k)(hm:0<=m):Builtin.bitOr a (m*2^k)=a+m*2^k:=by
 obtain⟨x,rfl⟩:=bF ha;obtain⟨y,rfl⟩:=bF hm;have e:((y:Int)*2^k)=((y*2^k:Nat):Int):=by rw[Int.natCast_mul,jH]
 have hx:x<2^k:=by have:=jH k;omega
 rw[e,rJ,Nat.or_comm,←Nat.shiftLeft_eq,←Nat.shiftLeft_add_eq_or_of_lt hx,Nat.shiftLeft_eq];omega
noncomputable def iG(h m:Int):Int:=gm ((kF h).map λz=>m*2^(60*z).toNat)
theorem M3{h m:Int}(hm:0<=m)(hm2:m<2^60):∀n:Nat,gm ((flt (tb h) 0 n).map λz=>m*2^(60*z).toNat)=((flt (tb h) 0 n).map λz=>m*2^(60*z).toNat).sum/\0<=((flt (tb h) 0 n).map λz=>m*2^(60*z).toNat).sum/\((flt (tb h) 0 n).map λz=>m*2^(60*z).toNat).sum<2^(60*n)
 |0=>by rw[q0];exact⟨rfl,aZ 0,(by decide:(0:Int)<2^0)⟩
 |n+1=>by
  obtain⟨h1,h2,h3⟩:=M3 hm hm2 n;have p60:(2:Int)^(60*(n+1))=2^(60*n)*2^60:=by rw[show 60*(n+1)=60*n+60 by omega,Int.pow_add]
  have p0:=il (60*n);cases c:tb h n
  ·rw[qa c,p60];refine⟨h1,h2,Int.lt_of_lt_of_le h3 ?_⟩;have:(2:Int)^(60*n)*1<=2^(60*n)*2^60:=Int.mul_le_mul_of_nonneg_left (by decide) (cA p0);omega
  ·have ez:(60*(0+(n:Int))).toNat=60*n:=⋯;have hb:(m+1)*2^(60*n)<=2^60*2^(60*n):=Int.mul_le_mul_of_nonneg_right ⋯ (cA p0);have hn2:0<=m*2^(60*n):=Int.mul_nonneg hm (cA p0);rw[rM c,aY,List.map_singleton,pk,List.sum_append,h1,ez,Xb h2 h3 hm,p60];rw[Int.add_mul,Int.mul_comm (2^60)] at hb;refine⟨by simp,?_,?_⟩
   ·show 0<=_+(m*2^(60*n)+0);omega
   ·show _+(m*2^(60*n)+0)<_;omega
noncomputable def jp(y m:Int):Int:=if m=2/\gX y=true then 12 else m-1
noncomputable def kindOf(y m:Int):Int:=7*jp y m+(db y+jF y m+6)%7
theorem HV{y m:Int}(h1:1<=m)(h2:m<=12):0<=jp y m/\jp y m<=12:=by
 unfold jp;split<;>omega
theorem Jf{y m:Int}(h1:1<=m)(h2:m<=12):0<=kindOf y m/\kindOf y m<=90:=by
 have:=HV (y:=y) h1 h2;unfold kindOf;omega
theorem EB{y m:Int}(h:¬m=2):gd y m=lasts.getD (m-1).toNat 0:=by unfold gd;rw[if_neg h]
theorem OZ{y m:Int}(h1:1<=m)(h2:m<=12):nr (kindOf y m)=[m,gd y m,kindOf y m%7]:=by
 have hp:=HV (y:=y) h1 h2;have e:kindOf y m / 7=jp y m:=by unfold kindOf;omega
 unfold nr;rw[e];by_cases c:m=2/\gX y=true
 ·have ep:jp y m=12:=by unfold jp;rw[if_pos c]
  have el:gd y m=29:=by unfold gd jc;rw[if_pos c.1,if_pos c.2];rfl
  rw[ep,if_pos rfl,el,c.1]
 ·have ep:jp y m=m-1:=by unfold jp;rw[if_neg c]
  rw[ep,if_neg ⋯];have e1:m-1+1=m:=⋯;rw[e1];have el:gd 1 m=gd y m:=by
   by_cases c2:m=2
   ·have hl:¬gX y=true:=λz=>c ⟨c2,z⟩;unfold gd jc;rw[if_pos c2,if_pos c2,if_neg hl];rfl
   ·rw[EB c2,EB c2]
  rw[el]
theorem tZ{y m:Int}(h1:1<=m)(h2:m<=12):jg (kindOf y m)=m/\gG (kindOf y m)=gd y m:=by
 have e:=OZ (y:=y) h1 h2;rw[Hj] at e;injection e with e1 e;injection e with e2 e;exact⟨e1,e2⟩
theorem Rn{y m:Int}(h1:1<=m)(h2:m<=12):28<=gd y m/\gd y m<=31:=by
 have e:=tZ (y:=y) h1 h2;have k:=Jf (y:=y) h1 h2;rw[←e.2];exact (me k.1 k.2).2.1
theorem LF(y r:Int):gX (y+400*r)=gX y:=by
 rw[cR,ri,ri];omega
theorem O3(y r m:Int):gd (y+400*r) m=gd y m:=by
 unfold gd jc;rw[LF]
theorem wH(y r:Int):∀n,nE (y+400*r) n=nE y n
 |0=>rfl
 |n+1=>by
  show nE (y+400*r) n+gd (y+400*r) ((n:Int)+1)=nE y n+gd y ((n:Int)+1);rw[wH y r n,O3]
theorem T6(y r:Int):db (y+400*r)=db y+146097*r:=by rw[nj,nj];omega
theorem RJ{kd kw:Ko}{l f:Int}(h:Lf l f)(od:∀ks,kd=some ks->∀k∈ks,k.ok)(ow:∀ks,kw=some ks->∀k∈ks,k.ok):0<=iK kd kw l f:=by
 unfold iK;split
 ·have:=il l.toNat;have:(2:Int)^l.toNat ≥ 1:=⋯;omega
 ·exact vW (b:=true) h ow (vW (b:=false) h od (aZ 0))
noncomputable def tabA:List Nat:=[0,31,59,90,120,151,181,212,243,273,304,334]
noncomputable def nK(y:Nat):Nat:=(if (y%4==0&&(y%100 !=0||y%400==0))=true then 7 else 0)+(365*y+(y+3) / 4-(y+99) / 100+(y+399) / 400+6)%7
noncomputable def nc(c m:Nat):Nat:=7*(if (Nat.beq m 1&&Nat.ble 7 c)=true then 12 else m)+(c%7+tabA.getD m 0+(if (Nat.ble 2 m&&Nat.ble 7 c)=true then 1 else 0))%7
noncomputable def nz(k:Nat):Nat:=if Nat.ble 84 k=true then 1 else k / 7
noncomputable def kH(k:Nat):Nat:=if Nat.ble 84 k=true then 40 else 12
noncomputable def codes:List Nat:=(List.range 440).map nK
noncomputable def j7(k b:Nat):List Nat->Nat->Bool
 |[],_=>true
 |c::r,a=>if Nat.beq (nc c (nz k)) k=true then j7 k b r b else (Nat.ble 2 a&&j7 k b r (a-1))
theorem Zx:∀k:Nat,k<91->j7 k (kH k) codes (kH k)=true:=by decide +kernel
theorem GS{k b c a:Nat}{r:List Nat}(h:j7 k b (c::r) a=true):(nc c (nz k)=k/\j7 k b r b=true)∨(2<=a/\j7 k b r (a-1)=true):=by
 have h:(if Nat.beq (nc c (nz k)) k=true then j7 k b r b else (Nat.ble 2 a&&j7 k b r (a-1)))=true:=h;split at h
 ·rename_i q;exact .inl ⟨Nat.eq_of_beq_eq_true q,h⟩
 ·rw[bL] at h;exact .inr ⟨Nat.le_of_ble_eq_true h.1,h.2⟩
theorem vJ(k b:Nat)(hb:1<=b):∀(n:Nat) (l:List Nat) (a:Nat),1<=a->a<=b->j7 k b l a=true->∃a',1<=a'/\a'<=b/\j7 k b (l.drop n) a'=true
 |0,_,a,h0,h1,h=>⟨a,h0,h1,h⟩
 |n+1,[],a,h0,h1,_=>⟨a,h0,h1,rfl⟩
 |n+1,c::r,a,h0,h1,h=>by
  show ∃a',1<=a'/\a'<=b/\j7 k b (r.drop n) a'=true;rcases GS h with h | h
  ·exact vJ k b hb n r b hb (aP _) h.2
  ·exact vJ k b hb n r (a-1) ⋯ ⋯ h.2
theorem E1(k b:Nat):∀(l:List Nat) (a:Nat),1<=a->a<=l.length->j7 k b l a=true->∃j,j<a/\∃c,l[j]? =some c/\nc c (nz k)=k
 |[],a,h0,h1,_=>absurd h1 (by simp;omega)
 |c::r,a,h0,h1,h=>by
  rcases GS h with h | h
  ·exact⟨0,⋯,c,rfl,h.1⟩
  ·have h1':a<=r.length+1:=h1;obtain⟨j,hj,c',e,q⟩:=E1 k b r (a-1) ⋯ ⋯ h.2;exact⟨j+1,⋯,c',e,q⟩
theorem X6{k:Nat}(hk:k<91){y:Nat}(hy:y<400):∃j,j<kH k/\nc (nK (y+j)) (nz k)=k:=by
 have hb:1<=kH k/\kH k<=40:=by unfold kH;split<;>omega
 obtain⟨a,a0,a1,h⟩:=vJ k (kH k) hb.1 y codes (kH k) hb.1 (aP _) (Zx k hk);have hl:codes.length=440:=by unfold codes;rw[aQ,bY]
 obtain⟨j,hj,c,e,q⟩:=E1 k (kH k) _ a a0 (by rw[cU,hl];omega) h;unfold codes at e;rw[List.getElem?_drop,aX,List.getElem?_range ⋯] at e;have e:nK (y+j)=c:=bH e;exact⟨j,⋯,by rw[e];exact q⟩
theorem RK:∀r:Nat,r<400->∀m:Nat,m<12->kindOf (r:Int) ((m:Int)+1)=(nc (nK r) m:Nat):=by decide +kernel
theorem PU:∀a:Nat,a<440->nK (a%400)=nK a:=by decide +kernel
theorem xR(y m q:Int):kindOf (y+400*q) m=kindOf y m:=by
 have a:jF (y+400*q) m=jF y m:=wH y q _;unfold kindOf jp;rw[LF,T6,a];generalize jF y m=A;generalize db y=B;have e:(B+146097*q+A+6)%7=(B+A+6)%7:=⋯;rw[e]
theorem uY(y:Int)(j:Nat):∃q:Int,y+j=((y%400).toNat+j:Nat)+400*q:=⟨y / 400,⋯⟩
theorem RW(y:Int){j m:Nat}(hj:j<=40)(hm:m<12):kindOf (y+j) ((m:Int)+1)=(nc (nK ((y%400).toNat+j)) m:Nat):=by
 have r0:(y%400).toNat<400:=⋯;obtain⟨q,e⟩:=uY y j;have ha:(y%400).toNat+j<440:=⋯;rw[e,xR];generalize (y%400).toNat+j=a at ha;have e2:(a:Int)=((a%400:Nat):Int)+400*((a / 400:Nat):Int):=⋯;rw[e2,xR,RK _ (Nat.mod_lt _ (by decide)) m hm,PU a ha]
noncomputable def lH(k:Int):Int:=if 83<k then 2 else k / 7+1
noncomputable def rn(k:Int):Int:=if 83<k then 40 else 12
theorem Sl{k:Int}(h0:0<=k)(h1:k<=90):1<=lH k/\lH k<=12:=by unfold lH;split<;>omega
theorem QX:∀k:Nat,k<91->lH (k:Int)=(nz k:Nat)+1/\nz k<12/\rn (k:Int)=(kH k:Nat)/\kH k<=40:=by decide +kernel
theorem Ts{k:Int}(h0:0<=k)(h1:k<=90)(y:Int):∃j:Nat,(j:Int)<rn k/\kindOf (y+j) (lH k)=k/\True:=by
 obtain⟨n,rfl⟩:∃n:Nat,k=n:=⟨k.toNat,⋯⟩;obtain⟨m1,m2,m3,m4⟩:=QX n ⋯;obtain⟨j,hj,hit⟩:=X6 (k:=n) ⋯ (show (y%400).toNat<400 by omega);exact⟨j,⋯,by rw[m1,RW y ⋯ m2,hit],trivial⟩
noncomputable def fB(M:Int):Int:=db (M / 12)+jF (M / 12) (M%12+1)
noncomputable def gq(M:Int):Int:=gd (M / 12) (M%12+1)
noncomputable def gu(M:Int):Int:=kindOf (M / 12) (M%12+1)
theorem ol(M:Int):fB (M+1)=fB M+gq M:=by
 unfold fB gq;by_cases c:M%12=11
 ·rw[show (M+1) / 12=M / 12+1 by omega,show (M+1)%12=0 by omega,c];have a1:=xH (y:=M / 12) (m:=12) (by decide);have a2:=SI (M / 12);have a3:=RP (M / 12);have a4:jF (M / 12+1) (0+1)=0:=rfl;have e:(12:Int)+1=13:=rfl;have e':(11:Int)+1=12:=rfl;rw[e] at a1;rw[a4,e'];omega
 ·rw[show (M+1) / 12=M / 12 by omega,show (M+1)%12=M%12+1 by omega,xH ⋯];omega
theorem pK{k:Int}(h0:0<=k)(h1:k<=90)(y:Int):∃N:Int,12*y<=N/\N<12*y+480/\gu N=k:=by
 obtain⟨j,hj,hk,_⟩:=Ts h0 h1 y;have hm:=Sl h0 h1;have hb:rn k<=40:=by unfold rn;split<;>decide
 refine⟨12*(y+j)+lH k-1,⋯,⋯,?_⟩;unfold gu;rw[show (12*(y+(j:Int))+lH k-1) / 12=y+j by omega,show (12*(y+(j:Int))+lH k-1)%12+1=lH k by omega];exact hk
def NN(t:Int):Prop:=0<=t/\t<2^1440
variable{S W:Int->Int}
theorem Qd{c d m:Int}(hc:0<=c)(hd:0<=d)(hm:0<=m)(h0:∀i,(tb c i&&tb d i)=false)(h1:∀i,(tb c i||tb d i)=tb m i):c+d=m:=by
 have ea:Builtin.bitAnd c d=0:=jS (pQ hc hd) (aZ 0) λi=>by rw[lU hc hd,h0,ju]
 have eo:Builtin.bitOr c d=m:=jS (mM hc hd) hm λi=>by rw[oi hc hd,h1]
 rw[←eo,bitOr_and,ea];omega
theorem VI{m:Int}(h:0<m){k:Nat}(hk:tb m k=true)(hj:∀j,j<k->tb m j=false):Builtin.bitAnd m (-m)=2^k:=by
 have hm1:0<=m-1:=⋯;have e:Builtin.bitAnd m (-m)=m-Builtin.bitAnd m (m-1):=by
  rw[bitAnd_pn ⋯ ⋯,bitAnd_pp ⋯ hm1];have:Builtin.bitNot (-m)=m-1:=by unfold Builtin.bitNot;omega
  rw[this]
 obtain⟨n,rfl⟩:=bF (cA h);have hkn:n.testBit k=true:=hk;have hjn:∀j,j<k->n.testBit j=false:=hj;have em:n%2^k=0:=Nat.eq_of_testBit_eq λi=>by
  rw[Nat.testBit_mod_two_pow,Nat.zero_testBit];by_cases c:i<k
  ·rw[eS c,hjn i c];rfl
  ·rw[eV c];rfl
 have hd:n=2^k*(n / 2^k):=by
  have:=Nat.div_add_mod n (2^k);omega
 have ho:(n / 2^k).testBit 0=true:=by rw[Nat.testBit_div_two_pow,Nat.zero_add];exact hkn
 have ho:n / 2^k%2=1:=by
  rw[Nat.testBit_zero] at ho;exact eQ ho
 obtain⟨q,hq⟩:∃q,n / 2^k=2*q+1:=⟨n / 2^k / 2,⋯⟩;have hp:=Nat.two_pow_pos k;have e1:n=2^(k+1)*q+2^k:=by rw[hd,hq,Nat.mul_add,Nat.mul_one,←Nat.mul_assoc,Nat.pow_succ]
 have e2:n-1=2^(k+1)*q+(2^k-1):=⋯;have hl:2^k-1<2^(k+1):=by rw[Nat.pow_succ];omega
 have hl2:2^k<2^(k+1):=by rw[Nat.pow_succ];omega
 have tb1:∀i,tb ((n:Int)-1) i=(if i<k+1 then (2^k-1).testBit i else q.testBit (i-(k+1))):=λi=>by
  unfold tb;have:((n:Int)-1).toNat=n-1:=⋯;rw[this,e2,Nat.testBit_two_pow_mul_add _ hl]
 have tbn:∀i,tb (n:Int) i=(if i<k+1 then (2^k).testBit i else q.testBit (i-(k+1))):=λi=>by
  unfold tb;rw[bP,e1,Nat.testBit_two_pow_mul_add _ hl2]
 have hz:∀i,(tb (2^k) i&&tb (Builtin.bitAnd (n:Int) ((n:Int)-1)) i)=false:=λi=>by
  rw[lP,lU ⋯ hm1,tb1];by_cases c:k=i
  ·subst c;rw[if_pos ⋯,Nat.testBit_two_pow_sub_one];simp
  ·rw[eV c];rfl
 have hs:=Qd (c:=2^k) (d:=Builtin.bitAnd (n:Int) ((n:Int)-1)) (m:=(n:Int)) (cA (il k)) (pQ ⋯ hm1) ⋯ hz (λi=>by
  rw[lP,lU ⋯ hm1,tb1,tbn];by_cases c:i<k+1
  ·rw[if_pos c,if_pos c,Nat.testBit_two_pow_sub_one,Nat.testBit_two_pow];by_cases d:k=i
   ·subst d;simp
   ·rw[eV d];simp
  ·rw[if_neg c,if_neg c,eV ⋯];cases q.testBit (i-(k+1))<;>rfl)
 omega
theorem ON(k:Nat):Builtin.Int.intBits (2^k)=k+1:=by
 unfold Builtin.Int.intBits;have h0:((2:Int)^k==0)=false:=beq_eq_false_iff_ne.mpr (Int.ne_of_gt (il k));rw[h0];have:((2:Int)^k).natAbs=2^k:=by rw[←jH,Int.natAbs_natCast]
 rw[this,Nat.log2_two_pow];rfl
noncomputable def gS(m3:Int)(kd kw:Ko)(k:Int):Int:=if tb m3 (jg k).toNat=true then iK kd kw (gG k) (k%7) else 0
noncomputable def uT(tm m3:Int)(kd kw:Ko)(k:Int)(j:Nat):Int:=if tb (gS m3 kd kw k) (j+1)=true then tm else 0
theorem qS{c:Cs}{H:Hp}{v:V}{ko:Ko}(h:DV c H v ko):∀ks,ko=some ks->∀k∈ks,k.ok:=λks e=>by
 subst e;obtain⟨_,_,_,_,_,z⟩:=h;exact z
theorem Su{h m:Int}(h0:0<=h)(h1:h<2^24)(hm:0<=m){r:Nat}(a:tb h (r / 60)=true)(b:tb m (r%60)=true):tb (iG h m) r=true:=by
 unfold iG;rw[jN (λz hz=>by
  obtain⟨y,_,rfl⟩:=bG.mp hz;exact Int.mul_nonneg hm (cA (il _))),List.any_eq_true]
 have hlt:r / 60<24:=by
  rcases bU (r / 60) 24 with c | c
  ·exact c
  ·rw[qg h1 c] at a;cases a
 refine⟨_,bG.mpr ⟨((r / 60:Nat):Int),?_,rfl⟩,?_⟩
 ·rw[nZ h0 h1,flt_mem];exact⟨r / 60,hlt,a,⋯⟩
 ·rw[show (60*((r / 60:Nat):Int)).toNat=60*(r / 60) by omega,rd hm,eS (show 60*(r / 60)<=r by omega),show r-60*(r / 60)=r%60 by omega,b];rfl
theorem ME{h m:Int}(h0:0<=h)(h1:h<2^24)(hm:0<=m)(hm2:m<2^60):NN (iG h m):=by
 unfold iG;rw[nZ h0 h1];obtain⟨e,a,b⟩:=M3 (h:=h) hm hm2 24;rw[e];exact⟨a,b⟩
def CH(g:Int->Nat->Int):Prop:=∀k j,NN (g k j)
theorem uP(M:Int):0<=gu M/\gu M<=90:=Jf ⋯ ⋯
theorem YM(M:Int):gG (gu M)=gq M:=(tZ (y:=M / 12) (m:=M%12+1) ⋯ ⋯).2
theorem BK(M:Int):28<=gq M/\gq M<=31:=Rn ⋯ ⋯
theorem VQ{h m m3:Int}{kd kw:Ko}(h0:0<=h)(h1:h<2^24)(hm:0<=m)(hm2:m<2^60):CH (uT (iG h m) m3 kd kw):=λk j=>by
 unfold uT;split
 ·exact ME h0 h1 hm hm2
 ·exact⟨aZ 0,il _⟩
theorem iF{α β:Type}{F:α->β->Prop}:∀{l:List α} {r:List β},Paired F l r->l.length=r.length
 |_,_,.nil=>rfl
 |_,_,.cons _ t=>congrArg (·+1) (iF t)
def SameN(H H':Hp):Prop:=∀b o,(∀ps,o≠ .tbl ps)->H b=some o->H' b=some o
theorem om{H H':Hp}(s:Same H H'):SameN H H':=λb o _ h=>s b o h
theorem SameN.trans{H H1 H2:Hp}(a:SameN H H1)(b:SameN H1 H2):SameN H H2:=λc o n h=>b c o n (a c o n h)
theorem GT{c:Cs}{H H':Hp}(s:SameN H H'){v:V}:∀{ko:Ko},DV c H v ko->DV c H' v ko
 |none,h=>h
 |some _,⟨p,qs,e,h1,h2,h3⟩=>⟨p,qs,e,s _ _ (λ_ z=>by cases z) h1,Paired.imp' (λx k z=>by cases k<;>(obtain⟨dx,z⟩:=z;exact⟨dx,s _ _ (λ_ z=>by cases z) z⟩)) h2,h3⟩
def RowR(c:Cs)(CR:Addr)(H:Hp)(p:Addr)(m0 m1 m3:Int)(kd kw:Ko):Prop:=∃(dx:Addr) (dv wv:V),H p=some (.ins CR dx (ic m0 m1 dv m3 wv (iG m1 m0)))/\(0<=m0/\0<=m1/\0<=m3)/\(m1<2^24/\m0<2^60)/\DV c H dv kd/\DV c H wv kw
theorem RowR.keepN{c:Cs}{CR:Addr}{H H':Hp}{p:Addr}{m0 m1 m3:Int}{kd kw:Ko}(s:SameN H H')(h:RowR c CR H p m0 m1 m3 kd kw):RowR c CR H' p m0 m1 m3 kd kw:=by
 obtain⟨dx,dv,wv,hp,hn,hb,hd,hw⟩:=h;exact⟨dx,dv,wv,s _ _ (λ_ z=>by cases z) hp,hn,hb,GT s hd,GT s hw⟩
theorem RowR.ok{c:Cs}{CR:Addr}{H:Hp}{p:Addr}{m0 m1 m3:Int}{kd kw:Ko}(h:RowR c CR H p m0 m1 m3 kd kw):CH (uT (iG m1 m0) m3 kd kw):=by
 obtain⟨dx,dv,wv,hp,hn,hb,hd,hw⟩:=h;exact VQ hn.2.1 hb.1 hn.1 hb.2
theorem kX{α β:Type}{F:α->β->Prop}:∀{l:List α} {r:List β},Paired F l r->∀{i:Nat} {a:α},l[i]? =some a->∃b,r[i]? =some b/\F a b
 |_,_,.nil,_,_,h=>nomatch h
 |_,_,.cons r _,0,_,h=>by cases h;exact⟨(),r⟩
 |_,_,.cons _ t,i+1,_,h=>kX t h
theorem OU:∀m∈pW,∀l∈my,∀f∈jM,kb m l f<2^(l.toNat+1):=by decide +kernel
theorem Gi:∀l∈my,∀f∈jM,∀d∈se,d<=l->nw d l f<=l:=by decide +kernel
theorem pU{a n:Nat}(h:a<n):(1:Int)*2^a<2^n:=by
 have e:(2:Int)^n=2^a*2^(n-a):=by rw[←Int.pow_add,show a+(n-a)=n by omega]
 have p:=il a;have q:(2:Int)<=2^(n-a):=by
  obtain⟨k,hk⟩:∃k,n-a=k+1:=⟨n-a-1,⋯⟩;rw[hk,Int.pow_succ];have:=il k;omega
 rw[e,Int.one_mul];have:(2:Int)^a*1<2^a*2^(n-a):=Int.mul_lt_mul_of_pos_left ⋯ p;omega
theorem Yq{k:Mk}{l f:Int}(hk:k.ok)(h:Lf l f):k.due l f<2^(l.toNat+1):=by
 have hl:=h.1;have p:=il (l.toNat+1);cases k with
 |num m=>
  show kP m l<_;rw[(vc hk h.1).1];have e:=MH (n:=l.toNat+1) 0 (vc hk h.1).2.2.1 (λd hd=>by have:=(uc m l.toNat).2.2 d hd;omega) ⋯;have e1:(2:Int)^0=1:=rfl;omega
 |lst b=>
  show (if l<=b then (0:Int) else 1*2^(l-b).toNat)<_;have hb:=hk.1;split
  ·exact p
  ·exact pU ⋯
 |nea d=>
  show (if l<d then (0:Int) else 1*2^(nw d l f).toNat)<_;split
  ·exact p
  ·have:=Gi l (lZ hl.1 hl.2) f (jL h.2.1 h.2.2) d (uA hk.1 hk.2) ⋯;exact pU ⋯
 |wrk=>
  have:=Gi l (lZ hl.1 hl.2) f (jL h.2.1 h.2.2) l (uA ⋯ hl.2) (aZ _);exact pU ⋯
 |wkd m=>exact OU m (qW hk.1 hk.2) l (lZ hl.1 hl.2) f (jL h.2.1 h.2.2)
 |nth w m=>
  show (if l<lA w m f then (0:Int) else 1*2^(lA w m f).toNat)<_;split
  ·exact p
  ·exact pU ⋯
 |one w=>
  have:oY w l f<=l:=by
   unfold oY;have:=dI ((f+l-1)%7-w) (show (7:Int)≠0 by decide);omega
  exact pU ⋯
 |nil=>exact p
theorem J0{ko:Ko}{a l f:Int}(h:Lf l f)(o:∀ks,ko=some ks->∀k∈ks,k.ok)(ha:0<=a)(ha2:a<2^(l.toNat+1)):jf ko a l f<2^(l.toNat+1):=by
 cases ko with
 |none=>exact ha2
 |some ks=>exact Th ha (FV h (o ks rfl)) ha2 (vi λm hm=>by
   obtain⟨k,hk,rfl⟩:=bG.mp hm;exact⟨nH (o ks rfl k hk) h,Yq (o ks rfl k hk) h⟩)
theorem HF{kd kw:Ko}{l f:Int}(h:Lf l f)(od:∀ks,kd=some ks->∀k∈ks,k.ok)(ow:∀ks,kw=some ks->∀k∈ks,k.ok):iK kd kw l f<2^(l.toNat+1):=by
 have p:=il (l.toNat+1);unfold iK;split
 ·rw[Int.pow_succ];omega
 ·exact J0 h ow (vW (b:=false) h od (aZ 0)) (J0 h od (aZ 0) p)
theorem sh(a b:Int):decide (V.int a=V.int b)=decide (a=b):=decide_eq_decide.mpr int_eq
noncomputable def qT(m3:Int)(kd kw:Ko):Bool:=((List.range 91).map λk:Nat=>decide (gS m3 kd kw (k:Int)=0)).all id
theorem pV{H:Hp}{a:Addr}{o:HO}:gK (upd H a o) a=gK H a:=funext λb=>by
 by_cases c:b=a
 ·subst c;rw[oe,oe]
 ·rw[ik c,ik c,fG c]
theorem pX{H H':Hp}{a:Addr}(s:Same H H'):Same (gK H a) (gK H' a):=λb o e=>by
 obtain⟨n,e⟩:=pR e;rw[ik n];exact s _ _ e
theorem nh{H:Hp}{a:Addr}:Same (gK H a) H:=λ_ _ e=>(pR e).2
noncomputable def jP(n:Nat):List (Int×Int):=(List.range n).map λM:Nat=>(fB (M:Int),gu (M:Int))
theorem Pw(n:Nat):jP (n+1)=jP n++[(fB (n:Int),gu (n:Int))]:=by
 unfold jP;rw[dN,aY];rfl
theorem sj{H:Hp}{l:Addr}{xs ys:List V}(hl:H l=some (.lst xs)):∀{us:List V} {ps:List (Int×Int)},Paired (gI H) us ps->Paired (gI (upd H l (.lst ys))) us ps
 |_,_,.nil=>.nil
 |_,_,.cons ⟨t,e,ht⟩ r=>.cons ⟨t,e,by rw[fG (λz=>by rw[z,hl] at ht;cases ht)];exact ht⟩ (sj hl r)
theorem jK{H H':Hp}(s:Same H H'):∀{us:List V} {ps:List (Int×Int)},Paired (gI H) us ps->Paired (gI H') us ps
 |_,_,.nil=>.nil
 |_,_,.cons ⟨t,e,ht⟩ r=>.cons ⟨t,e,s _ _ ht⟩ (jK s r)
theorem mN{H:Hp}{t:Addr}{p:Int×Int}(ht:H t=some (.tup [.int p.1,.int p.2])):∀{us:List V} {ps:List (Int×Int)},Paired (gI H) us ps->Paired (gI H) (us++[.ref t]) (ps++[p])
 |_,_,.nil=>.cons ⟨t,rfl,ht⟩ .nil
 |_,_,.cons x r=>.cons x (mN ht r)
theorem k7{H:Hp}{us:List V}{ps:List (Int×Int)}(hp:Paired (gI H) us ps){i:Nat}{x:V}(hx:us[i]? =some x):∃(t:Addr) (p:Int×Int),x=.ref t/\H t=some (.tup [.int p.1,.int p.2])/\ps[i]? =some p:=by
 obtain⟨p,hp',t,e,ht⟩:=kX hp hx;exact⟨t,p,e,ht,hp'⟩
theorem JM{y m:Int}(h1:1<=m)(h2:m<=12):gu (12*y+m-1)=7*jp y m+(fB (12*y+m-1)+6)%7/\gq (12*y+m-1)=gd y m:=by
 unfold gu fB gq kindOf;rw[show (12*y+m-1) / 12=y by omega,show (12*y+m-1)%12+1=m by omega];exact⟨rfl,rfl⟩
theorem Yb{K:FG}{a b:Addr}{xs ys:List V}{g:TG}{tb:TS}{D:g8}{σ:L2.St}{H:Hp}(he:ys.length<=xs.length)(Pv:Nat->L2.St->Hp->Prop)(h0:Pv 0 σ H)(hl:∀i σ H,i<=ys.length->Pv i σ H->SqL K H a xs/\SqL K H b ys)
  (hs:∀i x y T σ H,xs[i]? =some x->ys[i]? =some y->Pv i σ H->H T=none->g (.ref T) σ (upd H T (.tup [x,y])) λσ2 H2=>tb {D with nx:=Pv (i+1),ct:=Pv (i+1),bk:=D.nx} σ2 H2) (hd:∀σ H,Pv ys.length σ H->D.nx σ H):
  ∃W:Nat->Nat->L2.St->Hp->Prop,(∃m,W 0 m σ H)/\∀i m σ H,W i m σ H->
   ((n6 K a b).stop i H/\D.nx σ H)∨((n6 K a b).go i H/\∃N:L2.St->Hp->Prop,(∀σ' H',N σ' H'->∃m',m'<m/\W (i+1) m' σ' H')/\∀x H',(n6 K a b).yld i H x H'->g x σ H' λσ2 H2=>tb {D with nx:=N,ct:=N,bk:=D.nx} σ2 H2):=by
 refine⟨λi m σ H=>m=ys.length-i/\i<=ys.length/\Pv i σ H,⟨ys.length,by simp,a9 _,h0⟩,?_⟩;rintro i m σ H ⟨rfl,hi,p⟩;obtain⟨q1,q2⟩:=hl i σ H hi p;by_cases hlt:i<ys.length
 ·have hlt':i<xs.length:=⋯;refine .inr ⟨⟨xs,ys,xs[i],ys[i],q1,q2,by simp[hlt'],by simp[hlt]⟩,Pv (i+1),λσ' H' p'=>⟨ys.length-(i+1),⋯,rfl,hlt,p'⟩,λv H' yl=>?_⟩;obtain⟨T,rfl,hT,ev⟩:=yl;obtain⟨x,y,hx,hy,rfl⟩:=ev xs ys q1 q2;exact hs i x y T σ H hx hy p hT
 ·have e:i=ys.length:=⋯;subst e;exact .inl ⟨⟨xs,ys,q1,q2,.inr rfl⟩,hd σ H p⟩
def k9(ps:List (Int×Int)):Prop:=∀(i:Nat) (p q:Int×Int),ps[i]? =some p->ps[i+1]? =some q->4320<=q.1-p.1
theorem tU(xs:List V):iI xs (some 1) none=xs.drop 1:=by
 unfold iI;have e:HT.sIx xs.length 0 (some 1)=min 1 xs.length:=HT.sIx_nat _ _ 1;rw[e,HT.sIx_none,dH (by rw[cU];omega)];rcases Nat.eq_zero_or_pos xs.length with c | c
 ·rw[dQ c];rfl
 ·rw[Nat.min_eq_left c]
structure gz where
 m0:Int
 m1:Int
 m3:Int
 kd:Ko
 kw:Ko
 tm:Nat
 off:Int
def PutAt(H:Hp)(v:V)(P:gz):Prop:=∃t x,v=.ref t/\H t=some (.tup [.ref x,.int P.off])/\RowR ij aA H x P.m0 P.m1 P.m3 P.kd P.kw/\0<iG P.m1 P.m0/\tb (iG P.m1 P.m0) P.tm=true/\∀j,j<P.tm->tb (iG P.m1 P.m0) j=false
theorem PutAt.keep{H H':Hp}(s:Same H H'){v:V}{P:gz}(h:PutAt H v P):PutAt H' v P:=by
 obtain⟨t,x,e,ht,hR,z⟩:=h;exact⟨t,x,e,s _ _ ht,RowR.keepN (om s) hR,z⟩
noncomputable def mP(P:gz)(k:Int):List Int:=kF (gS P.m3 P.kd P.kw k)
noncomputable def mI(P:gz)(k:Int):List (Int×Int):=(mP P k).map λd=>(1440*(d-1)+(P.tm:Int),P.off)
noncomputable def page(Ps:List gz)(k:Int):List (Int×Int):=Ps.flatMap λP=>mI P k
theorem Xe(Ps:List gz)(P:gz)(k:Int):page (Ps++[P]) k=page Ps k++mI P k:=by
 unfold page;rw[List.flatMap_append,List.flatMap_singleton]
theorem FY{m3 k:Int}{kd kw:Ko}(od:∀ks,kd=some ks->∀k∈ks,k.ok)(ow:∀ks,kw=some ks->∀k∈ks,k.ok)(h0:0<=k)(h1:k<=90):0<=gS m3 kd kw k/\gS m3 kd kw k<2^32:=by
 have lf:=(me h0 h1).2;unfold gS;split
 ·refine⟨RJ lf od ow,Int.lt_of_lt_of_le (HF lf od ow) ?_⟩;have l1:=lf.1.1;have l2:=lf.1.2;rcases (show gG k=28∨gG k=29∨gG k=30∨gG k=31 by omega) with e | e | e | e<;>rw[e]<;>decide
 ·exact⟨aZ 0,by decide⟩
theorem QW{Ps:List gz}{P:gz}{i:Nat}{k:Int}(h:Ps[i]? =some P):page Ps k=page (Ps.take i) k++(mI P k++page (Ps.drop (i+1)) k):=by
 have hi:=(bB.mp h).1;have e:Ps=Ps.take i++P::Ps.drop (i+1):=by
  have z:=List.take_append_drop i Ps;rw[List.drop_eq_getElem_cons hi,(bB.mp h).2] at z;exact z.symm
 have z:page (Ps.take i++P::Ps.drop (i+1)) k=page (Ps.take i) k++(mI P k++page (Ps.drop (i+1)) k):=by
  unfold page;rw[List.flatMap_append,List.flatMap_cons]
 rw[←e] at z;exact z
theorem kf{H H':Hp}{a:Addr}(s:Same H H')(n:H' a=none):H a=none:=by
 cases e:H a with
 |none=>rfl
 |some o=>rw[s _ _ e] at n;cases n
theorem Ig:∀{a b:List (Int×Int)},a.Perm b->a.Pairwise (λx y=>hV x y=true)->b.Pairwise (λx y=>hV x y=true)->a=b
 |[],b,p,_,_=>(List.nil_perm.mp p).symm
 |x::a,[],p,_,_=>absurd p.length_eq (by simp)
 |x::a,y::b,p,ha,hb=>by
  rw[cX] at ha hb;have e:x=y:=by
   rcases aT.mp (p.mem_iff.mp a8) with e | h1
   ·exact e
   ·rcases aT.mp (p.mem_iff.mpr a8) with e | h2
    ·exact e.symm
    ·have z1:=ltP_iff.mp (hb.1 x h1);have z2:=ltP_iff.mp (ha.1 y h2);omega
  subst e;rw[Ig (List.Perm.cons_inv p) ha.2 hb.2]
theorem T9{a:List (Int×Int)}(h:a.Pairwise (λx y=>hV x y=true)):a.Nodup:=h.imp λ{x y} z e=>by
 have:=ltP_iff.mp z;rw[e] at this;omega
def PgA(H:Hp)(v:V)(ps:List (Int×Int)):Prop:=∃l us,v=.ref l/\H l=some (.lst us)/\Paired (gI H) us ps
theorem PgA.keep{H H':Hp}(s:Same H H'){v:V}{ps:List (Int×Int)}(h:PgA H v ps):PgA H' v ps:=by
 obtain⟨l,us,e,h1,h2⟩:=h;exact⟨l,us,e,s _ _ h1,jK s h2⟩
theorem qp{H H':Hp}(s:Same H H'):∀{us:List V} {ps:List (List (Int×Int))},Paired (PgA H) us ps->Paired (PgA H') us ps
 |_,_,.nil=>.nil
 |_,_,.cons x r=>.cons (x.keep s) (qp s r)
theorem Gr{H:Hp}{v:V}{p:List (Int×Int)}(hv:PgA H v p):∀{us:List V} {ps:List (List (Int×Int))},Paired (PgA H) us ps->Paired (PgA H) (us++[v]) (ps++[p])
 |_,_,.nil=>.cons hv .nil
 |_,_,.cons x r=>.cons x (Gr hv r)
noncomputable def gQ(pg:Int->List (Int×Int))(n:Nat):List (Int×Int):=(List.range n).flatMap λM:Nat=>(pg (gu (M:Int))).map λp=>(1440*fB (M:Int)+p.1,p.2)
theorem tJ(pg:Int->List (Int×Int))(n:Nat):gQ pg (n+1)=gQ pg n++(pg (gu (n:Int))).map λp=>(1440*fB (n:Int)+p.1,p.2):=by
 unfold gQ;rw[dN,List.flatMap_append,List.flatMap_singleton]
def mD(Ps:List gz)(pg:Int->List (Int×Int)):Prop:=∀k,0<=k->k<=90->(pg k).Perm (page Ps k)/\(pg k).Pairwise (λx y=>hV x y=true)/\(pg k).length<64/\k9 (pg k)
theorem A4{pg:Int->List (Int×Int)}(h:∀k,0<=k->k<=90->(pg k).length<64):∀n:Nat,(gQ pg n).length<=64*n
 |0=>aP 0
 |n+1=>by
  have k:=uP (n:Int);have:=h _ k.1 k.2;have:=A4 h n;rw[tJ,aV,aQ];omega
theorem RY{i:Nat}{p:Int×Int}(h:(jP 4800)[i]? =some p):i<4800/\p=(fB (i:Int),gu (i:Int)):=by
 unfold jP at h;rw[aX] at h;obtain⟨M,hM,rfl⟩:=cJ.mp h;obtain⟨h1,h2⟩:=bB.mp hM;rw[List.getElem_range] at h2;rw[bY] at h1;subst h2;exact⟨h1,rfl⟩
def iR(E:Int->Int->Prop)(x t1 o0 o1:Int):Prop:=∃t0,E t1 o1/\E t0 o0/\t0<t1/\t1<=x/\∀t o,E t o->t<=x->t<t0∨(t=t0/\o=o0)∨(t=t1/\o=o1)
theorem VS{E:Int->Int->Prop}{x a b c a' b' c':Int}(h:iR E x a b c)(h':iR E x a' b' c'):a=a'/\b=b'/\c=c':=by
 obtain⟨s,e1,e0,hs,hx,al⟩:=h;obtain⟨s',e1',e0',hs',hx',al'⟩:=h';have z1:=al' _ _ e1 hx;have z2:=al _ _ e1' hx';have z3:=al' _ _ e0 ⋯;have z4:=al _ _ e0' ⋯;omega
theorem Jq{E F:Int->Int->Prop}(h:∀t o,E t o↔F t o){x a b c:Int}:iR E x a b c->iR F x a b c:=by
 rintro⟨s,e1,e0,hs,hx,al⟩;exact⟨s,(h _ _).mp e1,(h _ _).mp e0,hs,hx,λt o e l=>al t o ((h _ _).mpr e) l⟩
def kY(T:List (Int×Int))(t o:Int):Prop:=∃q:Int,(t-210379680*q,o)∈T
theorem uL{ps:List (Int×Int)}(h:k9 ps):∀(d i:Nat) (p q:Int×Int),ps[i]? =some p->ps[i+d+1]? =some q->4320*((d:Int)+1)<=q.1-p.1
 |0,i,p,q,hp,hq=>by have:=h i p q hp hq;omega
 |d+1,i,p,q,hp,hq=>by
  have hi:i+d+1<ps.length:=by have:=(bB.mp hq).1;omega
  have h1:=uL h d i p ps[i+d+1] hp (bC hi);have h2:=h (i+d+1) _ q (bC hi) hq;omega
theorem nB{ps:List (Int×Int)}(h:k9 ps){i j:Nat}{p q:Int×Int}(hp:ps[i]? =some p)(hq:ps[j]? =some q)(l:i<j):4320<=q.1-p.1:=by
 obtain⟨d,rfl⟩:∃d,j=i+d+1:=⟨j-i-1,⋯⟩;have:=uL h d i p q hp hq;omega
structure jd(T:List (Int×Int)):Prop where
 far:k9 T
 lim:∀(i:Nat) (p:Int×Int),T[i]? =some p->0<=p.1/\p.1<210379680
 two:2<=T.length
theorem Yx{T:List (Int×Int)}(h:jd T)(m:Int):∃n,n<=T.length/\(∀(i:Nat) p,T[i]? =some p->i<n->p.1<=m)/\(∀(i:Nat) p,T[i]? =some p->n<=i->m<p.1):=by
 refine⟨T.findIdx λp=>decide (m<p.1),List.findIdx_le_length,λi p hp hi=>?_,λi p hp hi=>?_⟩
 ·have hl:=(bB.mp hp);have z:=List.not_of_lt_findIdx hi;rw[hl.2] at z;have:¬m<p.1:=by simpa using z
  omega
 ·have hl:=(bB.mp hp).1;have hn:(T.findIdx λp=>decide (m<p.1))<T.length:=⋯;have z:decide (m<(T[T.findIdx λp=>decide (m<p.1)]).1)=true:=List.findIdx_getElem (w:=hn);have z:=eQ z;rcases Nat.lt_or_eq_of_le hi with c | c
  ·have:=nB h.far (bC hn) hp c;omega
  ·have e:=(bC hn).symm.trans ((congrArg (T[·]?) c).trans hp);injection e with e;rw[←e];exact z
noncomputable def l8(l n:Nat):Nat:=if n=0 then l-1 else n-1
noncomputable def lr(l n:Nat):Nat:=if n=0 then l-2 else if n=1 then l-1 else n-2
theorem R5{T:List (Int×Int)}(h:jd T){x:Int}{n:Nat}(hn:n<=T.length)(h1:∀(i:Nat) p,T[i]? =some p->i<n->p.1<=x%210379680)(h2:∀(i:Nat) p,T[i]? =some p->n<=i->x%210379680<p.1){a b:Int×Int}(ha:T[l8 T.length n]? =some a)(hb:T[lr T.length n]? =some b):
  iR (kY T) x (x-x%210379680-(if (n:Int)-1<0 then 210379680 else 0)+a.1) b.2 a.2:=by
 have ht:=h.two;have la:=h.lim _ _ ha;have lb:=h.lim _ _ hb;obtain⟨g,hg⟩:∃g,g=x / 210379680:=⟨()⟩;have hx:x-x%210379680=210379680*g:=⋯;have ia:=bA ha;have ib:=bA hb;rw[hx];by_cases c0:n=0
 ·rw[if_pos ⋯];unfold l8 at ha;unfold lr at hb;rw[if_pos c0] at ha hb;have f:=nB h.far hb ha ⋯;refine⟨210379680*g-210379680+b.1,⟨g-1,by rw[show 210379680*g-210379680+a.1-210379680*(g-1)=a.1 by omega];exact ia⟩,⟨g-1,by rw[show 210379680*g-210379680+b.1-210379680*(g-1)=b.1 by omega];exact ib⟩,⋯,⋯,?_⟩;rintro t o ⟨q,hq⟩ ht';obtain⟨j,hj⟩:=c9 hq;have lj:=h.lim _ _ hj;have hjl:=(bB.mp hj).1;have hgt:=h2 j _ hj ⋯
  have lj1:0<=t-210379680*q:=lj.1;have lj2:t-210379680*q<210379680:=lj.2;have hgt:x%210379680<t-210379680*q:=hgt;have hqg:q<=g-1:=⋯;rcases dJ j (T.length-2) with d | d | d
  ·have z:=nB h.far hj hb d;have z:4320<=b.1-(t-210379680*q):=z;exact .inl ⋯
  ·subst d;have e:=hj.symm.trans hb;injection e with e;subst e;by_cases d2:q=g-1
   ·exact .inr (.inl ⟨by show t=210379680*g-210379680+(t-210379680*q);omega,rfl⟩)
   ·exact .inl (by show t<210379680*g-210379680+(t-210379680*q);omega)
  ·obtain rfl:j=T.length-1:=⋯;have e:=hj.symm.trans ha;injection e with e;subst e;by_cases d2:q=g-1
   ·exact .inr (.inr ⟨by show t=210379680*g-210379680+(t-210379680*q);omega,rfl⟩)
   ·exact .inl ⋯
 ·rw[if_neg ⋯];unfold l8 at ha;rw[if_neg c0] at ha;have upa:=h1 _ _ ha ⋯;by_cases c1:n=1
  ·unfold lr at hb;rw[if_neg c0,if_pos c1] at hb;subst c1;refine⟨210379680*g-210379680+b.1,⟨g,by rw[show 210379680*g-0+a.1-210379680*g=a.1 by omega];exact ia⟩,⟨g-1,by rw[show 210379680*g-210379680+b.1-210379680*(g-1)=b.1 by omega];exact ib⟩,⋯,⋯,?_⟩;rintro t o ⟨q,hq⟩ ht';obtain⟨j,hj⟩:=c9 hq;have lj:=h.lim _ _ hj;have hjl:=(bB.mp hj).1;have lj1:0<=t-210379680*q:=lj.1;have lj2:t-210379680*q<210379680:=lj.2
   by_cases d:j=0
   ·subst d;have e:=hj.symm.trans ha;injection e with e;subst e;have f:=nB h.far ha hb ⋯;have f:4320<=b.1-(t-210379680*q):=f;have upa:t-210379680*q<=x%210379680:=upa;rcases d6 q g with d2 | d2 | d2
    ·exact .inl ⋯
    ·exact .inr (.inr ⟨by show t=210379680*g-0+(t-210379680*q);omega,rfl⟩)
    ·omega
   ·have hgt:=h2 j _ hj ⋯;have hgt:x%210379680<t-210379680*q:=hgt;have hqg:q<=g-1:=⋯;rcases bU j (T.length-1) with d2 | d2
    ·have z:=nB h.far hj hb d2;have z:4320<=b.1-(t-210379680*q):=z;exact .inl ⋯
    ·obtain rfl:j=T.length-1:=⋯;have e:=hj.symm.trans hb;injection e with e;subst e;by_cases d2:q=g-1
     ·exact .inr (.inl ⟨by show t=210379680*g-210379680+(t-210379680*q);omega,rfl⟩)
     ·exact .inl (by show t<210379680*g-210379680+(t-210379680*q);omega)
  ·unfold lr at hb;rw[if_neg c0,if_neg c1] at hb;have upb:=h1 _ _ hb ⋯;have f:=nB h.far hb ha ⋯;refine⟨210379680*g+b.1,⟨g,by rw[show 210379680*g-0+a.1-210379680*g=a.1 by omega];exact ia⟩,⟨g,by rw[show 210379680*g+b.1-210379680*g=b.1 by omega];exact ib⟩,⋯,⋯,?_⟩;rintro t o ⟨q,hq⟩ ht';obtain⟨j,hj⟩:=c9 hq;have lj:=h.lim _ _ hj;have hjl:=(bB.mp hj).1;have lj1:0<=t-210379680*q:=lj.1;have lj2:t-210379680*q<210379680:=lj.2
   rcases bU j n with d | d
   ·have up:=h1 j _ hj d;have up:t-210379680*q<=x%210379680:=up;rcases d6 q g with d2 | d2 | d2
    ·exact .inl ⋯
    ·subst d2;rcases dJ j (n-2) with d3 | d3 | d3
     ·have z:=nB h.far hj hb d3;have z:4320<=b.1-(t-210379680*q):=z;exact .inl ⋯
     ·subst d3;have e:=hj.symm.trans hb;injection e with e;subst e;exact .inr (.inl ⟨by show t=210379680*q+(t-210379680*q);omega,rfl⟩)
     ·obtain rfl:j=n-1:=⋯;have e:=hj.symm.trans ha;injection e with e;subst e;exact .inr (.inr ⟨by show t=210379680*q-0+(t-210379680*q);omega,rfl⟩)
    ·omega
   ·have hgt:=h2 j _ hj d;have hgt:x%210379680<t-210379680*q:=hgt;exact .inl ⋯
theorem Pl{E:Int->Int->Prop}{x:Int}{S:List (Int×Int)}(hs:S.Pairwise λa b=>hV a b=true)(he:∀p∈S,E p.1 p.2/\p.1<=x)(dist:∀t o t' o',E t o->E t' o'->t=t'->o=o')(all:∀t o,E t o->t<=x->(t,o)∈S∨∃p q:Int×Int,p∈S/\q∈S/\p.1<q.1/\t<p.1){a b:Int×Int}(ha:S[S.length-1]? =some a)(hb:S[S.length-2]? =some b)(hl:2<=S.length):iR E x a.1 b.2 a.2:=by
 have lt:∀(i j:Nat) (p q:Int×Int),S[i]? =some p->S[j]? =some q->i<j->p.1<q.1:=λi j p q hp hq hij=>by
  obtain⟨i1,i2⟩:=bB.mp hp;obtain⟨j1,j2⟩:=bB.mp hq;have z:=(dZ.mp hs) i j i1 j1 hij;rw[i2,j2] at z;rcases ltP_iff.mp z with z | ⟨z,z'⟩
  ·exact z
  ·have:=dist _ _ _ _ (he p (bA hp)).1 (he q (bA hq)).1 z;omega
 have ea:=he a (bA ha);have eb:=he b (bA hb);have hba:=lt _ _ _ _ hb ha ⋯;have top:∀p∈S,p.1<b.1∨p=b∨p=a:=λp hp=>by
  obtain⟨j,hj⟩:=c9 hp;have hjl:=(bB.mp hj).1;rcases dJ j (S.length-2) with d | d | d
  ·exact .inl (lt _ _ _ _ hj hb d)
  ·subst d;have e:=hj.symm.trans hb;injection e with e;exact .inr (.inl e)
  ·obtain rfl:j=S.length-1:=⋯;have e:=hj.symm.trans ha;injection e with e;exact .inr (.inr e)
 refine⟨b.1,ea.1,eb.1,hba,ea.2,λt o e hx=>?_⟩;rcases all t o e hx with m | ⟨p,q,hp,hq,hpq,htp⟩
 ·rcases top _ m with z | z | z
  ·exact .inl z
  ·rw[←z];exact .inr (.inl ⟨rfl,rfl⟩)
  ·rw[←z];exact .inr (.inr ⟨rfl,rfl⟩)
 ·have z1:=top p hp;have z2:=top q hq;refine .inl ?_;rcases z1 with z1 | rfl | rfl
  ·omega
  ·omega
  ·rcases z2 with z2 | rfl | rfl<;>omega
structure LQ where
 s:Int
 n:Int
 w:Int
 m:Int
 tm:Nat
 off:Int
noncomputable def g7(q:LQ)(l f:Int):Int:=if q.s=1 then 1+(q.w-f)%7+7*(q.n-1) else if q.s=2 then l-(f+l-1-q.w)%7 else if q.s=5 then 29 else if q.s=6 then 29+(q.w-f)%7 else q.n
def Rk(q:LQ)(k d:Int):Prop:=if q.s=3 then (k%7+d-1)%7=q.w else (q.s=4∨jg k=q.m)/\d=g7 q (gG k) (k%7)
def iJ(q:LQ)(t:Int):Prop:=∃M d:Int,Rk q (gu M) d/\(1<=d/\d<=gq M)/\t=1440*(fB M+d-1)+q.tm
structure fF(q:LQ):Prop where
 s:0<=q.s/\q.s<=6
 n0:q.s=0->5<=q.n/\q.n<=24
 n1:q.s=1->2<=q.n/\q.n<=4
 n4:q.s=4->1<=q.n/\q.n<=24
 w:0<=q.w/\q.w<=6
 m:q.s≠3->q.s≠4->1<=q.m/\q.m<=12
 m5:q.s=5∨q.s=6->q.m=2
 tm:q.tm<1440
 off: -720<=q.off/\q.off<=720
def iM(qs:List LQ):Prop:=∀(i j:Nat) (p q:LQ) (t u:Int),qs[i]? =some p->qs[j]? =some q->iJ p t->iJ q u->(i=j/\t=u)∨4320<=t-u∨4320<=u-t
def EQ(qs:List LQ)(t o:Int):Prop:=∃(i:Nat) (q:LQ),qs[i]? =some q/\iJ q t/\o=q.off
theorem kM(M:Int):(jg (gu M)=M%12+1/\gG (gu M)=gq M)/\gu M%7=(fB M+6)%7/\(0<=gu M/\gu M<=90)/\28<=gq M/\gq M<=31:=by
 have a:=tZ (y:=M / 12) (m:=M%12+1) ⋯ ⋯;have b:=JM (y:=M / 12) (m:=M%12+1) ⋯ ⋯;have c:=uP M;have d:=me c.1 c.2;have e:12*(M / 12)+(M%12+1)-1=M:=⋯;rw[e] at b;have l:=YM M;rw[l] at d;have d2:=d.2.1;exact⟨⟨a.1,l⟩,by rw[b.1];omega,c,d2⟩
theorem BB(M:Int):∀n:Nat,fB M+gq M+28*(n:Int)<=fB (M+n+1)
 |0=>by
  have:=ol M;rw[show M+((0:Nat):Int)+1=M+1 by omega];omega
 |n+1=>by
  have h:=BB M n;have u:=ol (M+n+1);have l:=(kM (M+n+1)).2.2.2;rw[show M+((n+1:Nat):Int)+1=M+n+1+1 by omega];omega
theorem jz{M N:Int}(h:M<N):fB M+gq M+28*(N-M-1)<=fB N:=by
 have:=BB M (N-M-1).toNat;rw[bV ⋯,show M+(N-M-1)+1=N by omega] at this;exact this
theorem xZ(M q:Int):gq (M+4800*q)=gq M:=by
 unfold gq gd;rw[show (M+4800*q) / 12=M / 12+400*q by omega,show (M+4800*q)%12=M%12 by omega,GD]
theorem Yf(M q:Int):gu (M+4800*q)=gu M:=by
 unfold gu;rw[show (M+4800*q) / 12=M / 12+400*q by omega,show (M+4800*q)%12=M%12 by omega,xR]
theorem uW(M q:Int):fB (M+4800*q)=fB M+146097*q:=by
 unfold fB;rw[show (M+4800*q) / 12=M / 12+400*q by omega,show (M+4800*q)%12=M%12 by omega,uj];have a:jF (M / 12+400*q) (M%12+1)=jF (M / 12) (M%12+1):=wH _ q _;rw[a];omega
theorem wf{q:LQ}{t g:Int}(h:iJ q t):iJ q (t+210379680*g):=by
 obtain⟨M,d,r,l,e⟩:=h;exact⟨M+4800*g,d,by rw[Yf];exact r,by rw[xZ];exact l,by rw[uW];omega⟩
theorem p9{q:LQ}(ok:fF q)(h3:q.s≠3){t:Int}(h:iJ q t):∃M d:Int,(q.s=4∨M%12+1=q.m)/\d=g7 q (gq M) ((fB M+6)%7)/\(1<=d/\d<=gq M)/\t=1440*(fB M+d-1)+q.tm:=by
 obtain⟨M,d,r,l,e⟩:=h;have k:=kM M;unfold Rk at r;rw[if_neg h3,k.1.1,k.1.2,k.2.1] at r;exact⟨M,d,r.1,r.2,l,e⟩
theorem DH{q:LQ}(ok:fF q)(h3:q.s≠3)(h4:q.s≠4){l f:Int}(hl:28<=l):5<=g7 q l f:=by
 have:=ok.s;have n0:=ok.n0;have n1:=ok.n1;unfold g7;split
 ·omega
 split
 ·omega
 split
 ·omega
 split<;>omega
theorem CA{qs:List LQ}(ok:∀q∈qs,fF q/\q.s≠3/\q.s≠4)(ne:∀(i j:Nat) (p q:LQ),qs[i]? =some p->qs[j]? =some q->p.m=q.m->i=j):iM qs:=by
 intro i j p q t u hp hq et eu;obtain⟨op,p3,p4⟩:=ok p (bA hp);obtain⟨oq,q3,q4⟩:=ok q (bA hq);obtain⟨M,d,m1,d1,l1,rfl⟩:=p9 op p3 et;obtain⟨N,c,m2,c1,l2,rfl⟩:=p9 oq q3 eu;have k1:=(kM M).2.2.2;have k2:=(kM N).2.2.2;have a1:=DH op p3 p4 (f:=(fB M+6)%7) k1.1;have a2:=DH oq q3 q4 (f:=(fB N+6)%7) k2.1;have t1:=op.tm;have t2:=oq.tm;rw[←d1] at a1;rw[←c1] at a2;rcases d6 M N with h | h | h
 ·have:=jz h;omega
 ·subst h;obtain rfl:=ne i j p q hp hq ⋯;obtain rfl:p=q:=by
   have:=hp.symm.trans hq;injection this
  exact .inl ⟨rfl,⋯⟩
 ·have:=jz h;omega
theorem uU{q:LQ}(h3:q.s=3){t:Int}(h:iJ q t):∃n:Int,(n+6)%7=q.w/\t=1440*n+q.tm:=by
 obtain⟨M,d,r,l,e⟩:=h;have k:=kM M;unfold Rk at r;rw[if_pos h3,k.2.1] at r;exact⟨fB M+d-1,⋯,e⟩
theorem Wk{p q:LQ}(p3:p.s=3)(q3:q.s=3)(e:p.tm=q.tm)(hw:q.w=(p.w+3)%7∨q.w=(p.w+4)%7):iM [p,q]:=by
 have one:∀(x y:LQ) (t u:Int),x.s=3->y.s=3->x.tm=y.tm->iJ x t->iJ y u->(x.w=y.w/\t=u)∨(x.w=y.w/\(4320<=t-u∨4320<=u-t))∨(x.w≠y.w/\(y.w=(x.w+3)%7∨y.w=(x.w+4)%7∨x.w=(y.w+3)%7∨x.w=(y.w+4)%7->4320<=t-u∨4320<=u-t)):=by
  intro x y t u hx hy he ht hu;obtain⟨n,n1,rfl⟩:=uU hx ht;obtain⟨m,m1,rfl⟩:=uU hy hu;rw[he];by_cases c:x.w=y.w
  ·by_cases c2:n=m
   ·exact .inl ⟨c,by rw[c2]⟩
   ·exact .inr (.inl ⟨c,⋯⟩)
  ·exact .inr (.inr ⟨c,⋯⟩)
 intro i j a b t u ha hb et eu
 match i,j,ha,hb with
 |0,0,ha,hb=>
  cases ha;cases hb;have z:=one p p t u p3 p3 rfl et eu;omega
 |0,1,ha,hb=>
  cases ha;cases hb;have z:=one p q t u p3 q3 e et eu;omega
 |1,0,ha,hb=>
  cases ha;cases hb;have z:=one q p t u q3 p3 e.symm et eu;omega
 |1,1,ha,hb=>
  cases ha;cases hb;have z:=one q q t u q3 q3 rfl et eu;omega
 |0,j+2,_,hb=>cases hb
 |1,j+2,_,hb=>cases hb
 |i+2,_,ha,_=>cases ha
theorem Vw{p q:LQ}(op:fF p)(oq:fF q)(p4:p.s=4)(q4:q.s=4)(h1:p.n<=12)(h2:p.n+4<=q.n):iM [p,q]:=by
 have one:∀(x y:LQ) (t u:Int),fF x->fF y->x.s=4->y.s=4->iJ x t->iJ y u->(x.n=y.n/\x.tm=y.tm->t=u∨4320<=t-u∨4320<=u-t)/\(x.n+4<=y.n∨y.n+4<=x.n->4320<=t-u∨4320<=u-t):=by
  intro x y t u ox oy hx hy ht hu;obtain⟨M,d,_,d1,l1,rfl⟩:=p9 ox ⋯ ht;obtain⟨N,c,_,c1,l2,rfl⟩:=p9 oy ⋯ hu;have e1:∀(q:LQ) (l f:Int),q.s=4->g7 q l f=q.n:=λq l f h=>by
   unfold g7;rw[if_neg ⋯,if_neg ⋯,if_neg ⋯,if_neg ⋯]
  rw[e1 _ _ _ hx] at d1;rw[e1 _ _ _ hy] at c1;have a1:=ox.n4 hx;have a2:=oy.n4 hy;have t1:=ox.tm;have t2:=oy.tm;have k1:=(kM M).2.2.2;have k2:=(kM N).2.2.2;rcases d6 M N with h | h | h
  ·have:=jz h;omega
  ·subst h;omega
  ·have:=jz h;omega
 intro i j a b t u ha hb et eu
 match i,j,ha,hb with
 |0,0,ha,hb=>
  cases ha;cases hb;have z:=(one p p t u op op p4 p4 et eu).1 ⟨rfl,rfl⟩;omega
 |0,1,ha,hb=>
  cases ha;cases hb;have z:=(one p q t u op oq p4 q4 et eu).2 (.inl h2);omega
 |1,0,ha,hb=>
  cases ha;cases hb;have z:=(one q p t u oq op q4 p4 et eu).2 (.inr h2);omega
 |1,1,ha,hb=>
  cases ha;cases hb;have z:=(one q q t u oq oq q4 q4 et eu).1 ⟨rfl,rfl⟩;omega
 |0,j+2,_,hb=>cases hb
 |1,j+2,_,hb=>cases hb
 |i+2,_,ha,_=>cases ha
theorem Vx{qs:List LQ}(h:iM qs)(n:Nat):iM (qs.take n):=by
 intro i j p q t u hp hq;have f:∀{i:Nat} {p:LQ},(qs.take n)[i]? =some p->qs[i]? =some p:=λ{i p} h=>by
  rw[List.getElem?_take] at h;split at h
  ·exact h
  ·cases h
 exact h i j p q t u (f hp) (f hq)
structure PQ(P:gz)(q:LQ):Prop where
 bit:∀k d:Int,0<=k->k<=90->0<=d->(tb (gS P.m3 P.kd P.kw k) d.toNat=true↔(1<=d/\d<=gG k)/\Rk q k d)
 nn:∀k:Int,0<=k->k<=90->0<=gS P.m3 P.kd P.kw k/\gS P.m3 P.kd P.kw k<2^32
 tm:P.tm=q.tm
 off:P.off=q.off
theorem vy{P:gz}{q:LQ}(h:PQ P q){k:Int}(h0:0<=k)(h1:k<=90){d:Int}:d∈mP P k↔(1<=d/\d<=gG k)/\Rk q k d:=by
 obtain⟨a,b⟩:=h.nn k h0 h1;unfold mP;rw[nZ a b,flt_mem];constructor
 ·rintro⟨i,_,hb,rfl⟩;have:=(h.bit k (0+(i:Int)) h0 h1 ⋯).mp (by rw[show (0+(i:Int)).toNat=i by omega];exact hb);exact this
 ·intro z;have hb:=(h.bit k d h0 h1 ⋯).mpr z;refine⟨d.toNat,?_,hb,⋯⟩;have:=(me h0 h1).2.1;omega
theorem mX{Ps:List gz}{qs:List LQ}(h:Paired PQ Ps qs){k:Int}(h0:0<=k)(h1:k<=90){p:Int×Int}:p∈page Ps k↔∃(i:Nat) (q:LQ) (d:Int),qs[i]? =some q/\((1<=d/\d<=gG k)/\Rk q k d)/\p=(1440*(d-1)+(q.tm:Int),q.off):=by
 induction h with
 |nil=>exact⟨λz=>(nomatch z),λ⟨_,_,_,z,_⟩=>by cases z⟩
 |cons hd tl ih=>
  rename_i P q Ps qs;show p∈mI P k++page Ps k↔_;rw[bS,ih];constructor
  ·rintro (m | ⟨i,q',d,e,z⟩)
   ·obtain⟨d,hd',rfl⟩:=bG.mp m;exact⟨0,q,d,rfl,(vy hd h0 h1).mp hd',by rw[hd.tm,hd.off]⟩
   ·exact⟨i+1,q',d,e,z⟩
  ·rintro⟨i,q',d,e,z,rfl⟩;cases i with
   |zero=>
    cases e;exact .inl (bG.mpr ⟨d,(vy hd h0 h1).mpr z,by rw[hd.tm,hd.off]⟩)
   |succ i=>exact .inr ⟨i,q',d,e,z,rfl⟩
theorem pE{q:LQ}{k d:Int}(h:(1<=d/\d<=gG k)/\Rk q k d){M:Int}(e:gu M=k):iJ q (1440*(fB M+d-1)+q.tm):=by
 subst e;exact⟨M,d,h.2,by rw[←(kM M).1.2];exact h.1,rfl⟩
theorem Qa{q:LQ}{qs:List LQ}(h:iM (q::qs)):iM qs:=λi j p r t u hp hr et eu=>by
 have:=h (i+1) (j+1) p r t u hp hr et eu;omega
theorem Q8{Ps:List gz}{qs:List LQ}(h:Paired PQ Ps qs){k:Int}(h0:0<=k)(h1:k<=90):iM qs->(page Ps k).Nodup:=by
 induction h with
 |nil=>exact λ_=>.nil
 |cons hd tl ih=>
  rename_i P q Ps qs;intro hf;obtain⟨M,_,_,e⟩:=pK h0 h1 0;show (mI P k++page Ps k).Pairwise _;refine cV.mpr ⟨?_,ih (Qa hf),λx hx y hy=>?_⟩
  ·unfold mI mP;obtain⟨a,b⟩:=hd.nn k h0 h1;rw[List.pairwise_map,nZ a b];refine (vG _ _ _).imp λ{x y} l c=>?_;have:=congrArg Prod.fst c;have this:1440*(x-1)+(P.tm:Int)=1440*(y-1)+(P.tm:Int):=this;omega
  ·obtain⟨d,hd',rfl⟩:=bG.mp hx;obtain⟨i,r,c,er,hc,rfl⟩:=(mX tl h0 h1).mp hy;intro z;have z:=congrArg Prod.fst z;have z:1440*(d-1)+(P.tm:Int)=1440*(c-1)+(r.tm:Int):=z;have f:=hf 0 (i+1) q r _ _ rfl er (pE ((vy hd h0 h1).mp hd') e) (pE hc e);rw[hd.tm] at z;omega
theorem aCA{Ps:List gz}{qs:List LQ}(h:Paired PQ Ps qs)(hf:iM qs){k:Int}(h0:0<=k)(h1:k<=90){p r:Int×Int}(hp:p∈page Ps k)(hr:r∈page Ps k):p=r∨4320<=p.1-r.1∨4320<=r.1-p.1:=by
 obtain⟨M,_,_,e⟩:=pK h0 h1 0;obtain⟨i,q,d,eq,hd,rfl⟩:=(mX h h0 h1).mp hp;obtain⟨j,u,c,eu,hc,rfl⟩:=(mX h h0 h1).mp hr;have f:=hf i j q u _ _ eq eu (pE hd e) (pE hc e);rcases f with ⟨rfl,f⟩ | f | f
 ·have:q=u:=by
   have:=eq.symm.trans eu;injection this
  subst this;have:d=c:=⋯;subst this;exact .inl rfl
 ·exact .inr (.inl (by show 4320<=1440*(d-1)+(q.tm:Int)-(1440*(c-1)+(u.tm:Int));omega))
 ·exact .inr (.inr (by show 4320<=1440*(c-1)+(u.tm:Int)-(1440*(d-1)+(q.tm:Int));omega))
theorem uV{Ps:List gz}{qs:List LQ}(h:Paired PQ Ps qs)(ok:∀q∈qs,fF q){k:Int}(h0:0<=k)(h1:k<=90){p:Int×Int}(hp:p∈page Ps k):0<=p.1/\p.1<1440*gG k:=by
 obtain⟨i,q,d,eq,hd,rfl⟩:=(mX h h0 h1).mp hp;have:=(ok q (bA eq)).tm;show 0<=1440*(d-1)+(q.tm:Int)/\1440*(d-1)+(q.tm:Int)<1440*gG k;omega
theorem Ot{l:List (Int×Int)}(hs:l.Pairwise λx y=>hV x y=true)(hf:∀p∈l,∀q∈l,p=q∨4320<=p.1-q.1∨4320<=q.1-p.1):k9 l:=λi p q hp hq=>by
 obtain⟨i1,i2⟩:=bB.mp hp;obtain⟨j1,j2⟩:=bB.mp hq;have z:=(dZ.mp hs) i (i+1) i1 j1 ⋯;rw[i2,j2] at z;have z:=ltP_iff.mp z;rcases hf p (bA hp) q (bA hq) with c | c | c
 ·rw[c] at z;omega
 ·omega
 ·omega
theorem YA{l:List (Int×Int)}(h:k9 l)(hl:∀p∈l,0<=p.1/\p.1<44640):l.length<64:=by
 rcases bU l.length 12 with c | c
 ·omega
 ·have z:=uL h 10 0 l[0] l[11] (bC ⋯) (bC ⋯);have a:=hl l[0] (List.getElem_mem _);have b:=hl l[11] (List.getElem_mem _);omega
noncomputable def nN(a b:Int×Int):Bool:=decide (a.1<b.1)||(decide (a.1=b.1)&&decide (a.2<=b.2))
theorem sk{p q:Int×Int}:nN p q=true↔p.1<q.1∨(p.1=q.1/\p.2<=q.2):=by
 unfold nN;rw[dO,bL,eU,eU,eU]
theorem XM{l:List (Int×Int)}(nd:l.Nodup):∃s:List (Int×Int),s.Perm l/\s.Pairwise λx y=>hV x y=true:=by
 refine⟨l.mergeSort nN,List.mergeSort_perm l nN,?_⟩;have h:=List.pairwise_mergeSort (le:=nN) (λa b c h1 h2=>by rw[sk] at h1 h2 ⊢;omega) (λa b=>by rw[dO,sk,sk];omega) l;have n:(l.mergeSort nN).Nodup:=(List.mergeSort_perm l nN).nodup_iff.mpr nd;refine (List.pairwise_and_iff.mpr ⟨h,n⟩).imp λ{a b} ⟨x,y⟩=>?_;rw[sk] at x;rw[ltP_iff];rcases x with x | ⟨x1,x2⟩
 ·exact .inl x
 ·rcases c8 x2 with z | z
  ·exact .inr ⟨x1,z⟩
  ·exact absurd (Prod.ext x1 z) y
theorem Ra{Ps:List gz}{qs:List LQ}(h:Paired PQ Ps qs)(ok:∀q∈qs,fF q)(hf:iM qs):∃pg,mD Ps pg:=by
 have all:∀k:Int,∃s:List (Int×Int),0<=k->k<=90->s.Perm (page Ps k)/\(s.Pairwise λx y=>hV x y=true)/\s.length<64/\k9 s:=λk=>by
  by_cases c:0<=k/\k<=90
  ·obtain⟨s,p,w⟩:=XM (Q8 h c.1 c.2 hf);have f:=Ot w λx hx y hy=>aCA h hf c.1 c.2 (p.mem_iff.mp hx) (p.mem_iff.mp hy);refine⟨s,λ_ _=>⟨p,w,YA f λx hx=>?_,f⟩⟩;have:=uV h ok c.1 c.2 (p.mem_iff.mp hx);have:=(me c.1 c.2).2.1;omega
  ·exact⟨[],λa b=>absurd ⟨a,b⟩ c⟩
 exact⟨λk=>Classical.choose (all k),λk h0 h1=>Classical.choose_spec (all k) h0 h1⟩
theorem tab_mem{pg:Int->List (Int×Int)}{n:Nat}{p:Int×Int}:p∈gQ pg n↔∃M:Nat,M<n/\∃x∈pg (gu (M:Int)),p=(1440*fB (M:Int)+x.1,x.2):=by
 unfold gQ;rw[List.mem_flatMap];constructor
 ·rintro⟨M,hM,hp⟩;obtain⟨x,hx,rfl⟩:=bG.mp hp;exact⟨M,bW.mp hM,x,hx,rfl⟩
 ·rintro⟨M,hM,x,hx,rfl⟩;exact⟨M,bW.mpr hM,bG.mpr ⟨x,hx,rfl⟩⟩
theorem Xv:fB 0=0/\fB 4800=146097:=by decide +kernel
variable{Ps:List gz}{qs:List LQ}{pg:Int->List (Int×Int)}
theorem nQ(h:Paired PQ Ps qs)(ok:∀q∈qs,fF q)(hg:mD Ps pg){t o:Int}:(t,o)∈gQ pg 4800↔EQ qs t o/\0<=t/\t<210379680:=by
 obtain⟨z0,z1⟩:=Xv;rw[tab_mem];constructor
 ·rintro⟨M,hM,x,hx,e⟩;have k:=kM (M:Int);have hx:=(hg _ k.2.2.1.1 k.2.2.1.2).1.mem_iff.mp hx;obtain⟨i,q,d,eq,hd,rfl⟩:=(mX h k.2.2.1.1 k.2.2.1.2).mp hx;have e1:=congrArg Prod.fst e;have e2:=congrArg Prod.snd e;have e1:t=1440*fB (M:Int)+(1440*(d-1)+(q.tm:Int)):=e1;have ev:=pE hd rfl;have ht:=(ok q (bA eq)).tm;have hd1:=hd.1;rw[k.1.2] at hd1;refine⟨⟨i,q,eq,by rw[show t=1440*(fB (M:Int)+d-1)+(q.tm:Int) by omega];exact ev,e2⟩,?_,?_⟩
  ·rcases Int.lt_or_le 0 (M:Int) with c | c
   ·have:=jz c;have:=(kM 0).2.2.2;omega
   ·rw[show (M:Int)=0 by omega] at e1;omega
  ·have:=jz (show (M:Int)<4800 by omega);omega
 ·rintro⟨⟨i,q,eq,⟨M,d,hr,hd,e⟩,rfl⟩,h0,h1⟩;have k:=kM M;have ht:=(ok q (bA eq)).tm;have hM0:0<=M:=by
   rcases Int.lt_or_le M 0 with c | c
   ·have:=jz c;omega
   ·exact c
  have hM1:M<4800:=by
   rcases d6 M 4800 with c | c | c
   ·exact c
   ·rw[c] at e;omega
   ·have:=jz c;have:=(kM 4800).2.2.2;omega
  obtain⟨N,rfl⟩:=bF hM0;refine⟨N,⋯,(1440*(d-1)+(q.tm:Int),q.off),(hg _ k.2.2.1.1 k.2.2.1.2).1.mem_iff.mpr ((mX h k.2.2.1.1 k.2.2.1.2).mpr ⟨i,q,d,eq,⟨by rw[k.1.2];exact hd,hr⟩,rfl⟩),?_⟩;rw[e];exact Prod.ext (by show 1440*(fB (N:Int)+d-1)+(q.tm:Int)=1440*fB (N:Int)+(1440*(d-1)+(q.tm:Int));omega) rfl
theorem OG(h:Paired PQ Ps qs)(ok:∀q∈qs,fF q)(hg:mD Ps pg)(t o:Int):kY (gQ pg 4800) t o↔EQ qs t o:=by
 constructor
 ·rintro⟨g,hm⟩;obtain⟨⟨i,q,eq,ev,e⟩,_⟩:=(nQ h ok hg).mp hm;have z:=wf (g:=g) ev;rw[show t-210379680*g+210379680*g=t by omega] at z;exact⟨i,q,eq,z,e⟩
 ·rintro⟨i,q,eq,ev,e⟩;have z:=wf (g:= -(t / 210379680)) ev;refine⟨t / 210379680,(nQ h ok hg).mpr ⟨⟨i,q,eq,?_,e⟩,⋯,⋯⟩⟩;rw[show t-210379680*(t / 210379680)=t+210379680* -(t / 210379680) by omega];exact z
theorem rH(hf:iM qs){t o u r:Int}(h:EQ qs t o)(h':EQ qs u r):(t=u/\o=r)∨4320<=t-u∨4320<=u-t:=by
 obtain⟨i,p,ep,ev,e⟩:=h;obtain⟨j,q,eq,ev',e'⟩:=h';rcases hf i j p q t u ep eq ev ev' with ⟨rfl,z⟩ | z
 ·have:p=q:=by
   have:=ep.symm.trans eq;injection this
  subst this;exact .inl ⟨z,e.trans e'.symm⟩
 ·exact .inr z
theorem Cu(h:Paired PQ Ps qs)(ok:∀q∈qs,fF q)(hg:mD Ps pg):∀n:Nat,(gQ pg n).Pairwise λx y=>hV x y=true
 |0=>.nil
 |n+1=>by
  have k:=kM (n:Int);have g:=hg _ k.2.2.1.1 k.2.2.1.2;rw[tJ];refine cV.mpr ⟨Cu h ok hg n,?_,λx hx y hy=>?_⟩
  ·rw[List.pairwise_map];refine g.2.1.imp λ{a b} z=>?_;have z:=ltP_iff.mp z;refine ltP_iff.mpr ?_;show 1440*fB (n:Int)+a.1<1440*fB (n:Int)+b.1∨(1440*fB (n:Int)+a.1=1440*fB (n:Int)+b.1/\a.2<b.2);omega
  ·obtain⟨M,hM,a,ha,rfl⟩:=tab_mem.mp hx;obtain⟨b,hb,rfl⟩:=bG.mp hy;have k':=kM (M:Int);have g':=hg _ k'.2.2.1.1 k'.2.2.1.2;have la:=uV h ok k'.2.2.1.1 k'.2.2.1.2 (g'.1.mem_iff.mp ha);have lb:=uV h ok k.2.2.1.1 k.2.2.1.2 (g.1.mem_iff.mp hb);rw[k'.1.2] at la;have:=jz (show (M:Int)<(n:Int) by omega);refine ltP_iff.mpr (.inl ?_);show 1440*fB (M:Int)+a.1<1440*fB (n:Int)+b.1;omega
def ya(q:LQ):Prop:=∃k d:Int,(0<=k/\k<=90)/\(1<=d/\d<=gG k)/\Rk q k d
theorem QY(h:Paired PQ Ps qs)(ok:∀q∈qs,fF q)(hg:mD Ps pg){q:LQ}(hq:q∈qs)(ex:ya q):2<=(gQ pg 4800).length:=by
 obtain⟨k,d,hk,hd⟩:=ex;obtain⟨i,ei⟩:=c9 hq;obtain⟨M,m1,m2,em⟩:=pK hk.1 hk.2 0;obtain⟨N,n1,n2,en⟩:=pK hk.1 hk.2 40;have at_:∀M:Int,0<=M->M<4800->gu M=k->(1440*(fB M+d-1)+(q.tm:Int),q.off)∈gQ pg 4800:=λM h0 h1 e=>by
  obtain⟨X,rfl⟩:=bF h0;refine tab_mem.mpr ⟨X,⋯,(1440*(d-1)+(q.tm:Int),q.off),?_,?_⟩
  ·rw[e];exact (hg _ hk.1 hk.2).1.mem_iff.mpr ((mX h hk.1 hk.2).mpr ⟨i,q,d,ei,hd,rfl⟩)
  ·exact Prod.ext (by show 1440*(fB (X:Int)+d-1)+(q.tm:Int)=1440*fB (X:Int)+(1440*(d-1)+(q.tm:Int));omega) rfl
 have a:=at_ M ⋯ ⋯ em;have b:=at_ N ⋯ ⋯ en;have l:=jz (show M<N by omega);have lm:=(kM M).2.2.2;rcases bU (gQ pg 4800).length 2 with c | c
 ·obtain⟨x,ex⟩:=c9 a;obtain⟨y,ey⟩:=c9 b;have:=(bB.mp ex).1;have:=(bB.mp ey).1;obtain rfl:x=y:=⋯;have e:=ex.symm.trans ey;injection e with e;have e:=congrArg Prod.fst e;have e:1440*(fB M+d-1)+(q.tm:Int)=1440*(fB N+d-1)+(q.tm:Int):=e;omega
 ·exact c
theorem Z5(h:Paired PQ Ps qs)(ok:∀q∈qs,fF q)(hf:iM qs)(hg:mD Ps pg){q:LQ}(hq:q∈qs)(ex:ya q):jd (gQ pg 4800) where
 far:=Ot (Cu h ok hg _) λp hp r hr=>by
  rcases rH hf ((nQ h ok hg).mp hp).1 ((nQ h ok hg).mp hr).1 with ⟨a,b⟩ | z
  ·exact .inl (Prod.ext a b)
  ·exact .inr z
 lim:=λi p hp=>((nQ h ok hg).mp (bA hp)).2
 two:=QY h ok hg hq ex
theorem R8(h:Paired PQ Ps qs)(ok:∀q∈qs,fF q)(hf:iM qs)(hg:mD Ps pg)(ht:jd (gQ pg 4800)):∃t0 tr,gQ pg 4800=t0::tr/\k9 (gQ pg 4800++[(t0.1+210379680,t0.2)]):=by
 cases e:gQ pg 4800 with
 |nil=>have:=ht.two;rw[e] at this;cases this
 |cons t0 tr=>
  refine⟨t0,tr,rfl,?_⟩;rw[←e];have h0:t0∈gQ pg 4800:=by rw[e];exact a8
  have l0:=(nQ h ok hg).mp (show (t0.1,t0.2)∈gQ pg 4800 from h0);intro i p q hp hq;rcases dJ (i+1) (gQ pg 4800).length with c | c | c
  ·rw[cY ⋯] at hp hq;exact ht.far i p q hp hq
  ·rw[cY ⋯] at hp;rw[cT ⋯,c,Nat.sub_self] at hq;injection hq with hq;subst hq;have lp:=(nQ h ok hg).mp (show (p.1,p.2)∈gQ pg 4800 from bA hp);obtain⟨j,r,er,ev,eo⟩:=l0.1;have z:=rH hf lp.1 ⟨j,r,er,wf (g:=1) ev,eo⟩;show 4320<=t0.1+210379680-p.1;omega
  ·rw[cT ⋯] at hq;have:i+1-(gQ pg 4800).length=i-(gQ pg 4800).length+1:=⋯;rw[this] at hq;cases hq
def PutY(G H:Hp)(v:V)(P:gz):Prop:=∃t x,v=.ref t/\H t=some (.tup [.ref x,.int P.off])/\RowR ij aA G x P.m0 P.m1 P.m3 P.kd P.kw/\iG P.m1 P.m0=2^P.tm/\qT P.m3 P.kd P.kw=false/\ -720<=P.off/\P.off<=720
def PutX(H:Hp)(v:V)(P:gz):Prop:=PutY H H v P
theorem PutY.keep{G H H':Hp}(s:Same H H'){v:V}{P:gz}(h:PutY G H v P):PutY G H' v P:=by
 obtain⟨t,x,e,ht,z⟩:=h;exact⟨t,x,e,s _ _ ht,z⟩
theorem PutY.x{G H:Hp}(s:Same G H){v:V}{P:gz}(h:PutY G H v P):PutX H v P:=by
 obtain⟨t,x,e,ht,hR,z⟩:=h;exact⟨t,x,e,ht,RowR.keepN (om s) hR,z⟩
theorem PutX.keep{H H':Hp}(s:Same H H'){v:V}{P:gz}(h:PutX H v P):PutX H' v P:=PutY.x s (PutY.keep s h)
theorem PutX.at_{H:Hp}{v:V}{P:gz}(h:PutX H v P):PutAt H v P:=by
 obtain⟨t,x,e,ht,hR,e2,_⟩:=h;refine⟨t,x,e,ht,hR,by rw[e2];exact il _,by rw[e2,lP];exact eS rfl,λj hj=>by rw[e2,lP];exact eV ⋯⟩
theorem OQ(n:Nat):Builtin.bitAnd (2^n) (2^n-1)=0:=by
 have h:=il n;refine jS (by rw[bitAnd_pp ⋯ ⋯];omega) (aZ 0) λi=>?_;rw[lU ⋯ ⋯,lP,rq,ju];by_cases c:n=i
 ·rw[eV (show ¬i<n by omega),Bool.and_false]
 ·rw[eV c,Bool.false_and]
theorem rX{G H H':Hp}(s:Same H H'):∀{us:List V} {Ps:List gz},Paired (PutY G H) us Ps->Paired (PutY G H') us Ps
 |_,_,.nil=>.nil
 |_,_,.cons x r=>.cons (x.keep s) (rX s r)
theorem zF{G H:Hp}(s:Same G H):∀{us:List V} {Ps:List gz},Paired (PutY G H) us Ps->Paired (PutAt H) us Ps
 |_,_,.nil=>.nil
 |_,_,.cons x r=>.cons (x.x s).at_ (zF s r)
theorem wL{G H:Hp}{v:V}{P:gz}(hv:PutY G H v P):∀{us:List V} {Ps:List gz},Paired (PutY G H) us Ps->Paired (PutY G H) (us++[v]) (Ps++[P])
 |_,_,.nil=>.cons hv .nil
 |_,_,.cons x r=>.cons x (wL hv r)
theorem yk{G H:Hp}{p C dx:Addr}{fs gs:List (Str×V)}(hp:H p=some (.ins C dx fs)):∀{us:List V} {Ps:List gz},Paired (PutY G H) us Ps->Paired (PutY G (upd H p (.ins C dx gs))) us Ps
 |_,_,.nil=>.nil
 |_,_,.cons ⟨t,x,e,ht,z⟩ r=>.cons ⟨t,x,e,by rw[fG (λe=>by rw[e,hp] at ht;cases ht)];exact ht,z⟩ (yk hp r)
theorem SY{H H':Hp}{p:Addr}{o:HO}(s:Same H H'):Same (gK H p) (upd H' p o):=λb o hb=>by
 have ne:b≠p:=λe=>by rw[e,oe] at hb;cases hb
 rw[fG ne];rw[ik ne] at hb;exact s b _ hb
noncomputable def kZ(b:Int):List (Str×V):=fK "base" (.int b) []
noncomputable def lJ(pv tv:V):List (Str×V):=fK "table" tv (fK "puts" pv [])
theorem Oq(b:Int):(kZ b).lookup ("base":Str)=some (.int b):=by unfold kZ;rw[gc,if_pos rfl]
theorem CT(b:Int):(kZ b).lookup ("offset_at":Str)=none:=by unfold kZ;rw[gc,if_neg (by decide +kernel)];rfl
theorem RH(b:Int):(kZ b).lookup ("local":Str)=none:=by unfold kZ;rw[gc,if_neg (by decide +kernel)];rfl
theorem xm(pv tv:V):(lJ pv tv).lookup ("table":Str)=some tv:=by unfold lJ;rw[gc,if_pos rfl]
theorem uw(pv tv:V):(lJ pv tv).lookup ("offset_at":Str)=none:=by unfold lJ;rw[gc,if_neg (by decide +kernel),gc,if_neg (by decide +kernel)];rfl
theorem VM(pv tv:V):(lJ pv tv).lookup ("local":Str)=none:=by unfold lJ;rw[gc,if_neg (by decide +kernel),gc,if_neg (by decide +kernel)];rfl
theorem Sa(pv tv:V):(lJ pv tv).lookup ("put_at":Str)=none:=by unfold lJ;rw[gc,if_neg (by decide +kernel),gc,if_neg (by decide +kernel)];rfl
def ClkAt(H:Hp)(x:Addr)(T:List (Int×Int)):Prop:=∃dx pv tl us,H x=some (.ins aB dx (lJ pv (.ref tl)))/\H tl=some (.lst us)/\Paired (gI H) us T/\jd T
theorem ClkAt.keep{H H':Hp}(s:Same H H'){x:Addr}{T:List (Int×Int)}(h:ClkAt H x T):ClkAt H' x T:=by
 obtain⟨dx,pv,tl,us,h1,h2,h3,h4⟩:=h;exact⟨dx,pv,tl,us,s _ _ h1,s _ _ h2,jK s h3,h4⟩
theorem Cp:∀n:Nat,(n<24->f7 [(n:Int)]<2^24)/\(n<60->f7 [(n:Int)]<2^60):=λn=>by
 have a:∀n:Nat,n<24->f7 [(n:Int)]<2^24:=by decide +kernel
 have b:∀n:Nat,n<60->f7 [(n:Int)]<2^60:=by decide +kernel
 exact⟨a n,b n⟩
theorem tb_one{n:Int}{i:Nat}:tb (f7 [n]) i=true↔n.toNat=i:=by
 rw[oP,bX,List.any_nil,Bool.or_false,eU]
theorem Q7{h m:Int}(h0:0<=h)(h1:h<2^24)(hm:0<=m)(hm2:m<2^60){r:Nat}(e:tb (iG h m) r=true):tb h (r / 60)=true/\tb m (r%60)=true:=by
 unfold iG at e;rw[jN (λz hz=>by
  obtain⟨y,_,rfl⟩:=bG.mp hz;exact Int.mul_nonneg hm (cA (il _))),List.any_eq_true] at e
 obtain⟨_,hz,e⟩:=e;obtain⟨y,hy,rfl⟩:=bG.mp hz;rw[nZ h0 h1,flt_mem] at hy;obtain⟨i,hi,hb,rfl⟩:=hy;rw[show (60*(0+(i:Int))).toNat=60*i by omega,rd hm,bL,eU] at e;have hlt:r-60*i<60:=by
  rcases bU (r-60*i) 60 with c | c
  ·exact c
  ·rw[qg hm2 c] at e;cases e.2
 rw[show r / 60=i by omega,show r%60=r-60*i by omega];exact⟨hb,e.2⟩
theorem W1{h m:Int}(h0:0<=h)(h1:h<24)(m0:0<=m)(m1:m<60):(f7 [m]<2^60/\f7 [h]<2^24)/\iG (f7 [h]) (f7 [m])=2^(60*h+m).toNat:=by
 have a:=(Cp h.toNat).1 ⋯;have b:=(Cp m.toNat).2 ⋯;rw[bV h0] at a;rw[bV m0] at b;refine⟨⟨b,a⟩,jS (ME (jG _) a (jG _) b).1 (cA (il _)) λi=>?_⟩;rw[lP];by_cases c:tb (iG (f7 [h]) (f7 [m])) i=true
 ·obtain⟨x,y⟩:=Q7 (jG _) a (jG _) b c;have x:=tb_one.mp x;have y:=tb_one.mp y;rw[c];exact (eS ⋯).symm
 ·rw[eq_false_of_ne_true c];refine (eV λe=>c (Su (jG _) a (jG _) (tb_one.mpr ?_) (tb_one.mpr ?_))).symm<;>omega
theorem mV{lo hi a:Int}(h0:0<=lo)(h1:lo<=a)(h2:a<=hi)(h3:hi<=63):FT lo hi (num a.toNat) (f7 [a]):=
 (J3 (.cons (i1 h0 h1 h2 h3) .nil) (bZ _ _) (by show 1<=20;decide):FT lo hi (gj 44 [num a.toNat]) (f7 [[a]].flatten))
theorem En{lo hi:Int}(h:0<=lo/\lo<=hi/\hi<=63):FT lo hi [42] (f7 (iw lo hi 1)):=by
 have:=J3 (ws:=[[42]]) (nss:=[iw lo hi 1]) (.cons (i0 h.1 h.2.1 h.2.2) .nil) (bZ _ _) (by show 1<=20;decide);rw[show [iw lo hi 1].flatten=iw lo hi 1 from cC _] at this;exact this
theorem J1:∀n:Nat,n<32->num n≠[42]:=by decide +kernel
theorem wl{n:Int}(h0:1<=n)(h1:n<=31):DT false (num n.toNat) (some [.num (f7 [n])]):=by
 have it:=i1 (lo:=1) (hi:=31) (a:=n) (by decide) h0 h1 (by decide);have hp:=u6 (ns:=[n]) (bZ _ _) (λn hn=>by rw[aW.mp hn];omega);exact qK (ws:=[num n.toNat]) (ks:=[.num (f7 [n])]) (.cons ⟨it.2.1,rfl,it.1,hp⟩ .nil) (bZ _ _) (by show 1<=20;decide) (λw hw=>by rw[aW.mp hw];exact J1 _ ⋯) (λk hk=>by rw[aW.mp hk];exact⟨rfl,rfl,cA hp⟩)
theorem Qj{w:Int}(h0:0<=w)(h1:w<7):DT true (num w.toNat) (some [.wkd (gJ (f7 [w]))]):=by
 have it:=i1 (lo:=0) (hi:=7) (a:=w) (by decide) h0 ⋯ (by decide);have hp:=u6 (ns:=[w]) (bZ _ _) (λn hn=>by rw[aW.mp hn];omega);have le:∀n:Nat,n<7->f7 [(n:Int)]<=255:=by decide +kernel
 have le:=le w.toNat ⋯;rw[bV h0] at le;have w7:=vo hp le;exact qK (b:=true) (ws:=[num w.toNat]) (ks:=[.wkd (gJ (f7 [w]))]) (.cons ⟨it.2.1,rfl,f7 [w],it.1,⟨hp,le⟩,rfl⟩ .nil) (bZ _ _) (by show 1<=20;decide) (λw hw=>by rw[aW.mp hw];exact J1 _ ⋯) (λk hk=>by rw[aW.mp hk];exact⟨rfl,rfl,w7.2.1,w7.2.2⟩)
theorem Bu{w n:Int}(h0:0<=w)(h1:w<7)(n0:1<=n)(n1:n<=5):DT true (num w.toNat++[35]++num n.toNat) (some [.nth w n]):=by
 have z:=Wy w.toNat ⋯ n.toNat ⋯ ⋯;have ed:((w.toNat:Int)%7)=w:=⋯;rw[ed,bV (show 0<=n by omega)] at z;refine qK (ws:=[num w.toNat++[35]++num n.toNat]) (.cons ⟨z.2,z.1⟩ .nil) (bZ _ _) (by show 1<=20;decide) (λx hx=>?_) (λk hk=>by rw[aW.mp hk];exact⟨rfl,rfl,⟨⋯,⋯⟩,n0,n1⟩);rw[aW.mp hx];intro c;have m:35∈num w.toNat++[35]++num n.toNat:=cM _ (bR _ a8);rw[c] at m;exact absurd m (by decide)
theorem V2{w:Int}(h0:0<=w)(h1:w<7):DT true (num w.toNat++[76]) (some [.one w]):=by
 have z:=WM w.toNat ⋯;have ed:((w.toNat:Int)%7)=w:=⋯;rw[ed] at z;refine qK (ws:=[num w.toNat++[76]]) (.cons ⟨z.2,z.1⟩ .nil) (bZ _ _) (by show 1<=20;decide) (λx hx=>?_) (λk hk=>by rw[aW.mp hk];exact⟨rfl,rfl,by show 0<=w/\w<=6;omega⟩);rw[aW.mp hx];intro c;have m:76∈num w.toNat++[76]:=bR _ a8;rw[c] at m;exact absurd m (by decide)
theorem qJ{z:Int}(h:0<=z)(i:Nat):tb (Builtin.bitOr 0 (Builtin.bitOr 0 z)) i=tb z i:=by
 rw[oi (aZ 0) (mM (aZ 0) h),ju,Bool.false_or,oi (aZ 0) h,ju,Bool.false_or]
theorem sV(k:Mk)(l f:Int):iK (some [k]) none l f=Builtin.bitOr 0 (Builtin.bitOr 0 (k.due l f)):=rfl
theorem wx(k:Mk)(l f:Int):iK none (some [k]) l f=Builtin.bitOr 0 (Builtin.bitOr 0 (k.due l f)):=rfl
theorem XN{l:Int}(hl:0<=l)(i:Nat):tb (2*2^l.toNat-2) i=true↔1<=i/\(i:Int)<=l:=by
 have hp:=il l.toNat;rw[show (2*2^l.toNat-2:Int)=(2^l.toNat-1)*2^1 by omega,rd ⋯,rq,bL,eU,eU];omega
theorem tQ{n l f d:Int}(hn:1<=n)(h:Lf l f)(hd:0<=d):tb (iK (some [.num (f7 [n])]) none l f) d.toNat=true↔(1<=d/\d<=l)/\d=n:=by
 have hl:=h.1.1;have nn:(0:Int)<=2*2^l.toNat-2:=by have:=il l.toNat;omega
 rw[sV,qJ (nH (k:=.num (f7 [n])) (jG _) h)];show tb (Builtin.bitAnd (f7 [n]) (2*2^l.toNat-2)) d.toNat=true↔_;rw[lU (jG _) nn,bL,tb_one,XN ⋯];omega
theorem F8(n:Nat)(i:Nat):tb (1*2^n) i=true↔n=i:=by
 rw[show (1:Int)*2^n=2^n by omega,lP,eU]
theorem Lq{w n l f d:Int}(hw:0<=w/\w<=6)(hn:1<=n/\n<=5)(h:Lf l f)(hd:0<=d):tb (iK none (some [.nth w n]) l f) d.toNat=true↔(1<=d/\d<=l)/\d=1+(w-f)%7+7*(n-1):=by
 rw[wx,qJ (nH (k:=.nth w n) ⟨hw,hn⟩ h)];show tb (ky w n l f) d.toNat=true↔_;unfold ky lA;split
 ·rw[ju];exact⟨(λh=>by cases h),λh=>by omega⟩
 ·rw[F8];omega
theorem PH{w l f d:Int}(hw:0<=w/\w<=6)(h:Lf l f)(hd:0<=d):tb (iK none (some [.one w]) l f) d.toNat=true↔(1<=d/\d<=l)/\d=l-(f+l-1-w)%7:=by
 have hl:=h.1.1;rw[wx,qJ (nH (k:=.one w) hw h)];show tb (1*2^(l-((f+l-1)%7-w)%7).toNat) d.toNat=true↔_;rw[F8];omega
theorem Ww:∀w∈jM,∀l∈my,∀f∈jM,∀i∈List.range 32,(tb (kb (gJ (f7 [w])) l f) i=true↔(1<=i/\(i:Int)<=l)/\(f+(i:Int)-1)%7=w):=by decide +kernel
theorem WU{w l f d:Int}(hw:0<=w/\w<=6)(h:Lf l f)(hd:0<=d):tb (iK none (some [.wkd (gJ (f7 [w]))]) l f) d.toNat=true↔(1<=d/\d<=l)/\(f+d-1)%7=w:=by
 have le:∀n:Nat,n<7->f7 [(n:Int)]<=255:=by decide +kernel
 have le:=le w.toNat ⋯;rw[bV hw.1] at le;have hp:=u6 (ns:=[w]) (bZ _ _) (λn hn=>by rw[aW.mp hn];omega);have w7:=vo hp le;have l31:=h.1.2;rcases Int.lt_or_le d 32 with c | c
 ·have z:=Ww w (jL hw.1 hw.2) l (lZ h.1.1 h.1.2) f (jL h.2.1 h.2.2) d.toNat (bW.mpr ⋯);rw[wx,qJ (nH (k:=.wkd (gJ (f7 [w]))) w7.2 h)];show tb (kb (gJ (f7 [w])) l f) d.toNat=true↔_;rw[z];omega
 ·rw[qg (HF (kd:=none) (kw:=some [.wkd (gJ (f7 [w]))]) h (λ_ e=>nomatch e) (λks e k hk=>by cases e;rw[aW.mp hk];exact w7.2)) (show l.toNat+1<=d.toNat by omega)];exact⟨λz=>(by cases z),λz=>by omega⟩
def jZ(q:LQ)(t:Str):Prop:=∃(w0 w1 w2 w3 w4:List Nat) (m0 m1 m3:Int) (kd kw:Ko),t=Tx (gj 32 [w0,w1,w2,w3,w4])/\FT 0 59 w0 m0/\FT 0 23 w1 m1/\FT 1 12 w3 m3/\DT false w2 kd/\DT true w4 kw/\(m0<2^60/\m1<2^24)/\iG m1 m0=2^q.tm/\∀k d:Int,0<=k->k<=90->0<=d->(tb (gS m3 kd kw k) d.toNat=true↔(1<=d/\d<=gG k)/\Rk q k d)
theorem mU{q:LQ}{h mi:Int}(bh:0<=h/\h<24)(bm:0<=mi/\mi<60)(et:q.tm=(60*h+mi).toNat){w2 w3 w4:List Nat}{m3:Int}{kd kw:Ko}(f3:FT 1 12 w3 m3)(d2:DT false w2 kd)(d4:DT true w4 kw)(hb:∀k d:Int,0<=k->k<=90->0<=d->(tb (gS m3 kd kw k) d.toNat=true↔(1<=d/\d<=gG k)/\Rk q k d)):jZ q (Tx (gj 32 [num mi.toNat,num h.toNat,w2,w3,w4])):=by
 obtain⟨b,e⟩:=W1 bh.1 bh.2 bm.1 bm.2;exact⟨_,_,_,_,_,f7 [mi],f7 [h],m3,kd,kw,rfl,mV (by decide) bm.1 ⋯ (by decide),mV (by decide) bh.1 ⋯ (by decide),f3,d2,d4,b,by rw[e,et],hb⟩
theorem VA:∀i∈List.range 13,1<=i->tb (f7 (iw 1 12 1)) i=true:=by decide +kernel
theorem p7{q:LQ}{kd kw:Ko}(s3:q.s≠3)(s4:q.s≠4)(hm:1<=q.m/\q.m<=12)(h:∀l f d:Int,Lf l f->0<=d->(tb (iK kd kw l f) d.toNat=true↔(1<=d/\d<=l)/\d=g7 q l f))(k d:Int)(h0:0<=k)(h1:k<=90)(hd:0<=d):tb (gS (f7 [q.m]) kd kw k) d.toNat=true↔(1<=d/\d<=gG k)/\Rk q k d:=by
 have lf:=me h0 h1;unfold gS Rk;rw[if_neg s3];by_cases c:tb (f7 [q.m]) (jg k).toNat=true
 ·rw[if_pos c,h _ _ _ lf.2 hd];have c:=tb_one.mp c;have:=lf.1;exact⟨λz=>⟨z.1,.inr ⋯,z.2⟩,λz=>⟨z.1,z.2.2⟩⟩
 ·rw[if_neg c,ju];refine⟨λz=>(by cases z),λz=>absurd (tb_one.mpr ?_) c⟩;rcases z.2.1 with z | z
  ·exact absurd z s4
  ·rw[z]
theorem GL{q:LQ}{kd kw:Ko}(hs:q.s=3∨q.s=4)(h:∀l f d:Int,Lf l f->0<=d->(tb (iK kd kw l f) d.toNat=true↔(1<=d/\d<=l)/\if q.s=3 then (f+d-1)%7=q.w else d=g7 q l f))(k d:Int)(h0:0<=k)(h1:k<=90)(hd:0<=d):tb (gS (f7 (iw 1 12 1)) kd kw k) d.toNat=true↔(1<=d/\d<=gG k)/\Rk q k d:=by
 have lf:=me h0 h1;have i12:=VA (jg k).toNat (bW.mpr (by have:=lf.1;omega)) (by have:=lf.1;omega);unfold gS Rk;rw[if_pos i12,h _ _ _ lf.2 hd];split
 ·exact Iff.rfl
 ·rename_i c;exact⟨λz=>⟨z.1,.inl (hs.resolve_left c),z.2⟩,λz=>⟨z.1,z.2.2⟩⟩
section
variable{q:LQ}{h mi:Int}(bh:0<=h/\h<24)(bm:0<=mi/\mi<60)(ok:fF q)(et:q.tm=(60*h+mi).toNat)
include bh bm ok et
theorem Xi(s:q.s=0):jZ q (Tx (gj 32 [num mi.toNat,num h.toNat,num q.n.toNat,num q.m.toNat,[42]])):=by
 have m:=ok.m ⋯ ⋯;have n:=ok.n0 s;refine mU bh bm et (mV (by decide) m.1 m.2 (by decide)) (wl ⋯ ⋯) (ni true) (p7 ⋯ ⋯ m λl f d lf hd=>?_);rw[tQ ⋯ lf hd];unfold g7;rw[if_neg ⋯,if_neg ⋯,if_neg ⋯,if_neg ⋯]
theorem ZQ(s:q.s=1):jZ q (Tx (gj 32 [num mi.toNat,num h.toNat,[42],num q.m.toNat,num q.w.toNat++[35]++num q.n.toNat])):=by
 have m:=ok.m ⋯ ⋯;have n:=ok.n1 s;have w:=ok.w;refine mU bh bm et (mV (by decide) m.1 m.2 (by decide)) (ni false) (Bu w.1 ⋯ ⋯ ⋯) (p7 ⋯ ⋯ m λl f d lf hd=>?_);rw[Lq w ⋯ lf hd];unfold g7;rw[if_pos s]
theorem YO(s:q.s=2):jZ q (Tx (gj 32 [num mi.toNat,num h.toNat,[42],num q.m.toNat,num q.w.toNat++[76]])):=by
 have m:=ok.m ⋯ ⋯;have w:=ok.w;refine mU bh bm et (mV (by decide) m.1 m.2 (by decide)) (ni false) (V2 w.1 ⋯) (p7 ⋯ ⋯ m λl f d lf hd=>?_);rw[PH w lf hd];unfold g7;rw[if_neg ⋯,if_pos s]
theorem Ve(s:q.s=3):jZ q (Tx (gj 32 [num mi.toNat,num h.toNat,[42],[42],num q.w.toNat])):=by
 have w:=ok.w;refine mU bh bm et (En (by decide)) (ni false) (Qj w.1 ⋯) (GL (.inl s) λl f d lf hd=>?_);rw[WU w lf hd,if_pos s]
theorem q_4(s:q.s=4):jZ q (Tx (gj 32 [num mi.toNat,num h.toNat,num q.n.toNat,[42],[42]])):=by
 have n:=ok.n4 s;refine mU bh bm et (En (by decide)) (wl ⋯ ⋯) (ni true) (GL (.inr s) λl f d lf hd=>?_);rw[tQ ⋯ lf hd,if_neg ⋯];unfold g7;rw[if_neg ⋯,if_neg ⋯,if_neg ⋯,if_neg ⋯]
theorem Zd(s:q.s=5):jZ q (Tx (gj 32 [num mi.toNat,num h.toNat,[50,57],[50],[42]])):=by
 have m2:=ok.m5 (.inl s);have m:=ok.m ⋯ ⋯;have f3:=mV (lo:=1) (hi:=12) (a:=q.m) (by decide) m.1 m.2 (by decide);have e2:num q.m.toNat=[50]:=by rw[m2];decide +kernel
 have d2:=wl (n:=29) (by decide) (by decide);have e9:num (29:Int).toNat=[50,57]:=by decide +kernel
 rw[e2] at f3;rw[e9] at d2;refine mU bh bm et f3 d2 (ni true) (p7 ⋯ ⋯ m λl f d lf hd=>?_);rw[tQ (by decide) lf hd];unfold g7;rw[if_neg ⋯,if_neg ⋯,if_pos s]
theorem Ym(s:q.s=6):jZ q (Tx (gj 32 [num mi.toNat,num h.toNat,[42],[50],num q.w.toNat++[35,53]])):=by
 have m2:=ok.m5 (.inr s);have m:=ok.m ⋯ ⋯;have w:=ok.w;have f3:=mV (lo:=1) (hi:=12) (a:=q.m) (by decide) m.1 m.2 (by decide);have e2:num q.m.toNat=[50]:=by rw[m2];decide +kernel
 rw[e2] at f3;have d4:=Bu (w:=q.w) (n:=5) w.1 ⋯ (by decide) (by decide);have e5:num q.w.toNat++[35]++num (5:Int).toNat=num q.w.toNat++[35,53]:=by rw[c7];rfl
 rw[e5] at d4;refine mU bh bm et f3 (ni false) d4 (p7 ⋯ ⋯ m λl f d lf hd=>?_);rw[Lq w (by decide) lf hd];unfold g7;rw[if_neg ⋯,if_neg ⋯,if_neg ⋯,if_pos s];omega
end
theorem Vg:∀w∈jM,∃k∈List.range 91,jg (k:Int)=2/\gG (k:Int)=29/\(k:Int)%7=w:=by decide +kernel
theorem tK{q:LQ}(ok:fF q):ya q:=by
 have hs:=ok.s;have w:=ok.w;by_cases s56:q.s=5∨q.s=6
 ·obtain⟨k,hk,e1,e2,e3⟩:=Vg q.w (jL w.1 w.2);have hk:=bW.mp hk;refine⟨k,29,⟨⋯,⋯⟩,⟨by decide,⋯⟩,?_⟩;unfold Rk g7;rw[if_neg ⋯,e1,e2,e3];refine⟨.inr (ok.m5 s56).symm,?_⟩;rcases s56 with s | s
  ·rw[if_neg ⋯,if_neg ⋯,if_pos s]
  ·rw[if_neg ⋯,if_neg ⋯,if_neg ⋯,if_pos s];omega
 ·by_cases s3:q.s=3
  ·have k:=kM 0;refine⟨gu 0,1+(q.w-gu 0%7)%7,k.2.2.1,⟨⋯,by rw[k.1.2];omega⟩,?_⟩;unfold Rk;rw[if_pos s3];omega
  ·have k:=kM (q.m-1);have n0:=ok.n0;have n1:=ok.n1;have n4:=ok.n4;have y:1<=g7 q (gG (gu (q.m-1))) (gu (q.m-1)%7)/\g7 q (gG (gu (q.m-1))) (gu (q.m-1)%7)<=28∨q.s=2:=by
    unfold g7;split
    ·omega
    split
    ·omega
    split
    ·omega
    split
    ·omega
    ·omega
   refine⟨gu (q.m-1),g7 q (gG (gu (q.m-1))) (gu (q.m-1)%7),k.2.2.1,?_,?_⟩
   ·rw[k.1.2] at y ⊢;rcases y with y | y
    ·omega
    ·unfold g7;rw[if_neg ⋯,if_pos y];omega
   ·unfold Rk;rw[if_neg s3];refine⟨?_,rfl⟩;by_cases s4:q.s=4
    ·exact .inl s4
    ·have:=ok.m s3 s4;rw[k.1.1];exact .inr ⋯
theorem JG:∀n:Nat,fB (-(n:Int))<=fB 0-n
 |0=>by rw[show -((0:Nat):Int)=0 from rfl];omega
 |n+1=>by
  have h:=JG n;have u:=ol (-((n+1:Nat):Int));have l:=(BK (-((n+1:Nat):Int))).1;rw[show -((n+1:Nat):Int)+1= -(n:Int) by omega] at u;omega
theorem DJ(d:Int):∃M,fB M<=d/\d<fB (M+1):=by
 have key:∀(k:Nat) (N:Int),fB N<=d->d-fB N<k->∃M,fB M<=d/\d<fB (M+1):=λk=>by
  induction k with
  |zero=>intro N h1 h2;omega
  |succ k ih=>
   intro N h1 h2;by_cases c:d<fB (N+1)
   ·exact⟨N,h1,c⟩
   ·have u:=ol N;have l:=(BK N).1;exact ih (N+1) ⋯ ⋯
 have h:=JG (fB 0-d).toNat;exact key ((d-fB (-((fB 0-d).toNat:Int))).toNat+1) (-((fB 0-d).toNat:Int)) ⋯ ⋯
noncomputable def jo(q:LQ)(M:Int):Int:=g7 q (gq M) ((fB M+6)%7)
noncomputable def i9(q:LQ)(M:Int):Int:=1440*(fB M+jo q M-1)+q.tm
noncomputable def qe(q:LQ)(M:Int):V:=if gq M<jo q M then .non else .int (i9 q M)
theorem wj{q:LQ}(ok:fF q)(h3:q.s≠3){l f:Int}(hl:28<=l):1<=g7 q l f:=by
 have:=ok.s;have n0:=ok.n0;have n1:=ok.n1;have n4:=ok.n4;unfold g7;split
 ·omega
 split
 ·omega
 split
 ·omega
 split<;>omega
theorem MN{q:LQ}(ok:fF q)(h3:q.s≠3){M:Int}(hm:q.s=4∨M%12+1=q.m)(h:jo q M<=gq M):iJ q (i9 q M):=by
 have k:=kM M;refine⟨M,jo q M,?_,⟨wj ok h3 k.2.2.2.1,h⟩,rfl⟩;unfold Rk;rw[if_neg h3,k.1.1,k.1.2,k.2.1];exact⟨hm,rfl⟩
theorem R7{q:LQ}(ok:fF q)(h3:q.s≠3){t:Int}(h:iJ q t):∃M:Int,(q.s=4∨M%12+1=q.m)/\jo q M<=gq M/\t=i9 q M:=by
 obtain⟨M,d,hm,rfl,l,e⟩:=p9 ok h3 h;exact⟨M,hm,l.2,e⟩
theorem wq{q:LQ}(ok:fF q)(h3:q.s≠3){M N:Int}(h:M<N)(hm:jo q M<=gq M):i9 q M<i9 q N:=by
 have a:=jz h;have b:=wj ok h3 (l:=gq N) (f:=(fB N+6)%7) (kM N).2.2.2.1;have t:=ok.tm;have b:1<=jo q N:=b;unfold i9;omega
noncomputable def mB(q:LQ)(Y:Int)(j:Nat):Int:=if q.s=4 then 12*Y+11-j else 12*(Y-j)+q.m-1
theorem Eg{q:LQ}(ok:fF q)(h3:q.s≠3)(Y:Int)(j:Nat):q.s=4∨mB q Y j%12+1=q.m:=by
 unfold mB;split
 ·exact .inl ‹_›
 ·rename_i c;have:=ok.m h3 c;exact .inr ⋯
theorem IJ{q:LQ}(ok:fF q)(h3:q.s≠3){Y M:Int}(hm:q.s=4∨M%12+1=q.m)(h:M<12*(Y+1)):∃j:Nat,mB q Y j=M/\(12*(Y-80)<=M->j<972):=by
 unfold mB;by_cases c:q.s=4
 ·exact⟨(12*Y+11-M).toNat,by rw[if_pos c];omega,λ_=>by omega⟩
 ·exact⟨(Y-M / 12).toNat,by rw[if_neg c];omega,λ_=>by omega⟩
theorem DK{q:LQ}(Y:Int){i j:Nat}(h:i<j):mB q Y j<mB q Y i:=by
 unfold mB;split<;>omega
structure Bk(q:LQ)(x Y:Int)(b:Nat)(fs:List Int):Prop where
 a:∀t∈fs,∃j:Nat,j<b/\(jo q (mB q Y j)<=gq (mB q Y j)/\t=i9 q (mB q Y j))/\t<=x
 p:fs.Pairwise λs t=>t<s
 c:∀j:Nat,j<b->jo q (mB q Y j)<=gq (mB q Y j)->i9 q (mB q Y j)<=x->i9 q (mB q Y j)∈fs
theorem uh(q:LQ)(x Y:Int):Bk q x Y 0 []:=⟨λ_ h=>(nomatch h),.nil,λ_ h=>absurd h (dM _)⟩
theorem EV{q:LQ}{x Y:Int}{b:Nat}{fs:List Int}(h:Bk q x Y b fs)(n:¬(jo q (mB q Y b)<=gq (mB q Y b)/\i9 q (mB q Y b)<=x)):Bk q x Y (b+1) fs where
 a:=λt ht=>by
  obtain⟨j,hj,z⟩:=h.a t ht;exact⟨j,⋯,z⟩
 p:=h.p
 c:=λj hj h1 h2=>by
  rcases bU j b with c | c
  ·exact h.c j c h1 h2
  ·obtain rfl:j=b:=⋯;exact absurd ⟨h1,h2⟩ n
theorem aH0{q:LQ}(ok:fF q)(h3:q.s≠3){x Y:Int}{b:Nat}{fs:List Int}(h:Bk q x Y b fs)(n:jo q (mB q Y b)<=gq (mB q Y b))(n2:i9 q (mB q Y b)<=x):Bk q x Y (b+1) (fs++[i9 q (mB q Y b)]) where
 a:=λt ht=>by
  rcases bS.mp ht with m | m
  ·obtain⟨j,hj,z⟩:=h.a t m;exact⟨j,⋯,z⟩
  ·rw[aW.mp m];exact⟨b,⋯,⟨n,rfl⟩,n2⟩
 p:=by
  refine cV.mpr ⟨h.p,.cons (λ_ h=>(nomatch h)) .nil,λs hs t ht=>?_⟩;rw[aW.mp ht];obtain⟨j,hj,⟨_,rfl⟩,_⟩:=h.a s hs;exact wq ok h3 (DK Y hj) n
 c:=λj hj h1 h2=>by
  rcases bU j b with c | c
  ·exact cM _ (h.c j c h1 h2)
  ·obtain rfl:j=b:=⋯;exact bR _ (aW.mpr rfl)
theorem Yp{q:LQ}(ok:fF q)(h3:q.s≠3){x Y:Int}(hY:db Y<=x / 1440){b:Nat}{fs:List Int}(h:Bk q x Y b fs)(hb:972<=b):2<=fs.length:=by
 obtain⟨k,d,hk,hd,r⟩:=tK ok;have at_:∀Z:Int,Z+40<=Y->Y-80<=Z->∃M,12*Z<=M/\M<12*Z+480/\i9 q M∈fs/\jo q M<=gq M:=λZ z1 z2=>by
  obtain⟨M,m1,m2,em⟩:=pK hk.1 hk.2 Z;have kk:=kM M;have r:=r;have hd:=hd;rw[←em] at r hd;unfold Rk at r;rw[if_neg h3,kk.1.1,kk.1.2,kk.2.1] at r;rw[kk.1.2] at hd;have ed:d=jo q M:=r.2;obtain⟨j,ej,hj⟩:=IJ ok h3 (Y:=Y) r.1 ⋯;have lt:=jz (show M<12*Y by omega);have e12:fB (12*Y)=db Y:=by
   unfold fB;rw[show 12*Y / 12=Y by omega,show 12*Y%12+1=1 by omega];exact Int.add_zero _
  have tm:=ok.tm;have c:=h.c j (by have:=hj ⋯;omega);rw[ej] at c;exact⟨M,m1,m2,c ⋯ (by unfold i9;omega),⋯⟩
 obtain⟨M,m1,m2,hM,_⟩:=at_ (Y-40) ⋯ ⋯;obtain⟨N,n1,n2,hN,hn⟩:=at_ (Y-80) ⋯ ⋯;have lt:=wq ok h3 (show N<M by omega) hn
 match fs,hM,hN with
 |[],hM,_=>cases hM
 |[u],hM,hN=>
  have a:=aW.mp hM;have b:=aW.mp hN;omega
 |_::_::_,_,_=>exact Nat.le_add_left 2 _
def qh(q:LQ)(x u1 u0:Int):Prop:=(iJ q u1/\iJ q u0)/\(u0<u1/\u1<=x)/\∀t,iJ q t->t<=x->t=u1∨t<=u0
theorem Xz{q:LQ}(ok:fF q)(h3:q.s≠3){x Y:Int}(hY:x / 1440<db (Y+1)){b:Nat}{u1 u0:Int}(h:Bk q x Y b [u1,u0]):qh q x u1 u0:=by
 obtain⟨j1,l1,⟨a1,e1⟩,x1⟩:=h.a u1 a8;obtain⟨j0,l0,⟨a0,e0⟩,x0⟩:=h.a u0 (bM _ a8);have lt:=(cX.mp h.p).1 u0 a8;refine⟨⟨by rw[e1];exact MN ok h3 (Eg ok h3 Y j1) a1,by rw[e0];exact MN ok h3 (Eg ok h3 Y j0) a0⟩,⟨lt,x1⟩,λt ev tx=>?_⟩;obtain⟨M,hm,l,rfl⟩:=R7 ok h3 ev;have hM:M<12*(Y+1):=by
  rcases Int.lt_or_le M (12*(Y+1)) with c | c
  ·exact c
  ·have e12:fB (12*(Y+1))=db (Y+1):=by
    unfold fB;rw[show 12*(Y+1) / 12=Y+1 by omega,show 12*(Y+1)%12+1=1 by omega];exact Int.add_zero _
   have y1:1<=jo q M:=wj ok h3 (kM M).2.2.2.1;have g:fB (12*(Y+1))<=fB M:=by
    rcases c8 c with z | z
    ·have:=jz z;have:=(kM (12*(Y+1))).2.2.2;omega
    ·rw[z];exact aZ _
   unfold i9 at tx;omega
 obtain⟨j,ej,_⟩:=IJ ok h3 (Y:=Y) hm hM;rcases bU j b with c | c
 ·have z:=h.c j c (by rw[ej];exact l) (by rw[ej];exact tx);rw[ej] at z;rcases aT.mp z with z | z
  ·exact .inl z
  ·exact .inr (Int.le_of_eq (aW.mp z))
 ·have:=wq ok h3 (DK (q:=q) Y (show j0<j by omega)) (by rw[ej];exact l);rw[ej] at this;exact .inr ⋯
theorem C8{q:LQ}(h3:q.s=3){n:Int}(h:(n+6)%7=q.w):iJ q (1440*n+q.tm):=by
 obtain⟨M,h1,h2⟩:=DJ n;have u:=ol M;have k:=kM M;refine⟨M,n-fB M+1,?_,⟨⋯,⋯⟩,⋯⟩;unfold Rk;rw[if_pos h3,k.2.1];omega
theorem ww{q:LQ}(ok:fF q)(h3:q.s=3)(x:Int):qh q x (x-(x-1440*(q.w+1)-q.tm)%10080) (x-(x-1440*(q.w+1)-q.tm)%10080-10080):=by
 obtain⟨g,hg⟩:∃g,g=(x-1440*(q.w+1)-(q.tm:Int)) / 10080:=⟨()⟩;have e:x-(x-1440*(q.w+1)-(q.tm:Int))%10080=1440*(q.w+1+7*g)+q.tm:=⋯;have w:=ok.w;rw[e];refine⟨⟨C8 h3 ⋯,?_⟩,⟨⋯,⋯⟩,λt ev tx=>?_⟩
 ·rw[show 1440*(q.w+1+7*g)+(q.tm:Int)-10080=1440*(q.w+1+7*(g-1))+q.tm by omega];exact C8 h3 ⋯
 ·obtain⟨n,hn,rfl⟩:=uU h3 ev;omega
structure pJ(x:Int)(qs:List LQ)(S:List (Int×Int)):Prop where
 len:S.length=2*qs.length
 has:∀(i:Nat) q,qs[i]? =some q->∃u1 u0,qh q x u1 u0/\(u1,q.off)∈S/\(u0,q.off)∈S
 own:∀p∈S,∃(i:Nat) (q:LQ),qs[i]? =some q/\iJ q p.1/\p.1<=x/\p.2=q.off
 nd:S.Nodup
theorem vH(x:Int):pJ x [] []:=⟨rfl,λ_ _ h=>(by cases h),λ_ h=>(nomatch h),.nil⟩
theorem sS{x:Int}{qs:List LQ}{q:LQ}{S:List (Int×Int)}{u1 u0:Int}(h:pJ x qs S)(l:qh q x u1 u0)(hf:iM (qs++[q])):pJ x (qs++[q]) (S++[(u1,q.off),(u0,q.off)]) where
 len:=by rw[aV,aV,h.len];show _=2*(qs.length+1);simp;omega
 has:=λi r hr=>by
  rcases bU i qs.length with c | c
  ·rw[cY c] at hr;obtain⟨a,b,z,m1,m2⟩:=h.has i r hr;exact⟨a,b,z,cM _ m1,cM _ m2⟩
  ·rw[cT c] at hr;obtain rfl:q=r:=by
    cases e:i-qs.length with
    |zero=>rw[e] at hr;exact bH hr
    |succ n=>rw[e] at hr;cases hr
   exact⟨u1,u0,l,bR _ a8,bR _ (bM _ a8)⟩
 own:=λp hp=>by
  rcases bS.mp hp with m | m
  ·obtain⟨i,r,hr,z⟩:=h.own p m;exact⟨i,r,by rw[cY (bB.mp hr).1];exact hr,z⟩
  ·refine⟨qs.length,q,by rw[cT (aP _),Nat.sub_self];rfl,?_⟩;rcases aT.mp m with e | m
   ·rw[e];exact⟨l.1.1,l.2.1.2,rfl⟩
   ·rw[aW.mp m];exact⟨l.1.2,by have:=l.2.1;show u0<=x;omega,rfl⟩
 nd:=by
  refine cV.mpr ⟨h.nd,?_,λp hp r hr e=>?_⟩
  ·refine .cons (λy hy e=>?_) (.cons (λ_ h=>(nomatch h)) .nil);rw[aW.mp hy] at e;have:=congrArg Prod.fst e;have this:u1=u0:=this;have:=l.2.1;omega
  ·obtain⟨i,w,hw,ew,_⟩:=h.own p hp;have hi:=(bB.mp hw).1;have er:iJ q r.1:=by
    rcases aT.mp hr with z | z
    ·rw[z];exact l.1.1
    ·rw[aW.mp z];exact l.1.2
   have f:=hf i qs.length w q p.1 r.1 (by rw[cY hi];exact hw) (by rw[cT (aP _),Nat.sub_self];rfl) ew er;rw[e] at f;omega
theorem Rb{x:Int}{qs:List LQ}{S S':List (Int×Int)}(h:pJ x qs S)(hf:iM qs)(hp:S'.Perm S)(hs:S'.Pairwise λa b=>hV a b=true){a b:Int×Int}(ha:S'[S'.length-1]? =some a)(hb:S'[S'.length-2]? =some b)(hl:2<=S'.length):iR (EQ qs) x a.1 b.2 a.2:=by
 refine Pl hs (λp hp'=>?_) (λt o t' o' e e' te=>?_) (λt o e tx=>?_) ha hb hl
 ·obtain⟨i,q,hq,ev,px,eo⟩:=h.own p (hp.mem_iff.mp hp');exact⟨⟨i,q,hq,ev,eo⟩,px⟩
 ·rcases rH hf e e' with z | z
  ·exact z.2
  ·omega
 ·obtain⟨i,q,hq,ev,rfl⟩:=e;obtain⟨u1,u0,l,m1,m0⟩:=h.has i q hq;rcases l.2.2 t ev tx with rfl | z
  ·exact .inl (hp.mem_iff.mpr m1)
  ·rcases c8 z with z | rfl
   ·exact .inr ⟨(u0,q.off),(u1,q.off),hp.mem_iff.mpr m0,hp.mem_iff.mpr m1,l.2.1.1,z⟩
   ·exact .inl (hp.mem_iff.mpr m0)
theorem vN{α:Type}{xs:List α}{n:Nat}(h:2<=xs.length)(hn:n<=xs.length):hZ xs ((n:Int)-1)=xs[l8 xs.length n]? /\hZ xs ((n:Int)-1-1)=xs[lr xs.length n]? :=by
 have e1:kG xs.length ((n:Int)-1)=some (l8 xs.length n):=by
  unfold kG l8;by_cases c:n=0
  ·rw[if_neg ⋯,if_pos ⋯,if_pos c];exact congrArg some ⋯
  ·rw[if_pos ⋯,if_pos ⋯,if_neg c];exact congrArg some ⋯
 have e2:kG xs.length ((n:Int)-1-1)=some (lr xs.length n):=by
  unfold kG lr;by_cases c:n=0
  ·rw[if_neg ⋯,if_pos ⋯,if_pos c];exact congrArg some ⋯
  ·by_cases c1:n=1
   ·rw[if_neg ⋯,if_pos ⋯,if_neg c,if_pos c1];exact congrArg some ⋯
   ·rw[if_pos ⋯,if_pos ⋯,if_neg c,if_neg c1];exact congrArg some ⋯
 unfold hZ;rw[e1,e2];exact⟨rfl,rfl⟩
theorem RN{l n:Nat}(h:2<=l)(hn:n<=l):l8 l n<l/\lr l n<l:=by
 unfold l8 lr;constructor
 ·split<;>omega
 ·split
  ·omega
  ·split<;>omega
theorem Je(y:Int):fB (12*y)=db y:=by
 unfold fB;rw[show 12*y / 12=y by omega,show 12*y%12+1=1 by omega];exact Int.add_zero _
theorem MY{a b:Int}(h:a<=b):db a<=db b:=by
 rw[nj,nj];omega
theorem YX(n:Int):∃y,db y<=n/\n<db (y+1):=by
 obtain⟨M,h1,h2⟩:=DJ n;refine⟨M / 12,?_,?_⟩
 ·rw[←Je];rcases c8 (show 12*(M / 12)<=M by omega) with c | c
  ·have:=jz c;have:=(kM (12*(M / 12))).2.2.2;omega
  ·rw[c];exact h1
 ·rw[←Je];rcases c8 (show M+1<=12*(M / 12+1) by omega) with c | c
  ·have:=jz c;have:=(kM (M+1)).2.2.2;omega
  ·rw[←c];exact h2
theorem Qk{y m:Int}(h1:1<=m)(h2:m<=12):db y+jF y m=fB (12*y+m-1)/\gd y m=gq (12*y+m-1):=by
 unfold fB gq;rw[show (12*y+m-1) / 12=y by omega,show (12*y+m-1)%12+1=m by omega];exact⟨rfl,rfl⟩
noncomputable def qv(q:LQ)(x:Str):List V:=[.str x,.int q.tm,.int q.s,.int q.n,.int q.w,.int q.m,.int q.off]
def LqA(H:Hp)(v:V)(q:LQ):Prop:=∃t x,v=.ref t/\H t=some (.tup (qv q x))/\jZ q x/\fF q
theorem LqA.keep{H H':Hp}(s:Same H H'){v:V}{q:LQ}(h:LqA H v q):LqA H' v q:=by
 obtain⟨t,x,e,ht,z⟩:=h;exact⟨t,x,e,s _ _ ht,z⟩
theorem xQ{H H':Hp}(s:Same H H'):∀{us:List V} {qs:List LQ},Paired (LqA H) us qs->Paired (LqA H') us qs
 |_,_,.nil=>.nil
 |_,_,.cons x r=>.cons (x.keep s) (xQ s r)
theorem ud{H:Hp}{l:Addr}{xs ys:List V}(hl:H l=some (.lst xs)):∀{us:List V} {qs:List LQ},Paired (LqA H) us qs->Paired (LqA (upd H l (.lst ys))) us qs
 |_,_,.nil=>.nil
 |_,_,.cons ⟨t,x,e,ht,z⟩ r=>.cons ⟨t,x,e,by rw[fG (λz=>by rw[z,hl] at ht;cases ht)];exact ht,z⟩ (ud hl r)
theorem MD{H:Hp}{v:V}{q:LQ}(hv:LqA H v q):∀{us:List V} {qs:List LQ},Paired (LqA H) us qs->Paired (LqA H) (us++[v]) (qs++[q])
 |_,_,.nil=>.cons hv .nil
 |_,_,.cons x r=>.cons x (MD hv r)
theorem uZ{H:Hp}{us:List V}{qs:List LQ}(h:Paired (LqA H) us qs):∀q∈qs,fF q:=by
 induction h with
 |nil=>exact λ_ h=>nomatch h
 |cons x r ih=>
  intro q hq;rcases aT.mp hq with rfl | m
  ·obtain⟨_,_,_,_,_,z⟩:=x;exact z
  ·exact ih q m
def tV(q:LQ):Prop:=(0<=q.s/\q.s<=6/\q.s≠3)/\1<=q.m/\q.m<=12
noncomputable def pF(q:LQ)(f:Int):Int:=if q.s=1 then 1+(q.w-f-6)%7+7*(q.n-1) else q.n
noncomputable def pO(q:LQ)(f l:Int):Int:=if q.s=2 then l-(f+l+5-q.w)%7 else pF q f
noncomputable def pP(q:LQ)(f l:Int):Int:=if q.s=5 then 29 else pO q f l
noncomputable def pL(q:LQ)(f l:Int):Int:=if q.s=6 then 29+(q.w-f-6)%7 else pP q f l
theorem Zr(q:LQ)(f l:Int):pL q f l=g7 q l ((f+6)%7):=by
 unfold pL pP pO pF g7;by_cases c1:q.s=1
 ·rw[if_pos c1,if_pos c1,if_neg ⋯,if_neg ⋯,if_neg ⋯];omega
 by_cases c2:q.s=2
 ·rw[if_neg c1,if_neg c1,if_pos c2,if_pos c2,if_neg ⋯,if_neg ⋯];omega
 by_cases c5:q.s=5
 ·rw[if_neg c1,if_neg c1,if_neg c2,if_neg c2,if_pos c5,if_pos c5,if_neg ⋯]
 by_cases c6:q.s=6
 ·rw[if_neg c1,if_neg c1,if_neg c2,if_neg c2,if_neg c5,if_neg c5,if_pos c6,if_pos c6];omega
 ·rw[if_neg c1,if_neg c1,if_neg c2,if_neg c2,if_neg c5,if_neg c5,if_neg c6,if_neg c6]
def But(M:Addr)(H H':Hp):Prop:=∀b o,b≠M->H b=some o->H' b=some o
theorem But.trans{M:Addr}{H H1 H2:Hp}(a:But M H H1)(b:But M H1 H2):But M H H2:=λx o n h=>b x o n (a x o n h)
theorem But.of{M:Addr}{H H1:Hp}(s:Same H H1):But M H H1:=λx o _ h=>s x o h
theorem But.upd{M:Addr}{H:Hp}{o:HO}:But M H (upd H M o):=λx o n h=>by rw[fG n];exact h
theorem tq{M:Addr}{H H':Hp}(b:But M H H')(n:H M=none):Same H H':=λx o h=>b x o (λe=>by rw[e,n] at h;cases h) h
section
variable{js:List Nat}{σ:L2.St}{tt:TT}{te:TE}{Q:VK}{H1:Hp}
theorem Zn{lo:Int}{n:Nat}{M:Addr}(R:Addr->Nat->List V->Hp->Prop)(hM:H1 M≠none)(hm:∀D i l H l0 l',H D=some (.lst l0)->H1 D=none->R D i l H->R D i l (upd H D (.lst l')))(hn:n<=sizeLine)(h0:∀D,H1 D=none->R D 0 [] (upd H1 D (.lst [])))
  (hs:∀(i:Nat) (l:List V) (D:Addr) (H2:Hp) (E:V->Hp->Prop) (F:Hp->Prop),i<n->R D i l H2->H1 D=none->But M H1 H2->H2 D=some (.lst l)->(∀y H5,But M H2 H5->R D (i+1) (l++[y]) H5->E y H5)->(∀H4,But M H2 H4->R D (i+1) l H4->F H4)->
   tt (some (.int (lo+(i:Int)))::gT js σ) H2 λb H4=>if b=true then te (some (.int (lo+(i:Int)))::gT js σ) H4 E else F H4)
  (hd:∀(D:Addr) (H2:Hp) (l:List V),R D n l H2->H1 D=none->But M H1 H2->H2 D=some (.lst l)->Q (.ref D) H2):mj (lB lo n) js σ tt te Q H1:=by
 intro D hD;have nD:D≠M:=λe=>hM (by rw[←e];exact hD);refine⟨λi m H2=>m=n-i/\i<=n/\But M H1 H2/\∃l,H2 D=some (.lst l)/\l.length<=i/\R D i l H2,⟨n,by simp,a9 _,.of (fm hD _),[],fk,aP _,h0 D hD⟩,?_⟩;rintro i m H2 ⟨rfl,hi,s2,l,h2,hll,hR⟩;by_cases hlt:i<n
 ·refine .inr ⟨hlt,λv H3 y=>?_⟩;obtain⟨e,ev⟩:=y;subst e;subst ev;refine hs i l D _ _ _ hlt hR hD s2 h2 (λz H5 s5 r5=>?_) (λH4 s4 r4=>?_)
  ·refine⟨l,s5 _ _ nD h2,cZ hll (bJ hlt hn),n-(i+1),⋯,rfl,hlt,λb o nb hb=>?_,l++[z],fk,by rw[aV,b8];omega,hm _ _ _ _ _ _ (s5 _ _ nD h2) hD r5⟩;rw[fG (g6 hb hD)];exact s5 _ _ nb (s2 _ _ nb hb)
  ·exact⟨n-(i+1),⋯,rfl,hlt,s2.trans s4,l,s4 _ _ nD h2,⋯,r4⟩
 ·have e:i=n:=⋯;subst e;exact .inl ⟨aP _,hd D H2 l hR hD s2 h2⟩
end
def yZ(z:List Int):Prop:=∃mi h s d w n o:Int,z=[mi,h,s,d,w,n,o]/\(0<=mi/\mi<60)/\(0<=h/\h<24)/\(0<=s/\s<3)/\(0<=d/\d<20)/\(0<=w/\w<7)/\(0<=n/\n<3)/\0<=o/\o<1441
theorem RE{ds:List Int}(h:Digs ds [60,24,3,20,7,3,1441]):yZ ds:=by
 cases h with | cons a0 h=>cases h with | cons a1 h=>cases h with | cons a2 h=>cases h with | cons a3 h=>cases h with | cons a4 h=>cases h with | cons a5 h=>cases h with | cons a6 h=>cases h with | nil=>exact⟨_,_,_,_,_,_,(),a0,a1,a2,a3,a4,a5,a6⟩
def PtA(H:Hp)(v:V)(z:List Int):Prop:=∃l,v=.ref l/\H l=some (.lst (z.map V.int))/\yZ z
theorem PtA.keep{H H':Hp}(s:Same H H'){v:V}{z:List Int}(h:PtA H v z):PtA H' v z:=by
 obtain⟨l,e,hl,z⟩:=h;exact⟨l,e,s _ _ hl,z⟩
theorem E3{mi h s d w n o m:Int}(bs:0<=s/\s<3)(bd:0<=d/\d<20)(bw:0<=w/\w<7)(bn:0<=n/\n<3)(bo:0<=o/\o<1441)(bm:1<=m/\m<=12)(bi:0<=mi/\mi<60)(bh:0<=h/\h<24):fF ⟨s,if s=0 then 5+d else if s=1 then 2+n else 0,w,m,(60*h+mi).toNat,o-720⟩ where
 s:=by show 0<=s/\s<=6;omega
 n0:=λe=>by have e:s=0:=e;show 5<=(if s=0 then 5+d else if s=1 then 2+n else 0)/\(if s=0 then 5+d else if s=1 then 2+n else 0)<=24;rw[if_pos e];omega
 n1:=λe=>by have e:s=1:=e;show 2<=(if s=0 then 5+d else if s=1 then 2+n else 0)/\(if s=0 then 5+d else if s=1 then 2+n else 0)<=4;rw[if_neg ⋯,if_pos e];omega
 n4:=λe=>by have e:s=4:=e;omega
 w:=by show 0<=w/\w<=6;omega
 m:=λ_ _=>bm
 m5:=λe=>by have e:s=5∨s=6:=e;omega
 tm:=by show (60*h+mi).toNat<1440;omega
 off:=by show -720<=o-720/\o-720<=720;omega
theorem u7{y:Int}{b:Bool}(h:gX y=b):jc y=if b then 1 else 0:=by
 unfold jc;rw[h]
def PuA(H:Hp)(l:Addr)(qs:List LQ):Prop:=∃us,H l=some (.lst us)/\Paired (LqA H) us qs/\iM qs/\1<=qs.length/\qs.length<=4
theorem PuA.keep{H H':Hp}(s:Same H H'){l:Addr}{qs:List LQ}(h:PuA H l qs):PuA H' l qs:=by
 obtain⟨us,h1,h2,h3⟩:=h;exact⟨us,s _ _ h1,xQ s h2,h3⟩
def CkA(H:Hp)(p:Addr)(qs:List LQ):Prop:=∃T,ClkAt H p T/\∀t o,kY T t o↔EQ qs t o
theorem CkA.keep{H H':Hp}(s:Same H H'){p:Addr}{qs:List LQ}(h:CkA H p qs):CkA H' p qs:=by
 obtain⟨T,h1,h2⟩:=h;exact⟨T,h1.keep s,h2⟩
def PcA(H:Hp)(v:V)(qs:List LQ):Prop:=∃t p l,v=.ref t/\H t=some (.tup [.ref p,.ref l])/\CkA H p qs/\PuA H l qs
theorem PcA.keep{H H':Hp}(s:Same H H'){v:V}{qs:List LQ}(h:PcA H v qs):PcA H' v qs:=by
 obtain⟨t,p,l,e,ht,h1,h2⟩:=h;exact⟨t,p,l,e,s _ _ ht,h1.keep s,h2.keep s⟩
theorem jq{n:Nat}(h:n<2000):n<10^500:=bJ h (by decide +kernel)
theorem jB{n:Nat}(h:n<2000):(num n).length<=4:=(Wq 3 n).mpr (by show n<10000;omega)
theorem YB{s a b:Int}(bs:0<=s/\s<3):hZ [V.int a,V.int b,V.int 0] s=some (.int (if s=0 then a else if s=1 then b else 0)):=by
 rcases (show s=0∨s=1∨s=2 by omega) with rfl | rfl | rfl<;>rfl
section
variable{mi h d w n m:Nat}{s o:Int}(bi:(0:Int)<=mi/\(mi:Int)<60)(bh:(0:Int)<=h/\(h:Int)<24)(bw:(0:Int)<=w/\(w:Int)<7)(bo:0<=o/\o<1441)
include bi bh bw bo
theorem Xp(bs:0<=s/\s<3)(bd:(0:Int)<=d/\(d:Int)<20)(bn:(0:Int)<=n/\(n:Int)<3)(bm:(1:Int)<=m/\(m:Int)<=12):jZ ⟨s,if s=0 then 5+(d:Int) else if s=1 then 2+(n:Int) else 0,w,m,(60*(h:Int)+(mi:Int)).toNat,o-720⟩ (Tx (gj 32 [num mi,num h,if s=0 then num (5+d) else [42],num m,if s=2 then num w++[76] else (if s=1 then num w++[35]++num (2+n) else [42])])):=by
 have ok:=E3 bs bd bw bn bo bm bi bh;rcases (show s=0∨s=1∨s=2 by omega) with rfl | rfl | rfl
 ·have z:=Xi bh bi ok rfl rfl;exact z
 ·have z:=ZQ bh bi ok rfl rfl;exact z
 ·have z:=YO bh bi ok rfl rfl;exact z
theorem Wv:fF ⟨3,0,w,0,(60*(h:Int)+(mi:Int)).toNat,o-720⟩/\jZ ⟨3,0,w,0,(60*(h:Int)+(mi:Int)).toNat,o-720⟩ (Tx (gj 32 [num mi,num h,[42,32,42],num w])):=by
 have ok:fF ⟨3,0,w,0,(60*(h:Int)+(mi:Int)).toNat,o-720⟩:=⟨by show (0:Int)<=3/\(3:Int)<=6;decide,λe=>absurd e (by show ¬(3:Int)=0;decide),λe=>absurd e (by show ¬(3:Int)=1;decide),λe=>absurd e (by show ¬(3:Int)=4;decide),by show (0:Int)<=w/\(w:Int)<=6;omega,λe=>absurd rfl e,λe=>absurd e (by show ¬((3:Int)=5∨(3:Int)=6);decide),by show (60*(h:Int)+(mi:Int)).toNat<1440;omega,by show -720<=o-720/\o-720<=720;omega⟩
 exact⟨ok,Ve bh bi ok rfl rfl⟩
omit bw in
theorem S9(bd:(1:Int)<=d/\(d:Int)<=24):fF ⟨4,d,0,0,(60*(h:Int)+(mi:Int)).toNat,o-720⟩/\jZ ⟨4,d,0,0,(60*(h:Int)+(mi:Int)).toNat,o-720⟩ (Tx (gj 32 [num mi,num h,num d,[42,32,42]])):=by
 have ok:fF ⟨4,d,0,0,(60*(h:Int)+(mi:Int)).toNat,o-720⟩:=⟨by show (0:Int)<=4/\(4:Int)<=6;decide,λe=>absurd e (by show ¬(4:Int)=0;decide),λe=>absurd e (by show ¬(4:Int)=1;decide),λ_=>bd,by show (0:Int)<=0/\(0:Int)<=6;decide,λ_ e=>absurd rfl e,λe=>absurd e (by show ¬((4:Int)=5∨(4:Int)=6);decide),by show (60*(h:Int)+(mi:Int)).toNat<1440;omega,by show -720<=o-720/\o-720<=720;omega⟩;exact⟨ok,q_4 bh bi ok rfl rfl⟩
theorem SZ(hs:s=5∨s=6):fF ⟨s,0,w,2,(60*(h:Int)+(mi:Int)).toNat,o-720⟩/\jZ ⟨s,0,w,2,(60*(h:Int)+(mi:Int)).toNat,o-720⟩ (Tx (gj 32 [num mi,num h,if s=5 then [50,57,32,50,32,42] else [42,32,50,32]++num w++[35,53]])):=by
 have ok:fF ⟨s,0,w,2,(60*(h:Int)+(mi:Int)).toNat,o-720⟩:=⟨by show 0<=s/\s<=6;omega,λe=>by have e:s=0:=e;omega,λe=>by have e:s=1:=e;omega,λe=>by have e:s=4:=e;omega,by show (0:Int)<=w/\(w:Int)<=6;omega,λ_ _=>by show (1:Int)<=2/\(2:Int)<=12;decide,λ_=>rfl,by show (60*(h:Int)+(mi:Int)).toNat<1440;omega,by show -720<=o-720/\o-720<=720;omega⟩;refine⟨ok,?_⟩;rcases hs with rfl | rfl
 ·exact Zd bh bi ok rfl rfl
 ·exact Ym bh bi ok rfl rfl
end
theorem RO{ds:List Int}(h:Digs ds [6,4,12,11,10,9]):∃d0 d1 d2 d3 d4 d5:Int,ds=[d0,d1,d2,d3,d4,d5]/\(0<=d0/\d0<6)/\(0<=d1/\d1<4)/\(0<=d2/\d2<12)/\(0<=d3/\d3<11)/\(0<=d4/\d4<10)/\0<=d5/\d5<9:=by
 cases h with | cons a0 h=>cases h with | cons a1 h=>cases h with | cons a2 h=>cases h with | cons a3 h=>cases h with | cons a4 h=>cases h with | cons a5 h=>cases h with | nil=>exact⟨_,_,_,_,_,(),a0,a1,a2,a3,a4,a5⟩
theorem BI{H:Hp}{v:V}{z:List Int}(hv:PtA H v z):∀{us:List V} {zs:List (List Int)},Paired (PtA H) us zs->Paired (PtA H) (us++[v]) (zs++[z])
 |_,_,.nil=>.cons hv .nil
 |_,_,.cons x r=>.cons x (BI hv r)
theorem xD{H H':Hp}(s:Same H H'):∀{us:List V} {zs:List (List Int)},Paired (PtA H) us zs->Paired (PtA H') us zs
 |_,_,.nil=>.nil
 |_,_,.cons x r=>.cons (x.keep s) (xD s r)
theorem Vj{H:Hp}{us:List V}{zs:List (List Int)}(h:Paired (PtA H) us zs)(l:zs.length=4):∃(a b c d:Addr) (x y z w:List Int),us=[.ref a,.ref b,.ref c,.ref d]/\zs=[x,y,z,w]/\PtA H (.ref a) x/\PtA H (.ref b) y/\PtA H (.ref c) z/\PtA H (.ref d) w:=by
 have r:∀{v:V} {z:List Int},PtA H v z->∃a,v=.ref a:=λ⟨a,e,_⟩=>⟨a,e⟩;cases h with
 |nil=>cases l
 |cons x0 h=>cases h with
  |nil=>cases l
  |cons x1 h=>cases h with
   |nil=>cases l
   |cons x2 h=>cases h with
    |nil=>cases l
    |cons x3 h=>cases h with
     |cons _ _=>exact absurd l (by simp)
     |nil=>
      obtain⟨a,rfl⟩:=r x0;obtain⟨b,rfl⟩:=r x1;obtain⟨c,rfl⟩:=r x2;obtain⟨d,rfl⟩:=r x3;exact⟨a,b,c,d,_,_,(()),x0,x1,x2,x3⟩
theorem PtA.at{H:Hp}{l:Addr}{z:List Int}(h:PtA H (.ref l) z):∃mi h s d w n o:Int,z=[mi,h,s,d,w,n,o]/\H l=some (.lst [.int mi,.int h,.int s,.int d,.int w,.int n,.int o])/\(0<=mi/\mi<60)/\(0<=h/\h<24)/\(0<=d/\d<20)/\(0<=w/\w<7)/\0<=o/\o<1441:=by
 obtain⟨l',e,hl,mi,h,s,d,w,n,o,rfl,bi,bh,bs,bd,bw,bn,bo⟩:=h;obtain rfl:l=l':=by injection e
 exact⟨mi,h,s,d,w,n,o,rfl,hl,bi,bh,bd,bw,bo⟩
theorem OW{p q:LQ}(op:fF p)(oq:fF q)(p3:p.s≠3/\p.s≠4)(q3:q.s≠3/\q.s≠4)(ne:p.m≠q.m):iM [p,q]:=by
 refine CA (λr hr=>?_) λi j a b ha hb e=>?_
 ·rcases aT.mp hr with rfl | hr
  ·exact⟨op,p3⟩
  ·rw[aW.mp hr];exact⟨oq,q3⟩
 ·match i,j,ha,hb with
  |0,0,ha,hb=>rfl
  |1,1,ha,hb=>rfl
  |0,1,ha,hb=>cases ha;cases hb;exact absurd e ne
  |1,0,ha,hb=>cases ha;cases hb;exact absurd e.symm ne
  |0,j+2,_,hb=>cases hb
  |1,j+2,_,hb=>cases hb
  |i+2,_,ha,_=>cases ha
theorem LqA.ok{H:Hp}{v:V}{q:LQ}(h:LqA H v q):fF q:=by
 obtain⟨_,_,_,_,_,z⟩:=h;exact z
theorem TL{H:Hp}{us:List V}{qs:List LQ}(h:Paired (LqA H) us qs)(h3:∀q∈qs,q.s≠3/\q.s≠4)(nd:(qs.map (·.m)).Nodup):iM qs:=by
 refine CA (λq hq=>⟨uZ h q hq,h3 q hq⟩) λi j p q hp hq e=>?_;have hi:(qs.map (·.m))[i]? =some p.m:=by rw[aX,hp];rfl
 have hj:(qs.map (·.m))[j]? =some p.m:=by rw[aX,hq,e];rfl
 obtain⟨i1,i2⟩:=bB.mp hi;obtain⟨j1,j2⟩:=bB.mp hj;have z:=dZ.mp nd;rcases dJ i j with c | c | c
 ·exact absurd (i2.trans j2.symm) (z i j i1 j1 c)
 ·exact c
 ·exact absurd (j2.trans i2.symm) (z j i j1 i1 c)
structure qG(qs:List LQ)(ns:List Int)(i:Nat):Prop where
 len:ns.length+i=12
 nd:(qs.map (·.m)++ns).Nodup
 lim:∀n∈ns,1<=n/\n<=12
 ok:∀q∈qs,q.s≠3/\q.s≠4
theorem Vn:qG [] [1,2,3,4,5,6,7,8,9,10,11,12] 0:=⟨rfl,by decide +kernel,by decide +kernel,λ_ h=>nomatch h⟩
theorem V4{qs:List LQ}{ns:List Int}{i k:Nat}{q:LQ}(h:qG qs ns i)(hk:ns[k]? =some q.m)(hq:q.s≠3/\q.s≠4):qG (qs++[q]) (ns.eraseIdx k) (i+1):=by
 obtain⟨kl,ke⟩:=bB.mp hk;have pm:ns.Perm (q.m::ns.eraseIdx k):=by
  have e:ns=ns.take k++q.m::ns.drop (k+1):=by
   have z:=List.take_append_drop k ns;rw[List.drop_eq_getElem_cons kl,ke] at z;exact z.symm
  rw[List.eraseIdx_eq_take_drop_succ];have z:(ns.take k++q.m::ns.drop (k+1)).Perm (q.m::(ns.take k++ns.drop (k+1))):=List.perm_middle;rw[←e] at z;exact z
 refine⟨?_,?_,λn hn=>h.lim n (pm.mem_iff.mpr (bM _ hn)),λr hr=>?_⟩
 ·have:=h.len;rw[List.length_eraseIdx,if_pos kl];omega
 ·rw[aY,c7];exact (List.Perm.append_left (qs.map (·.m)) pm).nodup_iff.mp h.nd
 ·rcases bS.mp hr with m | m
  ·exact h.ok r m
  ·rw[aW.mp m];exact hq
theorem Vo{n:Nat}{i:Int}(h0:0<=i)(h1:i<n):seqIndex? i n=some i.toNat:=(Kc (i:=i) (n:=n) (j:=i.toNat) (by unfold kG;rw[if_pos h0,if_pos h1])).1
theorem Tg{q:LQ}{w2 w4:List Nat}{m0 m1 m3:Int}{kd kw:Ko}(ok:fF q)(d2:DT false w2 kd)(d4:DT true w4 kw)(hb:∀k d:Int,0<=k->k<=90->0<=d->(tb (gS m3 kd kw k) d.toNat=true↔(1<=d/\d<=gG k)/\Rk q k d))(od:∀ks,gO false kd=some ks->∀k∈ks,k.ok)(ow:∀ks,gO true kw=some ks->∀k∈ks,k.ok):PQ ⟨m0,m1,m3,gO false kd,gO true kw,q.tm,q.off⟩ q/\qT m3 (gO false kd) (gO true kw)=false:=by
 have e:∀k,0<=k->k<=90->gS m3 (gO false kd) (gO true kw) k=gS m3 kd kw k:=λk h0 h1=>by
  unfold gS;rw[Vv d2 d4 (me h0 h1).2]
 refine⟨⟨λk d h0 h1 hd=>?_,λk h0 h1=>FY od ow h0 h1,rfl,rfl⟩,?_⟩
 ·show tb (gS m3 (gO false kd) (gO true kw) k) d.toNat=true↔_;rw[e k h0 h1];exact hb k d h0 h1 hd
 ·obtain⟨k,d,hk,hd,r⟩:=tK ok;have z:=(hb k d hk.1 hk.2 ⋯).mpr ⟨hd,r⟩;rw[←e k hk.1 hk.2] at z;unfold qT;refine eq_false_of_ne_true λc=>?_;have c:=(cG.mp c) (decide (gS m3 (gO false kd) (gO true kw) ((k.toNat:Nat):Int)=0)) (bG.mpr ⟨k.toNat,bW.mpr ⋯,rfl⟩);have c:=eQ c;rw[bV hk.1] at c;rw[c,ju] at z;cases z
theorem VP{H H':Hp}{A C:Addr}{xs ys:List V}(hA:H A=some (.lst xs))(hC:H C=some (.lst ys))(ne:A≠C)(s:Same (jW H A C) H'):Same H (kx H' A C xs ys):=λb o hb=>by
 by_cases c:b=C
 ·subst c;rw[hC] at hb;injection hb with hb;subst hb;exact fk
 ·by_cases c2:b=A
  ·subst c2;rw[hA] at hb;injection hb with hb;subst hb;exact (fG c).trans fk
  ·rw[nY c2 c];exact s b o (by rw[qt c2 c];exact hb)
theorem Pa{H:Hp}{A C:Addr}{xs ys:List V}(nA:H A=none)(nC:H C=none):Same H (kx H A C xs ys):=λb o hb=>by
 rw[nY (λe=>by rw[e,nA] at hb;cases hb) (λe=>by rw[e,nC] at hb;cases hb)];exact hb
structure jy(E:Int->Int->Prop):Prop where
 off:∀t o,E t o-> -720<=o/\o<=720
 far:∀t o u r,E t o->E u r->(t=u/\o=r)∨4320<=t-u∨4320<=u-t
theorem QG{E:Int->Int->Prop}(ok:jy E){x a b c:Int}(h:iR E x a b c):(-720<=b/\b<=720)/\ -720<=c/\c<=720:=by
 obtain⟨s,e1,e0,_⟩:=h;exact⟨ok.off _ _ e0,ok.off _ _ e1⟩
theorem ID{E:Int->Int->Prop}(ok:jy E){x a b c r a' b' c':Int}(h:iR E x a b c)(h':iR E r a' b' c')(hr:r<=x):(a<=r->a'=a/\b'=b/\c'=c)/\(r<a->a-4320<=r->c'=b/\a'<=a-4320):=by
 obtain⟨s,e1,e0,hs,hx,al⟩:=h;obtain⟨s',e1',e0',hs',hx',al'⟩:=h';have z1:=al _ _ e1' ⋯;have z0:=al _ _ e0' ⋯;have f:=ok.far _ _ _ _ e1 e0;constructor
 ·intro ha;have w1:=al' _ _ e1 ha;have w0:=al' _ _ e0 ⋯;omega
 ·intro ha hb;have w0:=al' _ _ e0 ⋯;omega
theorem VF{qs:List LQ}(hf:iM qs)(ok:∀q∈qs,fF q):jy (EQ qs) where
 off:=λt o ⟨i,q,hq,_,e⟩=>by rw[e];exact (ok q (bA hq)).off
 far:=λt o u r h h'=>rH hf h h'
def Rd(E:Int->Int->Prop)(x t:Int):Prop:=∃a b c,iR E t a b c/\t+c=x
def pe(E:Int->Int->Prop)(x:Int)(ls:List Int):Prop:=ls.Pairwise (·<·)/\∀t,t∈ls↔Rd E x t
theorem Rj{E:Int->Int->Prop}(ok:jy E){x a b c a' b' c' t:Int}(h:iR E (x+720) a b c)(h':iR E (x-720) a' b' c')(r:Rd E x t):t=x-c'∨t=x-c:=by
 obtain⟨a1,b1,c1,h1,e⟩:=r;have o1:=QG ok h1;have ax:a<=x+720:=h.choose_spec.2.2.2.1;have z1:=ID ok h h1 ⋯;have z2:=ID ok h h' ⋯;by_cases k:a<=t
 ·have:=z1.1 k;omega
 ·have w1:=z1.2 ⋯ ⋯;have w2:=z2.2 ⋯ ⋯;omega
theorem RX{E F:Int->Int->Prop}(h:∀t o,E t o↔F t o){x t:Int}:Rd E x t↔Rd F x t:=⟨λ⟨a,b,c,z,e⟩=>⟨a,b,c,Jq h z,e⟩,λ⟨a,b,c,z,e⟩=>⟨a,b,c,Jq (λt o=>(h t o).symm) z,e⟩⟩
theorem FF{E F:Int->Int->Prop}(h:∀t o,E t o↔F t o){x:Int}{ls ms:List Int}(h1:pe E x ls)(h2:pe F x ms):ls=ms:=yb h1.1 h2.1 λt=>(h1.2 t).trans ((RX h).trans (h2.2 t).symm)
structure mC(P:Int->Prop)(zs ls:List Int):Prop where
 sub:ls.Sublist zs
 yes:∀t∈ls,P t
 all:∀t∈zs,P t->t∈ls
theorem I0(P:Int->Prop):mC P [] []:=⟨.slnil,λ_ h=>(nomatch h),λ_ h=>(nomatch h)⟩
theorem Nq{P:Int->Prop}{t:Int}{zs ls:List Int}(h:mC P zs ls)(r:P t):mC P (zs++[t]) (ls++[t]) where
 sub:=h.sub.append (List.Sublist.refl [t])
 yes:=λu hu=>by
  rcases bS.mp hu with m | m
  ·exact h.yes u m
  ·rw[aW.mp m];exact r
 all:=λu hu ru=>by
  rcases bS.mp hu with m | m
  ·exact cM _ (h.all u m ru)
  ·exact bR _ m
theorem KI{P:Int->Prop}{t:Int}{zs ls:List Int}(h:mC P zs ls)(r:¬P t):mC P (zs++[t]) ls where
 sub:=h.sub.trans (List.sublist_append_left _ _)
 yes:=h.yes
 all:=λu hu ru=>by
  rcases bS.mp hu with m | m
  ·exact h.all u m ru
  ·rw[aW.mp m] at ru;exact absurd ru r
theorem Oh{E:Int->Int->Prop}{x t a b c:Int}(h:iR E t a b c)(n:t+c≠x):¬Rd E x t:=λ⟨a',b',c',h',e⟩=>by
 obtain⟨_,_,rfl⟩:=VS h h';exact n e
theorem OD{E F:Int->Int->Prop}(h:∀t o,E t o↔F t o)(ok:jy F):jy E:=⟨λt o e=>ok.off t o ((h t o).mp e),λt o u r e e'=>ok.far t o u r ((h t o).mp e) ((h u r).mp e')⟩
theorem S7{zs ns:List Int}(p:zs.Perm ns)(h:zs.Pairwise (·<=·))(nd:ns.Nodup):zs.Pairwise (·<·):=(List.pairwise_and_iff.mpr ⟨h,p.nodup_iff.mpr nd⟩).imp λ⟨a,b⟩=>by
 rcases c8 a with z | z
 ·exact z
 ·exact absurd z b
theorem Mq{qs:List LQ}{x t:Int}(r:Rd (EQ qs) x t):∃o∈qs.map (·.off),t=x-o:=by
 obtain⟨a,b,c,⟨s,⟨i,q,hq,_,e⟩,_⟩,e2⟩:=r;exact⟨c,bG.mpr ⟨q,bA hq,e.symm⟩,⋯⟩
theorem Rq{qs:List LQ}{x:Int}{zs os rs:List Int}(hpw:zs.Pairwise (·<·))(hm:∀o,o∈zs↔o∈qs.map (·.off))(fl:mC (λo=>Rd (EQ qs) x (x-o)) zs os)(pm:rs.Perm (os.map λo=>x-o))(pw:rs.Pairwise (·<=·)):pe (EQ qs) x rs:=by
 have po:=hpw.sublist fl.sub;refine⟨S7 pm pw ?_,λt=>pm.mem_iff.trans ⟨λh=>?_,λr=>?_⟩⟩
 ·show (os.map λo=>x-o).Pairwise (·≠·);rw[List.pairwise_map];exact po.imp λh e=>by omega
 ·obtain⟨o,ho,rfl⟩:=bG.mp h;exact fl.yes o ho
 ·obtain⟨o,ho,rfl⟩:=Mq r;exact bG.mpr ⟨o,fl.all o ((hm o).mpr ho) r,rfl⟩
inductive S4 (K:FG) (vs:List V) (H:Hp) (Q:VK) (E:XK):Prop
 |mk (y:Int) (_:vs=[.int y]) (_:Q (.bl (gX y)) H)
inductive Xw (K:FG) (vs:List V) (H:Hp) (Q:VK) (E:XK):Prop
 |mk (y m:Int) (_:vs=[.int y,.int m]) (_:(1<=m/\m<=12)) (_:Q (.int (gd y m)) H)
inductive RB (K:FG) (vs:List V) (H:Hp) (Q:VK) (E:XK):Prop
 |mk (v:V) (k:Kd) (_:vs=[v]) (_:KindV K H v k) (_:Q (.bl k.wh) H)
inductive VD (K:FG) (vs:List V) (H:Hp) (Q:VK) (E:XK):Prop
 |mk (d:Int) (_:vs=[.int d]) (_:Q (.int ((d+6)%7)) H)
inductive Qq (K:FG) (vs:List V) (H:Hp) (Q:VK) (E:XK):Prop
 |mk (y m d:Int) (_:vs=[.int y,.int m,.int d]) (_:Q (.int (7*jp y m+(d+6)%7)) H)
inductive Ta (K:FG) (vs:List V) (H:Hp) (Q:VK) (E:XK):Prop
 |mk (l:List Nat) (_:vs=[.str (Tx l)]) (_:l.length<=2000) (_:∀H',Same H H'->Q (.bl (mw l)) H')
inductive TN (K:FG) (vs:List V) (H:Hp) (Q:VK) (E:XK):Prop
 |mk (l:List Nat) (_:vs=[.str (Tx l)]) (_:l.length<=2000) (_:∀H',Same H H'->Q (.bl (jh l)) H')
inductive Wg (K:FG) (vs:List V) (H:Hp) (Q:VK) (E:XK):Prop
 |mk (m n:Int) (_:vs=[.int m,.int n]) (_:(0<=m/\0<=n)) (_:Q (.bl (tb m n.toNat)) H)
inductive UM (K:FG) (vs:List V) (H:Hp) (Q:VK) (E:XK):Prop
 |mk (a:Addr) (zs:List Int) (_:vs=[.ref a]) (_:SqL K H a (zs.map V.int)) (_:(∀z∈zs,0<=z/\z<=100000)) (_:Q (.int (f7 zs)) H)
inductive Zw (K:FG) (vs:List V) (H:Hp) (Q:VK) (E:XK):Prop
 |mk (m:Int) (_:vs=[.int m]) (_:(0<=m/\Builtin.Int.intBits m<=100000)) (_:∀(p:Addr) (H':Hp),Same H H'->H' p=some (.lst ((kF m).map V.int))->Q (.ref p) H')
inductive XS (K:FG) (vs:List V) (H:Hp) (Q:VK) (E:XK):Prop
 |mk (a b s:Int) (_:vs=[.int a,.int b,.int s]) (_:(0<=a/\a<=1000)) (_:(-1<=b/\b<=1000)) (_:(0<s/\s<=1000)) (_:∀H',Same H H'->Q (.int (j9 a b s)) H')
inductive QO (K:FG) (vs:List V) (H:Hp) (Q:VK) (E:XK):Prop
 |mk (l:List Nat) (lo hi:Int) (_:vs=[.str (Tx l),.int lo,.int hi]) (_:l.length<=600) (_:∀H',Same H H'->Q (oV (gx lo hi l)) H')
inductive Wp (K:FG) (vs:List V) (H:Hp) (Q:VK) (E:XK):Prop
 |mk (l:List Nat) (lo hi:Int) (_:vs=[.str (Tx l),.int lo,.int hi]) (_:l.length<=500) (_:∀(r:V) (H':Hp),Same H H'->vp H' r (iN lo hi l)->Q r H')
inductive YJ (K:FG) (vs:List V) (H:Hp) (Q:VK) (E:XK):Prop
 |mk (r s:List Nat) (lo hi:Int) (_:vs=[.str (Tx r),.str (Tx s),.int lo,.int hi]) (_:r.length<=400) (_:s.length<=400) (_:(0<=lo/\lo<=hi/\hi<=1000)) (_:∀H',Same H H'->Q (oV (jO lo hi r s)) H')
inductive X8 (K:FG) (vs:List V) (H:Hp) (Q:VK) (E:XK):Prop
 |mk (l:List Nat) (lo hi:Int) (_:vs=[.str (Tx l),.int lo,.int hi]) (_:l.length<=300) (_:(0<=lo/\lo<=hi/\hi<=1000)) (_:∀H',Same H H'->Q (oV (gA lo hi l)) H')
inductive ZK (K:FG) (vs:List V) (H:Hp) (Q:VK) (E:XK):Prop
 |mk (l:List Nat) (lo hi:Int) (_:vs=[.str (Tx l),.int lo,.int hi]) (_:l.length<=300) (_:(0<=lo/\lo<=hi/\hi<=1000)) (_:K2 lo hi l) (_:∀H',Same H H'->Q (.int (gm (l7 lo hi l))) H')
inductive YG (K:FG) (vs:List V) (H:Hp) (Q:VK) (E:XK):Prop
 |mk (d f:Int) (_:vs=[.int d,.int f]) (_:Q (.int ((f+d-1)%7)) H)
inductive O0 (K:FG) (vs:List V) (H:Hp) (Q:VK) (E:XK):Prop
 |mk (l:Int) (_:vs=[.int l]) (_:(28<=l/\l<=31)) (_:Q (.int (2*2^l.toNat-2)) H)
inductive Yt (K:FG) (vs:List V) (H:Hp) (Q:VK) (E:XK):Prop
 |mk (d l f:Int) (_:vs=[.int d,.int l,.int f]) (_:Q (.int (nw d l f)) H)
inductive Oy (K:FG) (vs:List V) (H:Hp) (Q:VK) (E:XK):Prop
 |mk (w f:Int) (_:vs=[.int w,.int f]) (_:Q (.int (1+(w-f)%7)) H)
inductive Qx (K:FG) (C:Addr) (vs:List V) (H:Hp) (Q:VK) (E:XK):Prop
 |mk (p:Addr) (l f:Int) (_:vs=[.ref p,.int l,.int f]) (_:Q (.int 0) H)
inductive Zi (K:FG) (C:Addr) (vs:List V) (H:Hp) (Q:VK) (E:XK):Prop
 |mk (p dx:Addr) (m:Int) (_:vs=[.ref p,.int m]) (_:H p=some (.ins C dx [])) (_:Q .non (upd H p (.ins C dx [("mask",.int m)])))
inductive WB (K:FG) (C:Addr) (vs:List V) (H:Hp) (Q:VK) (E:XK):Prop
 |mk (p dx:Addr) (m l f:Int) (_:vs=[.ref p,.int l,.int f]) (_:H p=some (.ins C dx [("mask",.int m)])) (_:Lf l f) (_:Q (.int (kP m l)) H)
inductive Yz (K:FG) (C:Addr) (vs:List V) (H:Hp) (Q:VK) (E:XK):Prop
 |mk (p dx:Addr) (m:Int) (_:vs=[.ref p,.int m]) (_:H p=some (.ins C dx [])) (_:Q .non (upd H p (.ins C dx [("back",.int m)])))
inductive Rw (K:FG) (C:Addr) (vs:List V) (H:Hp) (Q:VK) (E:XK):Prop
 |mk (p dx:Addr) (b l f:Int) (_:vs=[.ref p,.int l,.int f]) (_:H p=some (.ins C dx [("back",.int b)])) (_:(0<=b/\b<=30)) (_:Lf l f) (_:Q (.int (mr b l)) H)
inductive QC (K:FG) (C:Addr) (vs:List V) (H:Hp) (Q:VK) (E:XK):Prop
 |mk (p dx:Addr) (m:Int) (_:vs=[.ref p,.int m]) (_:H p=some (.ins C dx [])) (_:Q .non (upd H p (.ins C dx [("day",.int m)])))
inductive QN (K:FG) (C:Addr) (vs:List V) (H:Hp) (Q:VK) (E:XK):Prop
 |mk (p dx:Addr) (d l f:Int) (_:vs=[.ref p,.int l,.int f]) (_:H p=some (.ins C dx [("day",.int d)])) (_:qE d l f) (_:Q (.int (mO d l f)) H)
inductive Vb (K:FG) (C:Addr) (vs:List V) (H:Hp) (Q:VK) (E:XK):Prop
 |mk (p dx:Addr) (l f:Int) (_:vs=[.ref p,.int l,.int f]) (_:H p=some (.ins C dx [])) (_:qE l l f) (_:Q (.int (1*2^(nw l l f).toNat)) H)
inductive YW (K:FG) (C:Addr) (vs:List V) (H:Hp) (Q:VK) (E:XK):Prop
 |mk (p dx:Addr) (m:Int) (_:vs=[.ref p,.int m]) (_:H p=some (.ins C dx [])) (_:Q .non (upd H p (.ins C dx [("mask",.int m)])))
inductive X5 (K:FG) (C:Addr) (vs:List V) (H:Hp) (Q:VK) (E:XK):Prop
 |mk (p dx:Addr) (m l f:Int) (_:vs=[.ref p,.int l,.int f]) (_:H p=some (.ins C dx [("mask",.int m)])) (_:(0<=m/\m<=127)) (_:Lf l f) (_:Q (.int (kb m l f)) H)
inductive RV (K:FG) (C:Addr) (vs:List V) (H:Hp) (Q:VK) (E:XK):Prop
 |mk (p dx:Addr) (w m:Int) (_:vs=[.ref p,.int w,.int m]) (_:H p=some (.ins C dx [])) (_:Q .non (upd (upd H p (.ins C dx (fK "weekday" (.int w) []))) p (.ins C dx (lT w m))))
inductive OB (K:FG) (C:Addr) (vs:List V) (H:Hp) (Q:VK) (E:XK):Prop
 |mk (p dx:Addr) (w m l f:Int) (_:vs=[.ref p,.int l,.int f]) (_:H p=some (.ins C dx (lT w m))) (_:(0<=w/\w<=6)) (_:(1<=m/\m<=5)) (_:Lf l f) (_:Q (.int (ky w m l f)) H)
inductive XI (K:FG) (C:Addr) (vs:List V) (H:Hp) (Q:VK) (E:XK):Prop
 |mk (p dx:Addr) (m:Int) (_:vs=[.ref p,.int m]) (_:H p=some (.ins C dx [])) (_:Q .non (upd H p (.ins C dx [("weekday",.int m)])))
inductive XH (K:FG) (C:Addr) (vs:List V) (H:Hp) (Q:VK) (E:XK):Prop
 |mk (p dx:Addr) (w l f:Int) (_:vs=[.ref p,.int l,.int f]) (_:H p=some (.ins C dx [("weekday",.int w)])) (_:(0<=w/\w<=6)) (_:Lf l f) (_:Q (.int (GY w l f)) H)
inductive ZR (K:FG) (vs:List V) (H:Hp) (Q:VK) (E:XK):Prop
 |mk (b:Addr) (ps:List Addr) (ks:List Mk) (l f:Int) (_:vs=[.ref b,.int l,.int f]) (_:SqL K H b (ps.map V.ref)) (_:Ft (MkAt ij H) ps ks) (_:(∀k∈ks,k.ok)) (_:Lf l f) (_:Q (.int (jt ks l f)) H)
inductive O2 (K:FG) (vs:List V) (H:Hp) (Q:VK) (E:XK):Prop
 |mk (t:List Nat) (_:vs=[.str (Tx t)]) (_:t.length<=300) (_:∀(v:V) (H':Hp),Same H H'->Br ij H' v (jR t)->Q v H')
inductive O7 (K:FG) (vs:List V) (H:Hp) (Q:VK) (E:XK):Prop
 |mk (t:List Nat) (_:vs=[.str (Tx t)]) (_:t.length<=300) (_:∀H',Same H H'->Q (oV (kz t)) H')
inductive Pb (K:FG) (vs:List V) (H:Hp) (Q:VK) (E:XK):Prop
 |mk (t:List Nat) (_:vs=[.str (Tx t)]) (_:t.length<=300) (_:∀(v:V) (H':Hp),Same H H'->Br ij H' v (lG t)->Q v H')
inductive Sr (K:FG) (aK aL:Addr) (vs:List V) (H:Hp) (Q:VK) (E:XK):Prop
 |mk (l:List Nat) (lo hi:Int) (wk:Bool) (_:vs=[.str (Tx l),.int lo,.int hi,.ref (if wk=true then aL else aK)]) (_:(0<=lo/\lo<=hi/\hi<=1000)) (_:gP wk lo hi l) (_:∀(p m:Addr) (qs:List Addr) (H':Hp),H m=none->Same H H'->H' p=some (.tup [.int (gm (gU lo hi (fv 44 l))),.ref m])->H' m=some (.lst (qs.map V.ref))->Ft (MkAt ij H') qs (ip wk lo hi (fv 44 l))->Q (.ref p) H')
inductive Zh (K:FG) (vs:List V) (H:Hp) (Q:VK) (E:XK):Prop
 |mk (l:List Nat) (_:vs=[.str (Tx l)]) (_:gP false 1 31 l) (_:(l=[42]->∀H',Same H H'->Q .non H')) (_:(l≠[42]->∀(m:Addr) (qs:List Addr) (H':Hp),H m=none->Same H H'->H' m=some (.lst (qs.map V.ref))->Ft (MkAt ij H') qs (nk false 1 31 l)->Q (.ref m) H'))
inductive T5 (K:FG) (vs:List V) (H:Hp) (Q:VK) (E:XK):Prop
 |mk (l:List Nat) (_:vs=[.str (Tx l)]) (_:gP true 0 7 l) (_:(l=[42]->∀H',Same H H'->Q .non H')) (_:(l≠[42]->∀(m:Addr) (qs:List Addr) (H':Hp),H m=none->Same H H'->H' m=some (.lst (qs.map V.ref))->Ft (MkAt ij H') qs (nk true 0 7 l)->Q (.ref m) H'))
inductive XA (K:FG) (vs:List V) (H:Hp) (Q:VK) (E:XK):Prop
 |mk (k:Int) (_:vs=[.int k]) (_:(0<=k/\k<=90)) (_:∀(p:Addr) (H':Hp),Same H H'->H' p=some (.tup ((nr k).map V.int))->Q (.ref p) H')
inductive Rm (K:FG) (vs:List V) (H:Hp) (Q:VK) (E:XK):Prop
 |mk (h m:Int) (_:vs=[.int h,.int m]) (_:(0<=h/\h<2^24)) (_:(0<=m/\m<2^60)) (_:∀(t:Int) (H':Hp),t=iG h m->Same H H'->Q (.int t) H')
inductive WQ (K:FG) (vs:List V) (H:Hp) (Q:VK) (E:XK):Prop
 |mk (dv wv:V) (kd kw:Ko) (l f:Int) (_:vs=[dv,wv,.int l,.int f]) (_:DV ij H dv kd) (_:DV ij H wv kw) (_:Lf l f) (_:∀H',Same H H'->Q (.int (iK kd kw l f)) H')
inductive Wf (K:FG) (C:Addr) (vs:List V) (H:Hp) (Q:VK) (E:XK):Prop
 |mk (p dx fa:Addr) (m0 m1 m3:Int) (dv wv:V) (_:vs=[.ref p,.ref fa]) (_:H p=some (.ins C dx [])) (_:H fa=some (.lst [.int m0,.int m1,dv,.int m3,wv])) (_:(0<=m0/\m0<2^60)) (_:(0<=m1/\m1<2^24)) (_:∀(tm:Int) (H':Hp),tm=iG m1 m0->H' p=some (.ins C dx (ic m0 m1 dv m3 wv tm))->(∀b o,H b=some o->b≠p->H' b=some o)->Q .non H')
inductive Yn (K:FG) (C:Addr) (vs:List V) (H:Hp) (Q:VK) (E:XK):Prop
 |mk (p dx:Addr) (m0 m1 m3 tm k:Int) (dv wv:V) (kd kw:Ko) (_:vs=[.ref p,.int k]) (_:H p=some (.ins C dx (ic m0 m1 dv m3 wv tm))) (_:(0<=k/\k<=90)) (_:0<=m3) (_:DV ij H dv kd) (_:DV ij H wv kw) (_:∀H',Same H H'->Q (.int (if tb m3 (jg k).toNat=true then iK kd kw (gG k) (k%7) else 0)) H')
inductive Tp (K:FG) (vs:List V) (H:Hp) (Q:VK) (E:XK):Prop
 |mk (t:List Nat) (pl:Int) (_:vs=[.str (Tx t),.int pl]) (_:((pl=2/\∃ko,DT false t ko/\∀(v:V) (H':Hp),Same H H'->DV ij H' v (gO false ko)->(∀p,v=.ref p->H p=none)->Q v H')∨(pl=4/\∃ko,DT true t ko/\∀(v:V) (H':Hp),Same H H'->DV ij H' v (gO true ko)->(∀p,v=.ref p->H p=none)->Q v H')∨(∃lo hi m:Int,(pl=0/\lo=0/\hi=59∨pl=1/\lo=0/\hi=23∨pl=3/\lo=1/\hi=12)/\FT lo hi t m/\∀H',Same H H'->Q (.int m) H')))
inductive OX (K:FG) (vs:List V) (H:Hp) (Q:VK) (E:XK):Prop
 |mk (t:List Nat) (pl:Int) (_:vs=[.str (Tx t),.int pl]) (_:((pl=2/\∃ko,DT false t ko/\∀(v:V) (H':Hp),Same H H'->DV ij H' v (gO false ko)->(∀p,v=.ref p->H p=none)->Q v H')∨(pl=4/\∃ko,DT true t ko/\∀(v:V) (H':Hp),Same H H'->DV ij H' v (gO true ko)->(∀p,v=.ref p->H p=none)->Q v H')∨(∃lo hi m:Int,(pl=0/\lo=0/\hi=59∨pl=1/\lo=0/\hi=23∨pl=3/\lo=1/\hi=12)/\FT lo hi t m/\∀H',Same H H'->Q (.int m) H')))
inductive Zm (K:FG) (vs:List V) (H:Hp) (Q:VK) (E:XK):Prop
 |mk (w0 w1 w2 w3 w4:List Nat) (m0 m1 m3:Int) (kd kw:Ko) (_:vs=[.str (Tx (gj 32 [w0,w1,w2,w3,w4]))]) (_:FT 0 59 w0 m0) (_:FT 0 23 w1 m1) (_:FT 1 12 w3 m3) (_:DT false w2 kd) (_:DT true w4 kw) (_:(m0<2^60/\m1<2^24)) (_:∀(x dx:Addr) (dv wv:V) (tm:Int) (H':Hp),tm=iG m1 m0->Same H H'->H' x=some (.ins aA dx (ic m0 m1 dv m3 wv tm))->DV ij H' dv (gO false kd)->DV ij H' wv (gO true kw)->Q (.ref x) H')
inductive Qy (K:FG) (C:Addr) (vs:List V) (H:Hp) (Q:VK) (E:XK):Prop
 |mk (p dx:Addr) (m0 m1 m3 tm:Int) (dv wv:V) (_:vs=[.ref p]) (_:H p=some (.ins C dx (ic m0 m1 dv m3 wv tm))) (_:Q (.int tm) H)
inductive VO (K:FG) (vs:List V) (H:Hp) (Q:VK) (E:XK):Prop
 |mk (m:Int) (k:Nat) (_:vs=[.int m]) (_:0<m) (_:tb m k=true) (_:(∀j,j<k->tb m j=false)) (_:Q (.int k) H)
inductive OS (K:FG) (vs:List V) (H:Hp) (Q:VK) (E:XK):Prop
 |mk (a:Addr) (k:Int) (_:vs=[.ref a,.int k]) (_:(∃ns:List Int,SqL K H a (ns.map V.int))) (_:(0<=k/\k<1000)) (_:∀c:Int,Q (.int c) H)
inductive Zk (K:FG) (vs:List V) (H:Hp) (Q:VK) (E:XK):Prop
 |mk (n:Int) (_:vs=[.int n]) (_:∀r:Int,0<=r->r<2147483629->Q (.int r) H)
inductive WH (K:FG) (vs:List V) (H:Hp) (Q:VK) (E:XK):Prop
 |mk (c:Int) (a:Addr) (b:Bool) (ss:List Int) (_:vs=[.int c,.ref a,.bl b]) (_:SqL K H a (ss.map V.int)) (_:(∀z∈ss,0<z/\z<1073741824)) (_:ss.length<=63) (_:∀(ds:List Int) (p:Addr) (H':Hp),Same H H'->H' p=some (.lst (ds.map V.int))->Digs ds ss->Q (.ref p) H')
inductive Wm (K:FG) (vs:List V) (H:Hp) (Q:VK) (E:XK):Prop
 |mk (i:Int) (_:vs=[.int i]) (_:Q (.bl true) H)
inductive Wa (K:FG) (vs:List V) (H:Hp) (Q:VK) (E:XK):Prop
 |mk (p:Addr) (m0 m1 m3:Int) (kd kw:Ko) (_:vs=[.ref p]) (_:RowR ij aA H p m0 m1 m3 kd kw) (_:∀H',Same H H'->Q (.bl (qT m3 kd kw)) H')
inductive Wd (K:FG) (vs:List V) (H:Hp) (Q:VK) (E:XK):Prop
 |mk  (_:vs=[]) (_:∀(l:Addr) (us:List V) (H':Hp),H l=none->Same H H'->H' l=some (.lst us)->Paired (gI H') us (jP 4800)->Q (.ref l) H')
inductive Wz (K:FG) (vs:List V) (H:Hp) (Q:VK) (E:XK):Prop
 |mk (l:Addr) (us:List V) (ps:List (Int×Int)) (mo:Int) (n:Nat) (_:vs=[.ref l,.int mo]) (_:SqL K H l us) (_:Paired (gI H) us ps) (_:n<=ps.length) (_:(∀(i:Nat) p,ps[i]? =some p->i<n->p.1<=mo)) (_:(∀(i:Nat) p,ps[i]? =some p->n<=i->mo<p.1)) (_:Q (.int ((n:Int)-1)) H)
inductive Xk (K:FG) (vs:List V) (H:Hp) (Q:VK) (E:XK):Prop
 |mk (l:Addr) (us:List V) (ps:List (Int×Int)) (_:vs=[.ref l]) (_:H l=some (.lst us)) (_:Paired (gI H) us ps) (_:k9 ps) (_:∀H',Same H H'->Q .non H')
inductive Sk (K:FG) (vs:List V) (H:Hp) (Q:VK) (E:XK):Prop
 |mk (l:Addr) (us:List V) (Ps:List gz) (k:Int) (_:vs=[.ref l,.int k]) (_:H l=some (.tup us)) (_:Paired (PutAt H) us Ps) (_:(0<=k/\k<=90)) (_:(page Ps k).Nodup) (_:(page Ps k).length<64) (_:∀(l':Addr) (us':List V) (ps':List (Int×Int)) (H':Hp),H l'=none->Same H H'->H' l'=some (.lst us')->Paired (gI H') us' ps'->ps'.Perm (page Ps k)->ps'.Pairwise (λa b=>hV a b=true)->Q (.ref l') H')
inductive Z2 (K:FG) (vs:List V) (H:Hp) (Q:VK) (E:XK):Prop
 |mk (l:Addr) (us:List V) (Ps:List gz) (pg:Int->List (Int×Int)) (t0:Int×Int) (tr:List (Int×Int)) (_:vs=[.ref l]) (_:H l=some (.tup us)) (_:Paired (PutAt H) us Ps) (_:mD Ps pg) (_:gQ pg 4800=t0::tr) (_:k9 (gQ pg 4800++[(t0.1+210379680,t0.2)])) (_:∀(l':Addr) (us':List V) (H':Hp),Same H H'->H' l'=some (.lst us')->Paired (gI H') us' (gQ pg 4800)->Q (.ref l') H')
inductive W2 (K:FG) (vs:List V) (H:Hp) (Q:VK) (E:XK):Prop
 |mk (i:Int) (_:vs=[.int i]) (_:(-720<=i/\i<=720)) (_:Q (.int i) H)
inductive SQ (K:FG) (vs:List V) (H:Hp) (Q:VK) (E:XK):Prop
 |mk (t x:Addr) (P:gz) (_:vs=[.ref t]) (_:H t=some (.tup [.ref x,.int P.off])) (_:PutX H (.ref t) P) (_:∀(T:Addr) (H':Hp),Same H H'->H' T=some (.tup [.ref x,.int P.off])->Q (.ref T) H')
inductive WJ (K:FG) (vs:List V) (H:Hp) (Q:VK) (E:XK):Prop
 |mk (l:Addr) (us:List V) (Ps:List gz) (G:Hp) (_:vs=[.ref l]) (_:H l=some (.lst us)) (_:Same G H) (_:Paired (PutY G H) us Ps) (_:(1<=Ps.length/\Ps.length<=4)) (_:∀(T:Addr) (us':List V) (H':Hp),Same H H'->H' T=some (.tup us')->Paired (PutY G H') us' Ps->Q (.ref T) H')
inductive Q5 (K:FG) (C:Addr) (vs:List V) (H:Hp) (Q:VK) (E:XK):Prop
 |mk (p dx:Addr) (b:Int) (_:vs=[.ref p,.int b]) (_:H p=some (.ins aD dx [])) (_:(-720<=b/\b<=720)) (_:Q .non (upd H p (.ins aD dx (kZ b))))
inductive Sh (K:FG) (C:Addr) (vs:List V) (H:Hp) (Q:VK) (E:XK):Prop
 |mk (p dx:Addr) (b m:Int) (_:vs=[.ref p,.int m]) (_:H p=some (.ins aD dx (kZ b))) (_:Q (.int b) H)
inductive QR (K:FG) (C:Addr) (vs:List V) (H:Hp) (Q:VK) (E:XK):Prop
 |mk (p dx:Addr) (b m:Int) (_:vs=[.ref p,.int m]) (_:H p=some (.ins aD dx (kZ b))) (_:Q (.int (m+b)) H)
inductive SD (K:FG) (C:Addr) (vs:List V) (H:Hp) (Q:VK) (E:XK):Prop
 |mk (p dx l:Addr) (us:List V) (Ps:List gz) (qs:List LQ) (_:vs=[.ref p,.ref l]) (_:H p=some (.ins aB dx [])) (_:H l=some (.lst us)) (_:Paired (PutY (gK H p) H) us Ps) (_:Paired PQ Ps qs) (_:(1<=Ps.length/\Ps.length<=4)) (_:(∀q∈qs,fF q)) (_:iM qs) (_:∀(T:List (Int×Int)) (H':Hp),ClkAt H' p T->(∀t o,kY T t o↔EQ qs t o)->(∀b o,H b=some o->b≠p->H' b=some o)->Q .non H')
inductive SU (K:FG) (C:Addr) (vs:List V) (H:Hp) (Q:VK) (E:XK):Prop
 |mk (p:Addr) (T:List (Int×Int)) (m:Int) (_:vs=[.ref p,.int m]) (_:ClkAt H p T) (_:∀(a b c:Int) (t:Addr) (H':Hp),iR (kY T) m a b c->H t=none->Same H H'->H' t=some (.tup [.int a,.int b,.int c])->Q (.ref t) H')
inductive Pu (K:FG) (C:Addr) (vs:List V) (H:Hp) (Q:VK) (E:XK):Prop
 |mk (p:Addr) (T:List (Int×Int)) (m:Int) (_:vs=[.ref p,.int m]) (_:ClkAt H p T) (_:∀(a b c:Int) (H':Hp),iR (kY T) m a b c->Same H H'->Q (.int c) H')
inductive SM (K:FG) (C:Addr) (vs:List V) (H:Hp) (Q:VK) (E:XK):Prop
 |mk (p:Addr) (T:List (Int×Int)) (m:Int) (_:vs=[.ref p,.int m]) (_:ClkAt H p T) (_:∀(a b c:Int) (H':Hp),iR (kY T) m a b c->Same H H'->Q (.int (m+c)) H')
inductive OM (K:FG) (vs:List V) (H:Hp) (Q:VK) (E:XK):Prop
 |mk (p:Addr) (x:Int) (_:vs=[.ref p,.int x]) (_:((∃T,ClkAt H p T/\jy (kY T)/\∀(l:Addr) (ls:List Int) (H':Hp),H l=none->Same H H'->H' l=some (.lst (ls.map V.int))->pe (kY T) x ls->Q (.ref l) H')∨(∃dx b,H p=some (.ins aD dx (kZ b))/\∀(l:Addr) (H':Hp),H l=none->Same H H'->H' l=some (.lst ([x-b].map V.int))->Q (.ref l) H')))
inductive Rv (K:FG) (vs:List V) (H:Hp) (Q:VK) (E:XK):Prop
 |mk (y:Int) (_:vs=[.int y]) (_:Q (.int (db y)) H)
inductive Rx (K:FG) (vs:List V) (H:Hp) (Q:VK) (E:XK):Prop
 |mk (y m:Int) (_:vs=[.int y,.int m]) (_:(1<=m/\m<=12)) (_:∀H',Same H H'->Q (.int (gd y m)) H')
inductive Pk (K:FG) (vs:List V) (H:Hp) (Q:VK) (E:XK):Prop
 |mk (n:Int) (_:vs=[.int n]) (_:∀y:Int,db y<=n->n<db (y+1)->Q (.int y) H)
inductive Tt (K:FG) (vs:List V) (H:Hp) (Q:VK) (E:XK):Prop
 |mk (l:Addr) (z:List Int) (m:Int) (_:vs=[.ref l,.int m]) (_:PtA H (.ref l) z) (_:(1<=m/\m<=12)) (_:∀(v:V) (q:LQ) (H':Hp),Same H H'->LqA H' v q->(q.s≠3/\q.s≠4)->q.m=m->Q v H')
inductive QU (K:FG) (vs:List V) (H:Hp) (Q:VK) (E:XK):Prop
 |mk (l:Addr) (mi h s d w0 n o w:Int) (_:vs=[.ref l,.int w]) (_:H l=some (.lst [.int mi,.int h,.int s,.int d,.int w0,.int n,.int o])) (_:(0<=mi/\mi<60)) (_:(0<=h/\h<24)) (_:(0<=w/\w<7)) (_:(0<=o/\o<1441)) (_:∀(v:V) (H':Hp),Same H H'->LqA H' v ⟨3,0,w,0,(60*h+mi).toNat,o-720⟩->Q v H')
inductive PX (K:FG) (vs:List V) (H:Hp) (Q:VK) (E:XK):Prop
 |mk (l:Addr) (z:List Int) (d:Int) (_:vs=[.ref l,.int d]) (_:PtA H (.ref l) z) (_:(1<=d/\d<=24)) (_:∀(v:V) (q:LQ) (H':Hp),Same H H'->LqA H' v q->q.s=4->q.n=d->Q v H')
inductive VT (K:FG) (vs:List V) (H:Hp) (Q:VK) (E:XK):Prop
 |mk (l:Addr) (z:List Int) (_:vs=[.ref l]) (_:PtA H (.ref l) z) (_:∀(v:V) (q:LQ) (H':Hp),Same H H'->LqA H' v q->(q.s=5∨q.s=6)->q.m=2->Q v H')
inductive V6 (K:FG) (vs:List V) (H:Hp) (Q:VK) (E:XK):Prop
 |mk (l:Addr) (cs:List Int) (b:Bool) (_:vs=[.ref l,.bl b]) (_:H l=some (.lst (cs.map V.int))) (_:cs.length=5) (_:∀(t:Addr) (qs:List LQ) (H':Hp),Same H H'->H t=none->PuA H' t qs->Q (.ref t) H')
inductive TU (K:FG) (vs:List V) (H:Hp) (Q:VK) (E:XK):Prop
 |mk (t:Addr) (x:Str) (q:LQ) (Y:Int) (_:vs=[.ref t,.int Y]) (_:H t=some (.tup (qv q x))) (_:tV q) (_:∀H',Same H H'->Q (qe q (12*Y+q.m-1)) H')
inductive OP (K:FG) (vs:List V) (H:Hp) (Q:VK) (E:XK):Prop
 |mk (t:Addr) (q:LQ) (x:Int) (_:vs=[.ref t,.int x]) (_:LqA H (.ref t) q) (_:∀(l:Addr) (u1 u0:Int) (H':Hp),H l=none->Same H H'->H' l=some (.lst [.int u1,.int u0])->qh q x u1 u0->Q (.ref l) H')
inductive X7 (K:FG) (vs:List V) (H:Hp) (Q:VK) (E:XK):Prop
 |mk (l:Addr) (qs:List LQ) (x:Int) (_:vs=[.ref l,.int x]) (_:PuA H l qs) (_:∀(a b c:Int) (t:Addr) (H':Hp),H t=none->iR (EQ qs) x a b c->Same H H'->H' t=some (.tup [.int a,.int b,.int c])->Q (.ref t) H')
inductive Vq (K:FG) (vs:List V) (H:Hp) (Q:VK) (E:XK):Prop
 |mk (c:Int) (l:Addr) (qs:List LQ) (b:Bool) (_:vs=[.int c,.ref l,.bl b]) (_:PuA H l qs) (_:∀(z:Int) (H':Hp),Same H H'->Q (.int z) H')
inductive Vu (K:FG) (vs:List V) (H:Hp) (Q:VK) (E:XK):Prop
 |mk (l:Addr) (qs:List LQ) (x:Int) (_:vs=[.ref l,.int x]) (_:PuA H l qs) (_:∀(a b c:Int) (H':Hp),iR (EQ qs) x a b c->Same H H'->Q (.int (x+c)) H')
inductive Sd (K:FG) (vs:List V) (H:Hp) (Q:VK) (E:XK):Prop
 |mk (l:Addr) (qs:List LQ) (_:vs=[.ref l]) (_:PuA H l qs) (_:∀(p:Addr) (H':Hp),Same H H'->CkA H' p qs->Q (.ref p) H')
inductive ZX (K:FG) (vs:List V) (H:Hp) (Q:VK) (E:XK):Prop
 |mk (l:Addr) (qs:List LQ) (x:Int) (_:vs=[.ref l,.int x]) (_:PuA H l qs) (_:∀(m:Addr) (ls:List Int) (H':Hp),H m=none->Same H H'->H' m=some (.lst (ls.map V.int))->pe (EQ qs) x ls->Q (.ref m) H')
inductive QZ (K:FG) (vs:List V) (H:Hp) (Q:VK) (E:XK):Prop
 |mk (p l:Addr) (qs:List LQ) (x:Int) (_:vs=[.ref p,.ref l,.int x]) (_:CkA H p qs) (_:PuA H l qs) (_:∀H',Same H H'->Q (.bl true) H')
inductive ro (K:FG) (vs:List V) (H:Hp) (Q:VK) (E:XK):Prop
 |mk (a:Addr) (ns:List Int) (_:vs=[.ref a]) (_:SqL K H a (ns.map V.int)) (_:ns.length<=63) (_:∀H',Q (.bl true) H')
theorem md_Last___init__{K:FG}{C f T:Addr}{od an tod:Option Addr}{sl tsl:Array (Option Value)}{oc kV dc pm cd ct:Value}{tn:Nat}{t0:Tok}(a:PySem.W.findIn K (.ref C) "__init__"=some (some (.ref f)))(i:PySem.W.isFn K (.ref f)=true)(l:K.lookup f=some ⟨oc,od,.func (PySem.W.fnOf "__init__" "Last.__init__" (jx oH) (i5 oH) (ft oH) (.ref T) kV dc pm an cd ct),sl⟩)(c:PySem.W.codeIn K cd "Last.__init__"=true)(k:PySem.W.keepIn K (.ref f)=true)(lt:K.lookup T=some ⟨.type "tuple",tod,.seq #[.int 0 t0] tn,tsl⟩):FnMD K C "__init__" "Last.__init__" oH ["self","back"] [.int 0]:=
 B8 (ds:=[.int 0 t0]) a i l c k (λs us X hl=>match us,(show us.length=2 by simpa using hl) with | [_,_],_=>PySem.W.binds_K X rfl lt rfl rfl rfl) (.cons ⟨()⟩ .nil) (λs us X hl=>match us,(show us.length=1 by simpa using hl) with | [_],_=>PySem.W.binds_K X rfl lt rfl rfl rfl)
theorem md_Clock___init__{K:FG}{C f T:Addr}{od an tod:Option Addr}{sl tsl:Array (Option Value)}{oc kV dc pm cd ct:Value}{tn:Nat}{t0:Tok}(a:PySem.W.findIn K (.ref C) "__init__"=some (some (.ref f)))(i:PySem.W.isFn K (.ref f)=true)(l:K.lookup f=some ⟨oc,od,.func (PySem.W.fnOf "__init__" "Clock.__init__" (jx oR) (i5 oR) (ft oR) (.ref T) kV dc pm an cd ct),sl⟩)(c:PySem.W.codeIn K cd "Clock.__init__"=true)(k:PySem.W.keepIn K (.ref f)=true)(lt:K.lookup T=some ⟨.type "tuple",tod,.seq #[.int 0 t0] tn,tsl⟩):FnMD K C "__init__" "Clock.__init__" oR ["self","base"] [.int 0]:=
 B8 (ds:=[.int 0 t0]) a i l c k (λs us X hl=>match us,(show us.length=2 by simpa using hl) with | [_,_],_=>PySem.W.binds_K X rfl lt rfl rfl rfl) (.cons ⟨()⟩ .nil) (λs us X hl=>match us,(show us.length=1 by simpa using hl) with | [_],_=>PySem.W.binds_K X rfl lt rfl rfl rfl)
theorem q_MONTH_LASTS{K:FG}{a:Addr}{od:Option Addr}{sl:Array (Option Value)}{n:Nat}{t0 t1 t2 t3 t4 t5 t6 t7 t8 t9 t10 t11:Tok}(l:K.lookup a=some ⟨.type "tuple",od,.seq #[.int 31 t0,.int 28 t1,.int 31 t2,.int 30 t3,.int 31 t4,.int 30 t5,.int 31 t6,.int 31 t7,.int 30 t8,.int 31 t9,.int 30 t10,.int 31 t11] n,sl⟩):∀H,SqT K H a (([31,28,31,30,31,30,31,31,30,31,30,31]:List Int).map V.int):=λH=>.inr ⟨_,_,_,l,rfl,rfl,(zL 12),(.cons ⟨()⟩ (.cons ⟨()⟩ (.cons ⟨()⟩ (.cons ⟨()⟩ (.cons ⟨()⟩ (.cons ⟨()⟩ (.cons ⟨()⟩ (.cons ⟨()⟩ (.cons ⟨()⟩ (.cons ⟨()⟩ (.cons ⟨()⟩ (.cons ⟨()⟩ .nil))))))))))))⟩
theorem q_BOUNDS{K:FG}{a b0 b1 b3:Addr}{ep:Nat}{t0 t1 t3:Tok}(l:K.lookup a=some ⟨.type "dict",none,.dict #[⟨0,.int 0 t0,.ref b0⟩,⟨1,.int 1 t1,.ref b1⟩,⟨3,.int 3 t3,.ref b3⟩] ep,#[]⟩):KD K a [(0,.ref b0),(1,.ref b1),(3,.ref b3)]:=by
 refine⟨_,ep,[(.inl 0,.ref b0),(.inl 1,.ref b1),(.inl 3,.ref b3)],l,(.cons ⟨rfl,rfl⟩ (.cons ⟨rfl,rfl⟩ (.cons ⟨rfl,rfl⟩ .nil))),(show ([.inl 0,.inl 1,.inl 3]:List gi).Nodup by decide),λP w=>⟨?_,(.cons rfl rfl (.cons rfl rfl (.cons rfl rfl .nil)))⟩⟩;intro e he;simp only[Array.mem_toArray,aT,b7,or_false] at he;rcases he with rfl | rfl | rfl
 ·exact⟨.inl 0,rfl,rfl⟩
 ·exact⟨.inl 1,rfl,rfl⟩
 ·exact⟨.inl 3,rfl,rfl⟩
theorem q_BOUNDS_0{K:FG}{a:Addr}{od:Option Addr}{sl:Array (Option Value)}{n:Nat}{t0 t1:Tok}(l:K.lookup a=some ⟨.type "tuple",od,.seq #[.int 0 t0,.int 59 t1] n,sl⟩):∀H,SqT K H a (([0,59]:List Int).map V.int):=λH=>.inr ⟨_,_,_,l,rfl,rfl,(zL 2),(.cons ⟨()⟩ (.cons ⟨()⟩ .nil))⟩
theorem q_BOUNDS_1{K:FG}{a:Addr}{od:Option Addr}{sl:Array (Option Value)}{n:Nat}{t0 t1:Tok}(l:K.lookup a=some ⟨.type "tuple",od,.seq #[.int 0 t0,.int 23 t1] n,sl⟩):∀H,SqT K H a (([0,23]:List Int).map V.int):=λH=>.inr ⟨_,_,_,l,rfl,rfl,(zL 2),(.cons ⟨()⟩ (.cons ⟨()⟩ .nil))⟩
theorem q_BOUNDS_3{K:FG}{a:Addr}{od:Option Addr}{sl:Array (Option Value)}{n:Nat}{t0 t1:Tok}(l:K.lookup a=some ⟨.type "tuple",od,.seq #[.int 1 t0,.int 12 t1] n,sl⟩):∀H,SqT K H a (([1,12]:List Int).map V.int):=λH=>.inr ⟨_,_,_,l,rfl,rfl,(zL 2),(.cons ⟨()⟩ (.cons ⟨()⟩ .nil))⟩
theorem mg_tx{K:FG}{h:Heap}{mg:Str->Option Value}{x n:Str}{l:List Nat}{t:Tok}(X:K.In h)(G:h.Ns mainGlobals mg)(e:x=Tx l)(a:PySem.W.nsIn K mainGlobals n=some (some (.str x t))):mg n=some (.str (Tx l) t):=e▸PySem.W.mg_of X G a
theorem Pp:eZ ["year"] ["year"] (ft (top 13)):=fE
theorem Ql:eZ ["year","month"] ["year","month"] (ft (top 16)):=fE
theorem SA:eZ ["thing"] ["thing"] (ft (top 8)):=fE
theorem ZT:eZ ["day"] ["day"] (ft (top 21)):=fE
theorem Um:eZ ["year","month","day","place"] ["year","month","day"] (ft (top 35)):=fE
theorem Z3:eZ ["text"] ["text"] (ft (top 24)):=fE
theorem UQ:eZ ["text"] ["text"] (ft (top 25)):=fE
theorem Sx:eZ ["mask","number"] ["mask","number"] (ft (top 41)):=fE
theorem Uq:eZ ["numbers","mask","number"] ["numbers"] (ft (top 52)):=fE
theorem R6:eZ ["mask"] ["mask"] (ft (top 53)):=fE
theorem SC:eZ ["first","last","stride"] ["first","last","stride"] (ft (top 54)):=fE
theorem UC:eZ ["text","low","high","number"] ["text","low","high"] (ft (top 55)):=fE
theorem UE:eZ ["text","low","high","ends"] ["text","low","high"] (ft (top 56)):=fE
theorem UF:eZ ["run_text","stride_text","low","high","run","stride","last"] ["run_text","stride_text","low","high"] (ft (top 57)):=fE
theorem UA:eZ ["item","low","high","parts","run"] ["item","low","high"] (ft (top 58)):=fE
theorem Uz:eZ ["text","low","high","items","mask","place","item","told"] ["text","low","high"] (ft (top 59)):=fE
theorem P3:eZ ["day","first"] ["day","first"] (ft (top 71)):=fE
theorem Xo:eZ ["last"] ["last"] (ft (top 72)):=fE
theorem Ut:eZ ["day","last","first","of_week"] ["day","last","first"] (ft (top 73)):=fE
theorem QM:eZ ["weekday","first"] ["weekday","first"] (ft (top 74)):=fE
theorem US:eZ ["self","last","first"] ["self","last","first"] (ft Jr):=fE
theorem S8:eZ ["self","mask"] ["self","mask"] (ft AF):=fE
theorem XF:eZ ["self","last","first"] ["self","last","first"] (ft Lr):=fE
theorem WF:eZ ["self","back"] ["self","back"] (ft oH):=fE
theorem Wo:eZ ["self","last","first"] ["self","last","first"] (ft GZ):=fE
theorem XG:eZ ["self","day"] ["self","day"] (ft Nv):=fE
theorem Vd:eZ ["self","last","first"] ["self","last","first"] (ft EG):=fE
theorem W4:eZ ["self","last","first"] ["self","last","first"] (ft Jy):=fE
theorem Wi:eZ ["self","mask"] ["self","mask"] (ft Dr):=fE
theorem U3:eZ ["self","last","first","weeks","week"] ["self","last","first"] (ft zk):=fE
theorem ZY:eZ ["self","weekday","many"] ["self","weekday","many"] (ft Kh):=fE
theorem U0:eZ ["self","last","first","day"] ["self","last","first"] (ft Jx):=fE
theorem O6:eZ ["self","weekday"] ["self","weekday"] (ft M5):=fE
theorem Zo:eZ ["self","last","first"] ["self","last","first"] (ft E6):=fE
theorem Ui:eZ ["marks","last","first","mask","mark"] ["marks","last","first"] (ft (top 83)):=fE
theorem Ux:eZ ["item","back","day"] ["item"] (ft (top 84)):=fE
theorem UG:eZ ["text","number"] ["text"] (ft (top 85)):=fE
theorem UH:eZ ["item","weekday","parts","many"] ["item"] (ft (top 86)):=fE
theorem UB:eZ ["text","low","high","read_mark","items","mask","marks","place","item","plain","mark"] ["text","low","high","read_mark"] (ft (top 87)):=fE
theorem Uy:eZ ["text","read"] ["text"] (ft (top 88)):=fE
theorem UI:eZ ["text","read","mask"] ["text"] (ft (top 89)):=fE
theorem Ur:eZ ["kind","place","first"] ["kind"] (ft (top 37)):=fE
theorem UL:eZ ["hours","minutes","times","hour"] ["hours","minutes"] (ft (top 99)):=fE
theorem Ul:eZ ["days","weekdays","last","first","mask","marks"] ["days","weekdays","last","first"] (ft (top 100)):=fE
theorem Yg:eZ ["self","fields"] ["self","fields"] (ft DR):=fE
theorem U1:eZ ["self","kind","month"] ["self","kind"] (ft zM):=fE
theorem UJ:eZ ["word","place","bounds"] ["word","place"] (ft (top 102)):=fE
theorem PP:eZ ["word","place"] ["word","place"] (ft (top 103)):=fE
theorem UD:eZ ["text","words"] ["text"] (ft (top 104)):=fE
theorem Zq:eZ ["self"] ["self"] (ft Bg):=fE
theorem Vf:eZ ["mask"] ["mask"] (ft (top 42)):=fE
theorem XD:eZ ["_law_script","_law_k"] ["_law_script","_law_k"] (ft (top 121)):=fE
theorem Ue:eZ ["_law_number","_law_first","_law_second"] ["_law_number"] (ft (top 122)):=fE
theorem U4:eZ ["_law_cell","_law_sizes","_law_mixed","_law_found","_law_size"] ["_law_cell","_law_sizes","_law_mixed"] (ft (top 123)):=fE
theorem Yo:eZ ["_law_found"] ["_law_found"] (ft (top 124)):=fE
theorem Yd:eZ ["row"] ["row"] (ft (top 61)):=fE
theorem Us:eZ ["found","day","year","month","kind"] [] (ft (top 38)):=fE
theorem Uu:eZ ["table","moment","low","high","middle"] ["table","moment"] (ft (top 115)):=fE
theorem Uj:eZ ["table","earlier","later"] ["table"] (ft (top 112)):=fE
theorem Uv:eZ ["puts","kind","found","row","offset","time","day"] ["puts","kind"] (ft (top 113)):=fE
theorem Uw:eZ ["puts","pages","page","table","day","kind","minute","offset"] ["puts"] (ft (top 114)):=fE
theorem Yc:eZ ["offset"] ["offset"] (ft (top 109)):=fE
theorem Uk:eZ ["put","times"] ["put"] (ft (top 110)):=fE
theorem Xl:eZ ["puts"] ["puts"] (ft (top 111)):=fE
theorem T2:eZ ["self","base"] ["self","base"] (ft oR):=fE
theorem X9:eZ ["self","true"] ["self","true"] (ft Ed):=fE
theorem UT:eZ ["self","true"] ["self","true"] (ft I8):=fE
theorem Si:eZ ["self","puts"] ["self","puts"] (ft y8):=fE
theorem U2:eZ ["self","true","passed","place","start","put"] ["self","true"] (ft A7):=fE
theorem Qz:eZ ["self","true"] ["self","true"] (ft Ei):=fE
theorem X4:eZ ["self","true"] ["self","true"] (ft Mm):=fE
theorem UK:eZ ["clock","local","likely"] ["clock","local"] (ft (top 119)):=fE
theorem PL:eZ ["_law_year_here"] ["_law_year_here"] (ft (top 125)):=fE
theorem Tb:eZ ["_law_year_here","_law_month"] ["_law_year_here","_law_month"] (ft (top 126)):=fE
theorem Uh:eZ ["_law_number","_law_year_here"] ["_law_number"] (ft (top 127)):=fE
theorem U9:eZ ["_law_parts","_law_month","_law_minute","_law_hour","_law_sort","_law_day","_law_named","_law_number","_law_on","_law_days","_law_names","_law_text"] ["_law_parts","_law_month"] (ft (top 128)):=fE
theorem Ug:eZ ["_law_parts","_law_named","_law_text"] ["_law_parts","_law_named"] (ft (top 129)):=fE
theorem U8:eZ ["_law_parts","_law_day","_law_text"] ["_law_parts","_law_day"] (ft (top 130)):=fE
theorem Uc:eZ ["_law_parts","_law_text"] ["_law_parts"] (ft (top 131)):=fE
theorem Ub:eZ ["_law_cells","_law_mixed","_law_drawn","_law_parts","_law_named","_law_day","_law_left"] ["_law_cells","_law_mixed"] (ft (top 132)):=fE
theorem U6:eZ ["_law_put_here","_law_year_here","_law_text","_law_time","_law_sort","_law_number","_law_named","_law_month","_law_on","_law_first","_law_ends","_law_day"] ["_law_put_here","_law_year_here"] (ft (top 133)):=fE
theorem U7:eZ ["_law_put_here","_law_true_here","_law_last_here","_law_year_here","_law_found","_law_back","_law_moment"] ["_law_put_here","_law_true_here"] (ft (top 134)):=fE
theorem Ua:eZ ["_law_puts_here","_law_true_here","_law_found","_law_put_here"] ["_law_puts_here","_law_true_here"] (ft (top 135)):=fE
theorem Uf:eZ ["_law_cell","_law_puts_here","_law_mixed","_law_near","_law_year_here","_law_at","_law_on","_law_moment"] ["_law_cell","_law_puts_here","_law_mixed"] (ft (top 137)):=fE
theorem WX:eZ ["_law_puts_here","_law_true_here"] ["_law_puts_here","_law_true_here"] (ft (top 136)):=fE
theorem XY:eZ ["_law_puts_here"] ["_law_puts_here"] (ft (top 138)):=fE
theorem U5:eZ ["_law_puts_here","_law_local_here","_law_found","_law_on"] ["_law_puts_here","_law_local_here"] (ft (top 139)):=fE
theorem Ud:eZ ["_law_clock_here","_law_puts_here","_law_local_here","_law_found","_law_due_here","_law_one"] ["_law_clock_here","_law_puts_here","_law_local_here"] (ft (top 140)):=fE
theorem Uo:eZ ["_law_script","_law_mixed","_law_puts_here","_law_clock_here","_law_base","_law_k","_law_true_here","_law_put_here","_law_local_here"] ["_law_script"] (ft (top 141)):=fE
structure Fs(K:FG)(mg:Str->Option Value)(aL aK a_MONTH_LASTS a_BOUNDS a_BOUNDS_0 a_BOUNDS_1 a_BOUNDS_3:Addr)(t_ROUND_DAYS t_ROUND_YEARS t_LONG_PLACE t_DAY_MINUTES t_HOUR_MINUTES t_FIGURES t_MOST_STRIDE t_MOST_SIGNS t_MOST_ITEMS t_SATURDAY t_SUNDAY t_MOST_BACK t_MOST_DAY t_SUNDAY_TOO t_MOST_NTH t_MOST_MARKS t_ALL_WEEKDAYS t_LONG_LAST t_SHORT_YEAR t_MINUTE t_HOUR t_DAY t_MONTH t_WEEKDAY t_MOST_ROW_SIGNS t_NO_PLACE t_KINDS t_LEAST_BETWEEN t_ROUND t_MOST_OFFSET t_MOST_PUTS:Tok):Prop where
 ex:Cd K mg "Mark" aO
 e5:PySem.W.findIn K (.ref aO) "__init__"=some (some (.builtin "object.__init__"))
 ap:Cd K mg "Numbers" aF
 a7:PySem.W.findIn K (.ref aF) "mask"=some none
 aq:Cd K mg "Last" aH
 aw:PySem.W.findIn K (.ref aH) "back"=some none
 az:Cd K mg "Near" aI
 a0:PySem.W.findIn K (.ref aI) "day"=some none
 bh:Cd K mg "LastWork" aM
 d1:PySem.W.findIn K (.ref aM) "__init__"=some (some (.builtin "object.__init__"))
 al:Cd K mg "Weekdays" aG
 a1:PySem.W.findIn K (.ref aG) "mask"=some none
 a2:Cd K mg "Nth" aE
 a9:PySem.W.findIn K (.ref aE) "weekday"=some none
 bi:PySem.W.findIn K (.ref aE) "many"=some none
 ar:Cd K mg "LastOne" aJ
 au:PySem.W.findIn K (.ref aJ) "weekday"=some none
 ac:Cd K mg "Row" aA
 av:PySem.W.findIn K (.ref aA) "minute_mask"=some none
 a3:PySem.W.findIn K (.ref aA) "hour_mask"=some none
 a4:PySem.W.findIn K (.ref aA) "day_marks"=some none
 ay:PySem.W.findIn K (.ref aA) "month_mask"=some none
 an:PySem.W.findIn K (.ref aA) "weekday_marks"=some none
 a5:PySem.W.findIn K (.ref aA) "time_mask"=some none
 ai:Cd K mg "Clock" aD
 as:PySem.W.findIn K (.ref aD) "base"=some none
 ab:Cd K mg "Shifted" aB
 a8:PySem.W.findIn K (.ref aB) "puts"=some none
 ah:PySem.W.findIn K (.ref aB) "table"=some none
 ao:mg "read_weekday_mark"=some (.ref aL)
 a6:mg "read_day_mark"=some (.ref aK)
 ey:IsC K aA
 ez:PySem.W.kitOne K (.ref aA) (.ref aA)=some true
 ct:mg "MONTH_LASTS"=some (.ref a_MONTH_LASTS)
 ba:∀H,SqT K H a_MONTH_LASTS (([31,28,31,30,31,30,31,31,30,31,30,31]:List Int).map V.int)
 e6:mg "ROUND_DAYS"=some (.int 146097 t_ROUND_DAYS)
 cu:mg "ROUND_YEARS"=some (.int 400 t_ROUND_YEARS)
 bc:mg "LONG_PLACE"=some (.int 12 t_LONG_PLACE)
 bb:mg "DAY_MINUTES"=some (.int 1440 t_DAY_MINUTES)
 cd:mg "HOUR_MINUTES"=some (.int 60 t_HOUR_MINUTES)
 ek:mg "FIGURES"=some (.str (Tx [48,49,50,51,52,53,54,55,56,57]) t_FIGURES)
 cv:mg "MOST_STRIDE"=some (.int 99 t_MOST_STRIDE)
 bd:mg "MOST_SIGNS"=some (.int 300 t_MOST_SIGNS)
 aj:mg "MOST_ITEMS"=some (.int 40 t_MOST_ITEMS)
 d2:mg "SATURDAY"=some (.int 6 t_SATURDAY)
 bx:mg "SUNDAY"=some (.int 0 t_SUNDAY)
 di:mg "MOST_BACK"=some (.int 30 t_MOST_BACK)
 bj:mg "MOST_DAY"=some (.int 31 t_MOST_DAY)
 ak:mg "SUNDAY_TOO"=some (.int 7 t_SUNDAY_TOO)
 d3:mg "MOST_NTH"=some (.int 5 t_MOST_NTH)
 c5:mg "MOST_MARKS"=some (.int 20 t_MOST_MARKS)
 ce:mg "ALL_WEEKDAYS"=some (.int 127 t_ALL_WEEKDAYS)
 dj:mg "LONG_LAST"=some (.int 29 t_LONG_LAST)
 c6:mg "SHORT_YEAR"=some (.int 1 t_SHORT_YEAR)
 es:mg "MINUTE"=some (.int 0 t_MINUTE)
 e0:mg "HOUR"=some (.int 1 t_HOUR)
 d4:mg "DAY"=some (.int 2 t_DAY)
 ev:mg "MONTH"=some (.int 3 t_MONTH)
 br:mg "WEEKDAY"=some (.int 4 t_WEEKDAY)
 et:mg "BOUNDS"=some (.ref a_BOUNDS)
 be:KD K a_BOUNDS [(0,.ref a_BOUNDS_0),(1,.ref a_BOUNDS_1),(3,.ref a_BOUNDS_3)]
 bk:∀H,SqT K H a_BOUNDS_0 (([0,59]:List Int).map V.int)
 bl:∀H,SqT K H a_BOUNDS_1 (([0,23]:List Int).map V.int)
 bm:∀H,SqT K H a_BOUNDS_3 (([1,12]:List Int).map V.int)
 bz:mg "MOST_ROW_SIGNS"=some (.int 1600 t_MOST_ROW_SIGNS)
 d5:mg "NO_PLACE"=some (.int 5 t_NO_PLACE)
 cf:mg "KINDS"=some (.int 91 t_KINDS)
 b3:mg "LEAST_BETWEEN"=some (.int 4320 t_LEAST_BETWEEN)
 bg:mg "ROUND"=some (.int 210379680 t_ROUND)
 ag:mg "MOST_OFFSET"=some (.int 720 t_MOST_OFFSET)
 dk:mg "MOST_PUTS"=some (.int 4 t_MOST_PUTS)
 bn:mg "int"=none
 aa:mg "isinstance"=none
 c7:mg "bool"=none
 ae:mg "range"=none
 e1:mg "sum"=none
 d6:mg "all"=none
 bf:mg "list"=none
 af:mg "len"=none
 ad:mg "str"=none
 ax:mg "enumerate"=none
 e2:mg "abs"=none
 e3:mg "zip"=none
 am:mg "sorted"=none
 cg:mg "tuple"=none
 d7:mg "set"=none
 el:Fn K mg "is_long" (top 13) ["year"]
 e7:Fn K mg "multiples_before" (top 14) ["year","step"]
 e8:Fn K mg "days_before" (top 15) ["year"]
 em:Fn K mg "last_of" (top 16) ["year","month"]
 d8:Fn K mg "is_whole" (top 8) ["thing"]
 e9:Fn K mg "is_date" (top 17) ["year","month","day"]
 fa:Fn K mg "day_of" (top 18) ["year","month","day"]
 fb:Fn K mg "year_of" (top 19) ["day"]
 fc:Fn K mg "date_of" (top 20) ["day"]
 en:Fn K mg "weekday" (top 21) ["day"]
 dl:Fn K mg "kind_from" (top 35) ["year","month","day"]
 fd:Fn K mg "kind_of" (top 36) ["year","month"]
 fe:Fn K mg "parted" (top 29) ["moment"]
 cw:Fn K mg "all_figures" (top 24) ["text"]
 c8:Fn K mg "is_written" (top 25) ["text"]
 e4:Fn K mg "has" (top 41) ["mask","number"]
 eo:Fn K mg "mask_of" (top 52) ["numbers"]
 c9:Fn K mg "numbers_in" (top 53) ["mask"]
 d9:Fn K mg "run_mask" (top 54) ["first","last","stride"]
 cx:Fn K mg "read_number" (top 55) ["text","low","high"]
 ea:Fn K mg "read_run" (top 56) ["text","low","high"]
 ch:Fn K mg "read_strided" (top 57) ["run_text","stride_text","low","high"]
 dm:Fn K mg "read_item" (top 58) ["item","low","high"]
 da:Fn K mg "read_field" (top 59) ["text","low","high"]
 db:Fn K mg "weekday_at" (top 71) ["day","first"]
 eb:Fn K mg "all_days" (top 72) ["last"]
 ci:Fn K mg "nearest_work" (top 73) ["day","last","first"]
 dn:Fn K mg "first_one" (top 74) ["weekday","first"]
 dp:FnM K aO "days" "Mark.days" Jr ["self","last","first"]
 bs:FnM K aF "__init__" "Numbers.__init__" AF ["self","mask"]
 cj:FnM K aF "days" "Numbers.days" Lr ["self","last","first"]
 b4:FnMD K aH "__init__" "Last.__init__" oH ["self","back"] [.int 0]
 dq:FnM K aH "days" "Last.days" GZ ["self","last","first"]
 b5:FnM K aI "__init__" "Near.__init__" Nv ["self","day"]
 dr:FnM K aI "days" "Near.days" EG ["self","last","first"]
 b6:FnM K aM "days" "LastWork.days" Jy ["self","last","first"]
 bo:FnM K aG "__init__" "Weekdays.__init__" Dr ["self","mask"]
 b7:FnM K aG "days" "Weekdays.days" zk ["self","last","first"]
 ck:FnM K aE "__init__" "Nth.__init__" Kh ["self","weekday","many"]
 ec:FnM K aE "days" "Nth.days" Jx ["self","last","first"]
 bt:FnM K aJ "__init__" "LastOne.__init__" M5 ["self","weekday"]
 cl:FnM K aJ "days" "LastOne.days" E6 ["self","last","first"]
 ed:Fn K mg "any_days" (top 83) ["marks","last","first"]
 b8:Fn K mg "read_day_mark" (top 84) ["item"]
 cm:Fn K mg "read_weekday" (top 85) ["text"]
 bp:Fn K mg "read_weekday_mark" (top 86) ["item"]
 dc:Fn K mg "read_items" (top 87) ["text","low","high","read_mark"]
 ds:Fn K mg "read_days" (top 88) ["text"]
 b9:Fn K mg "read_weekdays" (top 89) ["text"]
 ee:Fn K mg "month_at" (top 37) ["kind"]
 ef:Fn K mg "times_of" (top 99) ["hours","minutes"]
 ep:Fn K mg "days_by" (top 100) ["days","weekdays","last","first"]
 cn:FnM K aA "__init__" "Row.__init__" DR ["self","fields"]
 cy:FnM K aA "days_in" "Row.days_in" zM ["self","kind"]
 dt:Fn K mg "read_word" (top 102) ["word","place"]
 eq:Fn K mg "read_at" (top 103) ["word","place"]
 eg:Fn K mg "read_row" (top 104) ["text"]
 du:FnM K aA "times" "Row.times" Bg ["self"]
 eu:Fn K mg "lowest" (top 42) ["mask"]
 co:Fn K mg "_law_cell_at" (top 121) ["_law_script","_law_k"]
 dv:Fn K mg "_law_stir" (top 122) ["_law_number"]
 cz:Fn K mg "_law_digits" (top 123) ["_law_cell","_law_sizes","_law_mixed"]
 dd:Fn K mg "_law_whole" (top 124) ["_law_found"]
 ew:Fn K mg "never" (top 61) ["row"]
 bv:Fn K mg "months_of_round" (top 38) []
 c0:Fn K mg "place_up_to" (top 115) ["table","moment"]
 ca:Fn K mg "check_between" (top 112) ["table"]
 er:Fn K mg "puts_in" (top 113) ["puts","kind"]
 cb:Fn K mg "puts_of_round" (top 114) ["puts"]
 b0:Fn K mg "checked_offset" (top 109) ["offset"]
 c1:Fn K mg "checked_put" (top 110) ["put"]
 cp:Fn K mg "checked_puts" (top 111) ["puts"]
 b1:FnMD K aD "__init__" "Clock.__init__" oR ["self","base"] [.int 0]
 bw:FnM K aD "offset_at" "Clock.offset_at" Ed ["self","true"]
 c2:FnM K aD "local" "Clock.local" I8 ["self","true"]
 ff:FnM K aD "put_at" "Clock.put_at" YT ["self","true"]
 bu:FnM K aB "__init__" "Shifted.__init__" y8 ["self","puts"]
 b2:FnM K aB "put_at" "Shifted.put_at" A7 ["self","true"]
 bq:FnM K aB "offset_at" "Shifted.offset_at" Ei ["self","true"]
 cc:FnM K aB "local" "Shifted.local" Mm ["self","true"]
 eh:Fn K mg "readings" (top 119) ["clock","local"]
 de:Fn K mg "_law_start" (top 125) ["_law_year_here"]
 dw:Fn K mg "_law_last" (top 126) ["_law_year_here","_law_month"]
 dx:Fn K mg "_law_year" (top 127) ["_law_number"]
 ei:Fn K mg "_law_put" (top 128) ["_law_parts","_law_month"]
 c3:Fn K mg "_law_weekly" (top 129) ["_law_parts","_law_named"]
 cq:Fn K mg "_law_monthly" (top 130) ["_law_parts","_law_day"]
 dy:Fn K mg "_law_rare" (top 131) ["_law_parts"]
 dz:Fn K mg "_law_puts" (top 132) ["_law_cells","_law_mixed"]
 cr:Fn K mg "_law_in_year" (top 133) ["_law_put_here","_law_year_here"]
 cs:Fn K mg "_law_moments" (top 134) ["_law_put_here","_law_true_here"]
 c4:Fn K mg "_law_put_at" (top 135) ["_law_puts_here","_law_true_here"]
 d0:Fn K mg "_law_true" (top 137) ["_law_cell","_law_puts_here","_law_mixed"]
 df:Fn K mg "_law_local" (top 136) ["_law_puts_here","_law_true_here"]
 dg:Fn K mg "_law_clock" (top 138) ["_law_puts_here"]
 ej:Fn K mg "_law_due" (top 139) ["_law_puts_here","_law_local_here"]
 dh:Fn K mg "_law_right" (top 140) ["_law_clock_here","_law_puts_here","_law_local_here"]
section
set_option maxHeartbeats 4000000
variable{P:Program}{w:World}{K:FG}{mg:Str->Option Value}{base:Heap}{aL aK a_MONTH_LASTS a_BOUNDS a_BOUNDS_0 a_BOUNDS_1 a_BOUNDS_3:Addr}{t_ROUND_DAYS t_ROUND_YEARS t_LONG_PLACE t_DAY_MINUTES t_HOUR_MINUTES t_FIGURES t_MOST_STRIDE t_MOST_SIGNS t_MOST_ITEMS t_SATURDAY t_SUNDAY t_MOST_BACK t_MOST_DAY t_SUNDAY_TOO t_MOST_NTH t_MOST_MARKS t_ALL_WEEKDAYS t_LONG_LAST t_SHORT_YEAR t_MINUTE t_HOUR t_DAY t_MONTH t_WEEKDAY t_MOST_ROW_SIGNS t_NO_PLACE t_KINDS t_LEAST_BETWEEN t_ROUND t_MOST_OFFSET t_MOST_PUTS:Tok}(ZZ:Fs K mg aL aK a_MONTH_LASTS a_BOUNDS a_BOUNDS_0 a_BOUNDS_1 a_BOUNDS_3 t_ROUND_DAYS t_ROUND_YEARS t_LONG_PLACE t_DAY_MINUTES t_HOUR_MINUTES t_FIGURES t_MOST_STRIDE t_MOST_SIGNS t_MOST_ITEMS t_SATURDAY t_SUNDAY t_MOST_BACK t_MOST_DAY t_SUNDAY_TOO t_MOST_NTH t_MOST_MARKS t_ALL_WEEKDAYS t_LONG_LAST t_SHORT_YEAR t_MINUTE t_HOUR t_DAY t_MONTH t_WEEKDAY t_MOST_ROW_SIGNS t_NO_PLACE t_KINDS t_LEAST_BETWEEN t_ROUND t_MOST_OFFSET t_MOST_PUTS)
include ZZ
theorem Kr:Dx P w base ZZ.el 1 (S4 K):=by
 refine ZZ.el.dfs Pp (by trivial) ?_;rintro _ _ _ _ s H _ Q E hr⟨y,rfl,q⟩;refine⟨_,(fh (fq (oB (jA gp (fg gr Y0 eI) eI) (lx (rE (jA mn (fg gr Y0 eI) eI) (lx (jA gp (fg gr Y0 eI) eI))))))),?_⟩;refine⟨(),(()),(by show (0:Int)<4;decide),rfl,(),?_⟩;refine gn (λc1=>?_) (λc1=>?_)
 ·refine⟨(),(()),(by show (0:Int)<100;decide),rfl,(),?_⟩;refine wB (λc2=>?_) (λc2=>?_)
  ·rw[G0 ⟨c1,.inl c2⟩] at q;exact q
  ·refine⟨(),(()),(by show (0:Int)<400;decide),rfl,?_⟩;by_cases c3:y%400=0
   ·rw[G0 ⟨c1,.inr c3⟩] at q;show Q (.bl (decide (V.int (y%400)=V.int 0))) H;rw[eS (int_eq.mpr c3)];exact q
   ·rw[Gf ⋯] at q;show Q (.bl (decide (V.int (y%400)=V.int 0))) H;rw[eV λe=>c3 (int_eq.mp e)];exact q
 ·rw[Gf ⋯] at q;exact q
theorem Fu:Dx P w base ZZ.em 2 (Xw K):=by
 refine ZZ.em.dfs Ql (by trivial) ?_;rintro _ _ _ _ s H _ Q E hr⟨y,m,rfl,⟨h1,h2⟩,q⟩;refine⟨_,(fj (fR (tW (qI (fH gp Y1 eI) (qU (ix (eD (Kr ZZ) hr (A1 Y0)))))) (fh (fq eI)) fW) (fh (fq (fo (gg (K:=K)) (f6 (v:=.ref a_MONTH_LASTS) ZZ.ct rfl) (fg f9 Y1 eI))))),?_⟩;extract_lets;refine⟨(),rfl,(),?_⟩;refine gn (λc1=>?_) (λc1=>?_)
 ·refine⟨(),(),(),?_⟩;by_cases c2:gX y=true
  ·have e:gd y m=29:=by unfold gd jc;rw[if_pos c1,if_pos c2];rfl
   rw[e] at q;show if gX y=true then _ else _
   rw[if_pos c2];exact q
  ·have e:gd y m=lasts.getD (m-1).toNat 0:=by unfold gd jc;rw[if_pos c1,if_neg c2,c1];rfl
   rw[e] at q;show if gX y=true then _ else _
   rw[if_neg c2];refine⟨(),(()),a_MONTH_LASTS,_,(()),ZZ.ba H,vn h1 h2,?_⟩;exact q
 ·have e:gd y m=lasts.getD (m-1).toNat 0:=by unfold gd;rw[if_neg c1]
  rw[e] at q;refine gf ?_;refine⟨(),(()),a_MONTH_LASTS,_,(()),ZZ.ba H,vn h1 h2,?_⟩;exact q
theorem YD:Dx P w base ZZ.d8 1 (RB K):=by
 refine ZZ.d8.dfs SA (by trivial) ?_;rintro _ _ _ _ s H _ Q E hr⟨v,k,rfl,hk,q⟩;refine⟨_,(fh (fq (oB (gy mS ZZ.aa PyProof.Rows.boot_isinstance (A2 Y0 (lc ZZ.bn PyProof.Rows.boot_int))) (lx (zy (gy mS ZZ.aa PyProof.Rows.boot_isinstance (A2 Y0 (lc ZZ.c7 PyProof.Rows.boot_bool)))))))),?_⟩;refine⟨(),v,.int,k,rfl,(by decide),hk,(),?_⟩;cases k with
 |int=>exact gZ ⟨(),v,.bool,.int,rfl,(by decide),hk,(),q⟩
 |bool=>exact gZ ⟨(),v,.bool,.bool,rfl,(by decide),hk,(),q⟩
 |str=>exact gf q
 |non=>exact gf q
 |list=>exact gf q
 |tuple=>exact gf q
 |dict=>exact gf q
theorem XU:Dx P w base ZZ.en 1 (VD K):=by
 refine ZZ.en.dfs ZT (by trivial) ?_;rintro _ _ _ _ s H _ Q E hr⟨d,rfl,q⟩;refine⟨_,(fh (fq (fg gr (fg fV Y0 eI) eI))),?_⟩;exact⟨(),(()),(()),(by show (0:Int)<7;decide),q⟩
theorem T7:Dx P w base ZZ.dl 2 (Qq K):=by
 refine ZZ.dl.dfs Um (by trivial) ?_;rintro _ _ _ _ s H _ Q E hr⟨y,m,d,rfl,q⟩;refine⟨_,(fj (fu 3 (l6 (tW (qI (fH gp Y1 eI) (qU (ix (eD (Kr ZZ) hr (A1 Y0)))))) (f6 (v:=.int 12) ZZ.bc ⟨()⟩) (fg f9 Y1 eI)) Um.nd) (fh (fq (fg fV (fg iu eI Y3) (eD (XU ZZ) hr (A1 Y2)))))),?_⟩;extract_lets;have q':∀pl:Int,jp y m=pl->Q (.int (7*pl+(d+6)%7)) H:=λpl e=>by
  rw[←e];exact q
 refine⟨(),rfl,(),?_⟩;refine gn (λc1=>⟨(),(),(),?_⟩) (λc1=>gf ?_)
 ·by_cases c2:gX y=true
  ·show if gX y=true then _ else _
   rw[if_pos c2];exact⟨(),(()),.inl ⟨by decide,by decide⟩,(),(),(()),q' _ (by unfold jp;rw[if_pos ⟨c1,c2⟩])⟩
  ·show if gX y=true then _ else _
   rw[if_neg c2];exact⟨(),(()),(),(()),.inl ⟨by decide,by decide⟩,(),(),(()),q' _ (by unfold jp;rw[if_neg λz=>c2 z.2])⟩
 ·exact⟨(),(()),(),(()),.inl ⟨by decide,by decide⟩,(),(),(()),q' _ (by unfold jp;rw[if_neg λz=>c1 z.1])⟩
theorem Q3:Dx P w base ZZ.cw 1 (Ta K):=by
 refine ZZ.cw.dfs Z3 (by trivial) ?_;rintro _ _ _ _ s H _ Q E hr⟨l,rfl,hl,q⟩;refine⟨_,(fh (fq (oB (jA mn Y0 (gH [])) (lx (gy Gs ZZ.d6 boot_all (A1 (kj [] [] (iX Y0) (λ_ _ _ _ _ _=>jV) (λ_ _ _ _ _ _=>(jA ug Y0 (f6 (v:=.str (Tx [48,49,50,51,52,53,54,55,56,57])) ZZ.ek ⟨()⟩)))))))))),?_⟩;refine⟨(),rfl,(),?_⟩;rw[pI l []];by_cases c:l=[]
 ·rw[eS c];have e:mw l=false:=by unfold mw;rw[eS c];rfl
  rw[e] at q;exact gf (q H (Same.refl H))
 ·rw[eV c];have e:mw l=l.all k8:=by unfold mw;rw[eV c];rfl
  rw[e] at q;refine gZ ⟨(),Tx l,rfl,aB6 (xs:=l) (λi z=>z=((l.take i).map k8).map V.bl) (by rw[eJ];omega) rfl ?_ ?_⟩
  ·intro i ch z D H2 E' F' hv hR hD s2 hz hE hF;subst hR;refine⟨(),ch,rQ,rfl,rfl,?_⟩;rw[SX];exact hE _ _ (Same.refl _) (by rw[cH,hv,aY,aY];rfl)
  ·intro D H2 z hR hD s2 hz;subst hR;rw[bQ] at hz;refine⟨D,l.map k8,rfl,SqL.of hz,?_⟩;rw[List.all_map];exact q H2 s2
theorem ML:Dx P w base ZZ.c8 2 (TN K):=by
 refine ZZ.c8.dfs UQ (by trivial) ?_;rintro _ _ _ _ s H _ Q E hr⟨l,rfl,hl,q⟩;refine⟨_,(fh (fq (oB (eD (Q3 ZZ) hr (A1 Y0)) (lx (rE (jA gp Y0 (gH [48])) (lx (jA mn (fo xX Y0 eI) (gH [48])))))))),?_⟩;refine⟨(),l,rfl,hl,λH1 s1=>⟨(),?_⟩⟩;refine FX (λc=>?_) (λc=>?_)
 ·have hne:l≠[]:=λe=>by
   unfold mw at c;rw[eS e] at c;exact absurd (show false=true from c) bI
  refine⟨(),rfl,(),?_⟩;rw[pI l [48]];by_cases c2:l=[48]
  ·rw[eS c2];have e:jh l=true:=by unfold jh;rw[c,eS c2];rfl
   rw[e] at q;exact gZ (q H1 s1)
  ·rw[eV c2];obtain⟨x,r,rfl⟩:∃x r,l=x::r:=by
    cases l with
    |nil=>exact absurd rfl hne
    |cons x r=>exact⟨x,r,rfl⟩
   refine gf ⟨(),x::r,0,x,rfl,rfl,(by rw[eJ];omega),(show hZ (x::r) ((0:Nat):Int)=some x from mF rfl),rfl,?_⟩;rw[pI [x] [48]];have e:jh (x::r)= !decide ([x]=[48]):=by
    unfold jh;rw[c,eV c2];show (!decide (x=48))=_;rw[decide_eq_decide.mpr (show x=48↔[x]=[48] by simp)]
   rw[e] at q;exact q H1 s1
 ·have e:jh l=false:=by unfold jh;rw[c];rfl
  rw[e] at q;exact q H1 s1
theorem Mv:Dx P w base ZZ.e4 1 (Wg K):=by
 refine ZZ.e4.dfs Sx (by trivial) ?_;rintro _ _ _ _ s H _ Q E hr⟨m,n,rfl,h0,q⟩;refine⟨_,(fh (fq (jA gp (fg oE (fg sQ Y0 Y1) eI) eI))),?_⟩;refine⟨(),(),(()),h0.2,(()),rfl,?_⟩;have e:decide (V.int (Builtin.bitAnd (m / 2^n.toNat) 1)=V.int 1)=tb m n.toNat:=by
  rw[←QS h0.1];exact decide_eq_decide.mpr int_eq
 show Q (.bl (decide (V.int (Builtin.bitAnd (m / 2^n.toNat) 1)=V.int 1))) H;rw[e];exact q
theorem Se:Dx P w base ZZ.eo 1 (UM K):=by
 refine ZZ.eo.dfs Uq (by trivial) ?_;rintro _ _ _ _ s H _ Q E hr⟨a,zs,rfl,hS,hz,q⟩;refine⟨_,(fj (fu 1 eI Uq.nd) (fj (iz (iV (K:=K) Y0) (gN 2 Uq.nd) (fh (fu 1 (fg mT Y1 (fg ly eI Y2)) Uq.nd)) PassesOwn.never) (fh (fq Y1)))),?_⟩;extract_lets;refine⟨(),a,rfl,⟨_,hS⟩,j8 (K:=K) (a:=a) (xs:=zs.map V.int) (λi σ H2=>H2=H/\∃u:Option V,σ=[some (.ref a),some (.int (f7 (zs.take i))),u]) ⟨rfl,()⟩ (λi σ H2 _ hP=>by rw[hP.1];exact hS) ?_ ?_⟩
 ·rintro i x σ H2 hx ⟨rfl,u,rfl⟩;rw[aX] at hx;cases ez:zs[i]? with
  |none=>rw[ez] at hx;cases hx
  |some z=>
   rw[ez] at hx;obtain rfl:V.int z=x:=bH hx;have h:=hz z (bA ez);have et:f7 (zs.take (i+1))=Builtin.bitOr (f7 (zs.take i)) (1*2^z.toNat):=by
    rw[cH,ez,←Ob];rfl
   exact⟨(),(),(()),⟨h.1,⋯,by decide⟩,(()),rfl,_,by rw[et];rfl⟩
 ·rintro σ H2 ⟨rfl,u,rfl⟩;rw[aQ,bQ];exact⟨(),q⟩
theorem Eh:Dx P w base ZZ.c9 2 (Zw K):=by
 refine ZZ.c9.dfs R6 (by trivial) ?_;rintro _ _ _ _ s H _ Q E hr⟨m,rfl,hm,q⟩;refine⟨_,(fh (fq (kj ["mask"] [0] (mR ZZ.ae (A1 (DN Y0))) (λ_ _ _ _ _ _=>(NY (ix (eD (Mv ZZ) hr (A2 Y1 Y0))))) (λ_ _ _ _ _ _=>Y0)))),?_⟩;refine⟨(),rfl,(),rfl,(),⋯,⋯,qR (λi z=>z=(flt (tb m) 0 i).map V.int) (by rw[eJ,bP];omega) XZ ?_ ?_⟩
 ·intro i z D H2 E' F' hi hR hD s2 hz hE hF;subst hR;refine⟨(),(),_,(),⟨hm.1,⋯⟩,(),?_⟩;have e0:(0+(i:Int)).toNat=i:=⋯;show if tb m (0+(i:Int)).toNat=true then _ else _
  rw[e0];by_cases c:tb m i=true
  ·rw[if_pos c];exact⟨(),hE _ _ (Same.refl _) (by rw[rM c,aY];rfl)⟩
  ·rw[if_neg c];exact hF _ (Same.refl _) (by rw[qa (by simpa using c)])
 ·intro D H2 z hR hD s2 hz;subst hR;rw[bP] at hz;exact q D H2 s2 hz
theorem JJ:Dx P w base ZZ.d9 2 (XS K):=by
 refine ZZ.d9.dfs SC (by trivial) ?_;rintro _ _ _ _ s H _ Q E hr⟨a,b,st,rfl,ha,hb,hs,q⟩;refine⟨_,(fh (fq (eD (Se ZZ) hr (A1 (hU BS ZZ.bf PyProof.Rows.boot_list (A1 (hU tF ZZ.ae boot_range (A3 Y0 (fg fV Y1 eI) Y2)))))))),?_⟩;obtain⟨n1,n2⟩:=G4 ha.1 hb.2 hs.1;have bd:∀z∈iw a b st,0<=z/\z<=100000:=λz hz=>by
  have:=(vE hs.1).mp hz;omega
 refine⟨(),(),(()),(),_,_,(),⟨hs.1,⋯⟩,λp hp=>⟨p,a,b+1,st,(Builtin.Range.rangeSize a (b+1) st).toNat,rfl,fk,Rc ha.1 ha.2 hb.1 hb.2 hs.1 hs.2,n2,⋯,λl hl=>⟨l,iw a b st,rfl,SqL.of (by rw[qy,cW];exact fk),bd,?_⟩⟩⟩;exact q _ ((fm hp _).trans (fm hl _))
theorem oh:Dx P w base ZZ.cx 3 (QO K):=by
 refine ZZ.cx.dfs UC (by trivial) ?_;rintro _ _ _ _ s H _ Q E hr⟨l,lo,hi,rfl,hl,q⟩;refine⟨_,(fj (fR (jE (ix (eD (ML ZZ) hr (A1 Y0)))) (fh (fq eN)) fW) (fj (fu 3 (hU UN ZZ.bn PyProof.Rows.boot_int (A1 Y0)) UC.nd) (fj (fR (wm lY lY Y1 Y3 Y2) (fh (fq Y3)) fW) (fh (fq eN))))),?_⟩;extract_lets;refine⟨(),l,rfl,⋯,λH1 s1=>⟨(),?_⟩⟩;by_cases c:jh l=true
 ·rw[c];obtain⟨d1,d2⟩:=Yr c;refine gf ⟨(),l,rfl,d1,d2,⋯,?_⟩;refine⟨(),(),(()),(),?_⟩;show if decide (lo<=dv l)=true then _ else _
  refine io (λc1=>⟨(),(()),(),?_⟩) (λc1=>⟨(),?_⟩)
  ·show if decide (dv l<=hi)=true then _ else _
   refine io (λc2=>?_) (λc2=>?_)
   ·have e:gx lo hi l=some (dv l):=by unfold gx;rw[if_pos c,if_pos ⟨c1,c2⟩]
    rw[e] at q;exact⟨(),q H1 s1⟩
   ·have e:gx lo hi l=none:=by unfold gx;rw[if_pos c,if_neg λz=>c2 z.2]
    rw[e] at q;exact q H1 s1
  ·have e:gx lo hi l=none:=by unfold gx;rw[if_pos c,if_neg λz=>c1 z.1]
   rw[e] at q;exact gf (q H1 s1)
 ·have c':jh l=false:=by simpa using c
  rw[c'];have e:gx lo hi l=none:=by unfold gx;rw[if_neg c]
  rw[e] at q;exact gZ (q H1 s1)
theorem Ho:Dx P w base ZZ.ea 4 (Wp K):=by
 refine ZZ.ea.dfs UE (by trivial) ?_;rintro _ _ _ _ s H _ Q E hr⟨l,lo,hi,rfl,hl,q⟩;refine⟨_,(fj (fR (fH gp Y0 (gH [42])) (fh (fq (iH (A2 Y1 Y2)))) fW) (fj (N7 3 ["low","high"] [1,2] (iV (K:=K) (oO Y0 (gH [45]))) (λ_ _ _ _ _ _=>jV) (λ_ _ _ _ _ _=>(eD (oh ZZ) hr (A3 Y0 Y1 Y2))) UE.nd) (fj (fR (tW (jY (fH j5 (gy (jQ (K:=K)) ZZ.af PySem.boot_len (A1 Y3)) eI) (jY (fH (FS (K:=K)) eN Y3) (ka (fH j5 (fo (fO (K:=K)) Y3 eI) (fo (fO (K:=K)) Y3 (lV lK eI))))))) (fh (fq eN)) fW) (fh (fq (iH (A2 (fo (fO (K:=K)) Y3 eI) (fo (fO (K:=K)) Y3 (lV lK eI))))))))),?_⟩
 extract_lets;refine⟨(),rfl,(),?_⟩;rw[pI l [42]];by_cases c:l=[42]
 ·rw[eS c];refine gZ ⟨(),(),(zL 2),λp hp=>?_⟩;have e:iN lo hi l=some (lo,hi):=by unfold iN;rw[if_pos c]
  rw[e] at q;exact q _ _ (fm hp _) ⟨p,rfl,fk⟩
 rw[eV c];have hsl:=pC 45 l;have eR:iN lo hi l=mm ((fv 45 l).map (gx lo hi)):=by unfold iN;rw[if_neg c]
 rw[eR] at q;refine gf ⟨(),rfl,l,45,rfl,rfl,(by rw[eJ];omega),λps hps=>⟨ps,rfl,⟨_,SqL.of fk⟩,qN (xs:=(fv 45 l).map λq=>V.str (Tx q)) (λi z=>z=((fv 45 l).take i).map λq=>oV (gx lo hi q)) (by rw[aQ,eJ];omega) rfl (SqL.of fk) ?_ ?_⟩⟩
 ·intro i v z D H2 E' F' hv hR hD s2 hz hE hF;subst hR;rw[aX] at hv;cases ew:(fv 45 l)[i]? with
  |none=>rw[ew] at hv;cases hv
  |some w0=>
   rw[ew] at hv;obtain rfl:V.str (Tx w0)=v:=bH hv;have hw:=ot 45 l w0 (bA ew);exact⟨(),(),(),w0,lo,hi,rfl,⋯,λH3 s3=>hE _ _ s3 (by rw[cH,ew,aY];rfl)⟩
 intro D H2 z hR hD s2 hz;subst hR;rw[aQ,bQ] at hz;have hz2:H2 D=some (.lst (((fv 45 l).map (gx lo hi)).map oV)):=by rw[hz,cW];rfl
 have hlen:((fv 45 l).map (gx lo hi)).length<=600:=by rw[aQ];omega
 have hnn:(fv 45 l).map (gx lo hi)≠[]:=λe=>SK 45 l (List.map_eq_nil_iff.mp e);generalize (fv 45 l).map (gx lo hi)=es at hz2 q hlen hnn;have s02:Same H H2:=(fm hps _).trans s2;have hfl:(es.map oV).all li=true:=Vz es;refine⟨(),D,(),.inl (SqL.of hz2),(()),(),?_⟩
 match es,hnn with
 |[],h=>exact absurd rfl h
 |[none],_=>
  refine gf ⟨(),D,(),.inl (SqL.of hz2),rfl,hfl,(),gZ ?_⟩;exact q _ _ s02 rfl
 |[some a],_=>
  refine gf ⟨(),D,(),.inl (SqL.of hz2),rfl,hfl,(),gf ⟨(),D,_,(()),SqL.of hz2,rfl,(),(),D,_,(()),SqL.of hz2,rfl,(()),(),?_⟩⟩;rw[eV (show ¬a<a by omega)];refine gf ⟨(),D,_,(()),SqL.of hz2,rfl,(),(),D,_,(()),SqL.of hz2,rfl,(zL 2),λp hp=>?_⟩;exact q _ _ (s02.trans (fm hp _)) ⟨p,rfl,fk⟩
 |[none,y],_=>
  refine gf ⟨(),D,(),.inl (SqL.of hz2),rfl,hfl,(),gZ ?_⟩;exact q _ _ s02 rfl
 |[some a,none],_=>
  refine gf ⟨(),D,(),.inl (SqL.of hz2),rfl,hfl,(),gZ ?_⟩;exact q _ _ s02 rfl
 |[some a,some b],_=>
  refine gf ⟨(),D,(),.inl (SqL.of hz2),rfl,hfl,(),gf ⟨(),D,_,(()),SqL.of hz2,rfl,(),(),D,_,(()),SqL.of hz2,rfl,(()),(),?_⟩⟩;refine io (λc2=>?_) (λc2=>?_)
  ·have e:mm [some a,some b]=none:=by show (if b<a then none else some (a,b))=none;rw[if_pos c2]
   rw[e] at q;exact q _ _ s02 rfl
  ·have e:mm [some a,some b]=some (a,b):=by show (if b<a then none else some (a,b))=some (a,b);rw[if_neg c2]
   rw[e] at q;refine⟨(),D,_,(()),SqL.of hz2,rfl,(),(),D,_,(()),SqL.of hz2,rfl,(zL 2),λp hp=>?_⟩;exact q _ _ (s02.trans (fm hp _)) ⟨p,rfl,fk⟩
 |x::y::u::r,_=>
  have e3:decide ((2:Int)<(((x::y::u::r).map oV).length:Nat))=true:=eS (by rw[aQ];show (2:Int)<((r.length+1+1+1:Nat):Int);omega);refine kh e3 ?_;have e:mm (x::y::u::r)=none:=by cases x<;>cases y<;>rfl
  rw[e] at q;exact q _ _ s02 rfl
theorem WT:Dx P w base ZZ.ch 5 (YJ K):=by
 refine ZZ.ch.dfs UF (by trivial) ?_;rintro _ _ _ _ s H _ Q E hr⟨r,st,lo,hi,rfl,hr1,hs1,hb,q⟩;refine⟨_,(fj (fu 4 (eD (Ho ZZ) hr (A3 Y0 Y2 Y3)) UF.nd) (fj (fu 5 (eD (oh ZZ) hr (A3 Y1 eI (f6 (v:=.int 99) ZZ.cv ⟨()⟩))) UF.nd) (fj (fR (tW (jY (fH jX Y4 eN) (ka (fH jX Y5 eN)))) (fh (fq eN)) fW) (fj (fu 6 (l6 (ix (eD (ML ZZ) hr (A1 Y0))) Y3 (fo (gg (K:=K)) Y4 eI)) UF.nd) (fh (fq (eD (JJ ZZ) hr (A3 (fo (gg (K:=K)) Y4 eI) Y6 Y5)))))))),?_⟩
 extract_lets;refine⟨(),(),(),r,lo,hi,rfl,⋯,λrv H1 s1 hrv=>?_⟩;refine⟨(),st,1,99,rfl,⋯,λH2 s2=>?_⟩;cases er:iN lo hi r with
 |none=>
  rw[er] at hrv;have hrv:rv=.non:=hrv;subst hrv;have e:jO lo hi r st=none:=by unfold jO;rw[er]
  rw[e] at q;exact⟨(),rfl,(),gZ (q H2 (s1.trans s2))⟩
 |some ab=>
  obtain⟨a,b⟩:=ab;rw[er] at hrv;obtain⟨p,rfl,hp⟩:=hrv;have bd:=yx hb.2.1 er;refine⟨(),rfl,(),iP rfl ⟨(),rfl,(),?_⟩⟩;cases es:gx 1 99 st with
  |none=>
   have e:jO lo hi r st=none:=by unfold jO;rw[er,es]
   rw[e] at q;exact kh rfl (q H2 (s1.trans s2))
  |some sv=>
   have bs:=Oi es;have hp2:=s2 _ _ hp;refine iP rfl ⟨(),r,rfl,⋯,λH3 s3=>⟨(),?_⟩⟩;have hp3:=s3 _ _ hp2;refine FX (λc=>?_) (λc=>?_)
   ·have e:jO lo hi r st=some (j9 a hi sv):=by unfold jO;rw[er,es];show some (j9 a (if jh r=true then hi else b) sv)=_;rw[if_pos c]
    rw[e] at q;refine⟨(),(),p,_,(()),SqT.of hp3,rfl,(),(),a,hi,sv,rfl,⟨⋯,⋯⟩,⟨⋯,⋯⟩,⟨⋯,⋯⟩,λH4 s4=>?_⟩;exact q H4 (s1.trans (s2.trans (s3.trans s4)))
   ·have e:jO lo hi r st=some (j9 a b sv):=by unfold jO;rw[er,es];show some (j9 a (if jh r=true then hi else b) sv)=_;rw[if_neg (by rw[c];exact bI)]
    rw[e] at q;refine⟨(),p,_,(()),SqT.of hp3,rfl,(),p,_,(()),SqT.of hp3,rfl,(),(),a,b,sv,rfl,⟨⋯,⋯⟩,⟨⋯,⋯⟩,⟨⋯,⋯⟩,λH4 s4=>?_⟩;exact q H4 (s1.trans (s2.trans (s3.trans s4)))
theorem Ec:Dx P w base ZZ.dm 6 (X8 K):=by
 refine ZZ.dm.dfs UA (by trivial) ?_;rintro _ _ _ _ s H _ Q E hr⟨l,lo,hi,rfl,hl,hb,q⟩;refine⟨_,(fj (fu 3 (oO Y0 (gH [47])) UA.nd) (fj (fR (fH gp (gy (jQ (K:=K)) ZZ.af PySem.boot_len (A1 Y3)) eI) (fh (fq (eD (WT ZZ) hr (aC (fo (fO (K:=K)) Y3 eI) (A3 (fo (fO (K:=K)) Y3 eI) Y1 Y2))))) fW) (fj (fu 4 (eD (Ho ZZ) hr (A3 Y0 Y1 Y2)) UA.nd) (fj (fR (fH jX Y4 eN) (fh (fq eN)) fW) (fh (fq (eD (JJ ZZ) hr (A3 (fo (gg (K:=K)) Y4 eI) (fo (gg (K:=K)) Y4 eI) eI)))))))),?_⟩
 extract_lets;have hsl:=pC 47 l;have hml:=ot 47 l;refine⟨(),rfl,l,47,rfl,rfl,(by rw[eJ];omega),λps hps=>?_⟩;have s0:=fm hps (.lst ((fv 47 l).map λq=>V.str (Tx q)));refine⟨(),ps,(),.inl (SqL.of fk),rfl,(),?_⟩;have two:(∃r s,fv 47 l=[r,s])∨(∀r s,fv 47 l≠[r,s]):=by
  by_cases z:∃r s,fv 47 l=[r,s]
  ·exact .inl z
  ·exact .inr λr s e=>z ⟨r,s,e⟩
 rcases two with ⟨r,s,e2⟩ | hno
 ·have e:gA lo hi l=jO lo hi r s:=by unfold gA;rw[e2]
  rw[e] at q;have h1:=hml r (by rw[e2];simp);have h2:=hml s (by rw[e2];simp);rw[e2];refine kh rfl ⟨(),ps,_,(()),SqL.of fk,rfl,(),ps,_,(()),SqL.of fk,rfl,(),(),r,s,lo,hi,rfl,⋯,⋯,hb,λH1 s1=>?_⟩;exact q H1 ((fm hps _).trans s1)
 ·have hlen:¬(fv 47 l).length=2:=λe=>by
   match h:fv 47 l,e with
   |[r,s],_=>exact hno r s h
  have e:gA lo hi l=match iN lo hi l with | some (a,b)=>some (j9 a b 1) | none=>none:=by
   unfold gA;split
   ·rename_i r s h;exact absurd h (hno r s)
   ·rfl
  refine iP (eV λz=>hlen (by have z:=V.int.inj z;rw[aQ] at z;omega)) ?_;refine⟨(),(),(),l,lo,hi,rfl,⋯,λrv H1 s1 hrv=>?_⟩;cases er:iN lo hi l with
  |none=>
   rw[er] at hrv e;have hrv:rv=.non:=hrv;subst hrv;rw[e] at q;exact⟨(),rfl,(),gZ (q H1 (s0.trans s1))⟩
  |some ab=>
   obtain⟨a,b⟩:=ab;rw[er] at hrv e;obtain⟨p,rfl,hp⟩:=hrv;have bd:=yx hb.2.1 er;have e:gA lo hi l=some (j9 a b 1):=e;rw[e] at q;refine⟨(),rfl,(),iP rfl ⟨(),p,_,(()),SqT.of hp,rfl,(),p,_,(()),SqT.of hp,rfl,a,b,1,rfl,⟨⋯,⋯⟩,⟨⋯,⋯⟩,⟨by decide,by decide⟩,λH4 s4=>?_⟩⟩;exact q H4 (s0.trans (s1.trans s4))
theorem an1:Dx P w base ZZ.da 7 (ZK K):=by
 refine ZZ.da.dfs Uz (by trivial) ?_;rintro _ _ _ _ s H _ Q E hr⟨l,lo,hi,rfl,hl,hb,⟨hk,hok⟩,q⟩;refine⟨_,(fj (fR (tW (jY (jE (ix (gy mS ZZ.aa PyProof.Rows.boot_isinstance (A2 Y0 (lc ZZ.ad PyProof.Rows.boot_str))))) (ka (fH j5 (gy ye ZZ.af PySem.boot_len (A1 Y0)) (f6 (v:=.int 300) ZZ.bd ⟨()⟩))))) (fh jw) fW) (fj (fu 3 (oO Y0 (gH [44])) Uz.nd) (fj (fu 4 eI Uz.nd) (fj (iz (iE ZZ.ax (kJ (oQ (K:=K)) Y3 kn (kI (f6 (v:=.int 40) ZZ.aj ⟨()⟩)))) (mJ (K:=K) (gE (gN 5 Uz.nd) (gE (gN 6 Uz.nd) kW))) (fj (fu 7 (eD (Ec ZZ) hr (A3 Y6 Y1 Y2)) Uz.nd) (fj (fR (fH jX Y7 eN) (fh jw) fW) (fh (fu 4 (fg mT Y4 Y7) Uz.nd)))) PassesOwn.never) (fj (fR (fH j5 (gy (jQ (K:=K)) ZZ.af PySem.boot_len (A1 Y3)) (f6 (v:=.int 40) ZZ.aj ⟨()⟩)) (fh jw) fW) (fh (fq Y4))))))),?_⟩
 extract_lets;have hml:=ot 44 l;refine⟨(),_,.str,.str,rfl,(by decide),rfl,(),iP rfl ⟨(),l,rfl,(by rw[eJ];omega),(()),(),?_⟩⟩;rw[eV (show ¬(300:Int)<((l.length:Nat):Int) by omega)];refine gf ⟨(),rfl,l,44,rfl,rfl,(by rw[eJ];omega),λps hps=>?_⟩;have s0:=fm hps (.lst ((fv 44 l).map λq=>V.str (Tx q)));refine⟨(),(),ps,(),SqL.of fk,λpc hpc=>?_⟩;have ecut:iI ((fv 44 l).map λq=>V.str (Tx q)) none (some 40)=(fv 44 l).map λq=>V.str (Tx q):=ND (by rw[aQ];exact hk)
 rw[ecut];have s1:=fm hpc (.lst ((fv 44 l).map λq=>V.str (Tx q)));refine⟨pc,rfl,⟨_,SqL.of fk⟩,JD (K:=K) (a:=pc) (xs:=(fv 44 l).map λq=>V.str (Tx q)) (λi σ H2=>∃(u1 u2 u3:Option V),σ=[some (.str (Tx l)),some (.int lo),some (.int hi),some (.ref ps),some (.int (gm ((l7 lo hi l).take i))),u1,u2,u3]/\Same (upd (upd H ps (.lst ((fv 44 l).map λq=>V.str (Tx q)))) pc (.lst ((fv 44 l).map λq=>V.str (Tx q)))) H2) ⟨_,_,(),Same.refl _⟩ (λi σ H2 _ ⟨_,_,_,_,s2⟩=>SqL.of (s2 _ _ fk)) ?_ ?_⟩
 ·rintro i x σ H2 T hx ⟨u1,u2,u3,rfl,s2⟩ hT;rw[aX] at hx;cases ew:(fv 44 l)[i]? with
  |none=>rw[ew] at hx;cases hx
  |some w0=>
   rw[ew] at hx;obtain rfl:V.str (Tx w0)=x:=bH hx;have hw:=hml w0 (bA ew);obtain⟨m,em⟩:=dW.mp (hok w0 (bA ew));refine⟨T,(),SqT.of fk,rfl,_,(),(()),?_⟩;refine⟨(),(),(),w0,lo,hi,rfl,⋯,hb,λH3 s3=>?_⟩;rw[em];refine⟨(),rfl,(),iP rfl ⟨(),(),(()),?_⟩⟩;have et:gm ((l7 lo hi l).take (i+1))=Builtin.bitOr (gm ((l7 lo hi l).take i)) m:=by
    rw[←pk,cH];unfold l7;rw[aX,ew];show gm (_++[(gA lo hi w0).getD 0])=_;rw[em];rfl
   exact⟨_,_,_,by rw[et];rfl,s2.trans ((fm hT _).trans s3)⟩
 ·rintro σ H2 ⟨u1,u2,u3,rfl,s2⟩;refine⟨(),ps,(),.inl (SqL.of (s2 _ _ (s1 _ _ fk))),(()),(),?_⟩;rw[eV (show ¬(40:Int)<((((fv 44 l).map λq=>V.str (Tx q)).length:Nat):Int) by rw[aQ];omega)];refine gf ⟨(),?_⟩;rw[aQ,show (fv 44 l).length=(l7 lo hi l).length by unfold l7;rw[aQ],bQ];exact q H2 (s0.trans (s1.trans s2))
theorem C6:Dx P w base ZZ.db 1 (YG K):=by
 refine ZZ.db.dfs P3 (by trivial) ?_;rintro f _ _ _ s H _ Q E hr⟨d,f,rfl,q⟩;refine⟨_,(fh (fq (fg gr (fg f9 (fg fV Y1 Y0) eI) eI))),?_⟩;exact⟨(),(),(()),(()),(()),(by show (0:Int)<7;decide),q⟩
theorem wI:Dx P w base ZZ.eb 1 (O0 K):=by
 refine ZZ.eb.dfs Xo (by trivial) ?_;rintro _ _ _ _ s H _ Q E hr⟨l,rfl,hl,q⟩;refine⟨_,(fh (fq (fg f9 (fg ly eI Y0) eI))),?_⟩;exact⟨(),(()),⟨⋯,⋯,by decide⟩,(()),q⟩
theorem NL:Dx P w base ZZ.ci 2 (Yt K):=by
 refine ZZ.ci.dfs Ut (by trivial) ?_;rintro _ _ _ _ s H _ Q E hr⟨d,l,fi,rfl,q⟩;refine⟨_,(fj (fu 3 (eD (C6 ZZ) hr (A2 Y0 Y2)) Ut.nd) (fj (fR (fH gp Y3 (f6 (v:=.int 6) ZZ.d2 ⟨()⟩)) (fh (fq (l6 (fH j5 Y0 eI) (fg f9 Y0 eI) eI))) fW) (fj (fR (fH gp Y3 (f6 (v:=.int 0) ZZ.bx ⟨()⟩)) (fh (fq (l6 (fH ng Y0 Y1) (fg fV Y0 eI) (fg f9 Y1 eI)))) fW) (fh (fq Y0))))),?_⟩;extract_lets
 refine⟨(),(),_,(),?_⟩;refine⟨(),rfl,(),gn (λc=>?_) (λc=>?_)⟩
 ·refine⟨(),(()),(),io (λc2=>⟨(),(()),?_⟩) (λc2=>?_)⟩
  ·have e:nw d l fi=d-1:=by unfold nw;rw[if_pos c,if_pos c2]
   rw[e] at q;exact q
  ·have e:nw d l fi=3:=by unfold nw;rw[if_pos c,if_neg c2]
   rw[e] at q;exact q
 ·refine⟨(),rfl,(),gn (λc1=>?_) (λc1=>?_)⟩
  ·refine⟨(),(),(()),(),io (λc2=>⟨(),(()),?_⟩) (λc2=>⟨(),(()),?_⟩)⟩
   ·have e:nw d l fi=d+1:=by unfold nw;rw[if_neg c,if_pos c1,if_pos c2]
    rw[e] at q;exact q
   ·have e:nw d l fi=l-2:=by unfold nw;rw[if_neg c,if_pos c1,if_neg c2]
    rw[e] at q;exact q
  ·have e:nw d l fi=d:=by unfold nw;rw[if_neg c,if_neg c1]
   rw[e] at q;exact⟨(),q⟩
theorem Qo:Dx P w base ZZ.dn 1 (Oy K):=by
 refine ZZ.dn.dfs QM (by trivial) ?_;rintro _ _ _ _ s H _ Q E hr⟨wd,fi,rfl,q⟩;refine⟨_,(fh (fq (fg fV eI (fg gr (fg f9 Y0 Y1) eI)))),?_⟩;exact⟨(),(),(()),(()),(by show (0:Int)<7;decide),(()),q⟩
theorem So:Dm P w mg base ZZ.dp 1 (Qx K aO):=by
 refine ZZ.dp.dfs US (by trivial) ?_;rintro _ _ _ _ s H _ Q E hr⟨p,l,fi,rfl,q⟩;refine⟨_,(fh (fq eI)),?_⟩;exact q
theorem Z9:Dm P w mg base ZZ.bs 1 (Zi K aF):=by
 refine ZZ.bs.dfs S8 (by trivial) ?_;rintro _ _ _ _ s H _ Q E hr⟨p,dx,m,rfl,hp,q⟩;refine⟨_,(fh (jn Y0 Y1)),?_⟩;exact⟨(),(),p,aF,dx,[],rfl,hp,ZZ.ap.cl,ZZ.a7,(by show 0<1000;decide),q⟩
theorem V1:Dm P w mg base ZZ.cj 2 (WB K aF):=by
 refine ZZ.cj.dfs XF (by trivial) ?_;rintro _ _ _ _ s H _ Q E hr⟨p,dx,m,l,fi,rfl,hp,hl,q⟩;refine⟨_,(fh (fq (fg oE (iD (K:=K) Y0) (eD (wI ZZ) hr (A1 Y1))))),?_⟩;exact⟨(),p,aF,dx,_,(),hp,ZZ.ap.cl,ZZ.a7,rfl,(),(),hl.1,(()),q⟩
theorem Kb:DfMD P w K mg base aH "__init__" 1 ["self","back"] (Yz K aH) [.int 0]:=by
 refine ZZ.b4.dfs WF (by trivial) ?_;rintro _ _ _ _ s H _ Q E hr⟨p,dx,m,rfl,hp,q⟩;refine⟨_,(fh (jn Y0 Y1)),?_⟩;exact⟨(),(),p,aH,dx,[],rfl,hp,ZZ.aq.cl,ZZ.aw,(by show 0<1000;decide),q⟩
theorem Wl:Dm P w mg base ZZ.dq 1 (Rw K aH):=by
 refine ZZ.dq.dfs Wo (by trivial) ?_;rintro _ _ _ _ s H _ Q E hr⟨p,dx,b,l,fi,rfl,hp,hb,hl,q⟩;refine⟨_,(fj (fR (fH S6 (iD (K:=K) Y0) Y1) (fh (fq eI)) fW) (fh (fq (fg ly eI (fg f9 Y1 (iD (K:=K) Y0)))))),?_⟩;extract_lets;refine⟨(),p,aH,dx,_,(),hp,ZZ.aq.cl,ZZ.aw,rfl,(),(()),(),io (λc=>?_) (λc=>?_)⟩
 ·have e:mr b l=0:=by unfold mr;rw[if_pos c]
  rw[e] at q;exact q
 ·have e:mr b l=1*2^(l-b).toNat:=by unfold mr;rw[if_neg c]
  rw[e] at q;have:=hl.1.2;exact⟨(),(),p,aH,dx,_,(),hp,ZZ.aq.cl,ZZ.aw,rfl,(()),(()),⟨⋯,⋯,by decide⟩,q⟩
theorem S0:Dm P w mg base ZZ.b5 1 (QC K aI):=by
 refine ZZ.b5.dfs XG (by trivial) ?_;rintro _ _ _ _ s H _ Q E hr⟨p,dx,m,rfl,hp,q⟩;refine⟨_,(fh (jn Y0 Y1)),?_⟩;exact⟨(),(),p,aI,dx,[],rfl,hp,ZZ.az.cl,ZZ.a0,(by show 0<1000;decide),q⟩
theorem PC:Dm P w mg base ZZ.dr 3 (QN K aI):=by
 refine ZZ.dr.dfs Vd (by trivial) ?_;rintro _ _ _ _ s H _ Q E hr⟨p,dx,d,l,fi,rfl,hp,ok,q⟩;refine⟨_,(fj (fR (fH j5 (iD (K:=K) Y0) Y1) (fh (fq eI)) fW) (fh (fq (fg ly eI (eD (NL ZZ) hr (A3 (iD (K:=K) Y0) Y1 Y2)))))),?_⟩;extract_lets;refine⟨(),p,aI,dx,_,(),hp,ZZ.az.cl,ZZ.a0,rfl,(),(()),(),io (λc=>?_) (λc=>?_)⟩
 ·have e:mO d l fi=0:=by unfold mO;rw[if_pos c]
  rw[e] at q;exact q
 ·have e:mO d l fi=1*2^(nw d l fi).toNat:=by unfold mO;rw[if_neg c]
  rw[e] at q;have hn:=Im ok ⋯;exact⟨(),p,aI,dx,_,(),hp,ZZ.az.cl,ZZ.a0,rfl,(),(),_,_,(),(()),⟨⋯,⋯,by decide⟩,q⟩
theorem WG:Dm P w mg base ZZ.b6 3 (Vb K aM):=by
 refine ZZ.b6.dfs W4 (by trivial) ?_;rintro _ _ _ _ s H _ Q E hr⟨p,dx,l,fi,rfl,hp,ok,q⟩;refine⟨_,(fh (fq (fg ly eI (eD (NL ZZ) hr (A3 Y1 Y1 Y2))))),?_⟩;have hn:=Im ok (aZ _);exact⟨(),(),(),_,_,(),(()),⟨⋯,⋯,by decide⟩,q⟩
theorem WN:Dm P w mg base ZZ.bo 1 (YW K aG):=by
 refine ZZ.bo.dfs Wi (by trivial) ?_;rintro _ _ _ _ s H _ Q E hr⟨p,dx,m,rfl,hp,q⟩;refine⟨_,(fh (jn Y0 Y1)),?_⟩;exact⟨(),(),p,aG,dx,[],rfl,hp,ZZ.al.cl,ZZ.a1,(by show 0<1000;decide),q⟩
theorem XX:Dm P w mg base ZZ.b7 2 (X5 K aG):=by
 refine ZZ.b7.dfs U3 (by trivial) ?_;rintro _ _ _ _ s H _ Q E hr⟨p,dx,m,l,fi,rfl,hp,hm,⟨hl,hf⟩,q⟩;refine⟨_,(fj (fu 3 eI U3.nd) (fj (iz (mR ZZ.ae (A1 eI)) (gN 4 U3.nd) (fh (fu 3 (fg mT Y3 (fg ly (iD (K:=K) Y0) (fg iu eI Y4))) U3.nd)) PassesOwn.never) (fh (fq (fg oE (fg ly (fg sQ Y3 Y2) eI) (eD (wI ZZ) hr (A1 Y1))))))),?_⟩;extract_lets;have hb:=QQ m (qW hm.1 hm.2);refine⟨(),by decide,by decide,sx (λi σ H2=>H2=H/\∃u:Option V,σ=[some (.ref p),some (.int l),some (.int fi),some (.int (qb m i)),u]) ⟨rfl,()⟩ ?_ ?_⟩
 ·rintro i σ H2 hi ⟨rfl,u,rfl⟩;have hi':i<6:=hi;exact⟨(),(),p,aG,dx,_,(),hp,ZZ.al.cl,ZZ.a1,rfl,(),(()),.inl ⟨by decide,by decide⟩,(()),⟨⋯,⋯,(by show m.natAbs<2^64;omega)⟩,(()),rfl,()⟩
 ·rintro σ H2 ⟨rfl,u,rfl⟩;exact⟨(),(),(()),hf.1,(()),⟨by decide,by decide,hb.2 fi (jL hf.1 hf.2)⟩,(),(),hl,(()),q⟩
theorem RQ:Dm P w mg base ZZ.ck 1 (RV K aE):=by
 refine ZZ.ck.dfs ZY (by trivial) ?_;rintro _ _ _ _ s H _ Q E hr⟨p,dx,wd,m,rfl,hp,q⟩;refine⟨_,(fj (jn Y0 Y1) (fh (jn Y0 Y2))),?_⟩;extract_lets;exact⟨(),(),p,aE,dx,[],rfl,hp,ZZ.a2.cl,ZZ.a9,(by show 0<1000;decide),(),(),p,aE,dx,(),fk,ZZ.a2.cl,ZZ.bi,(by show 1<1000;decide),q⟩
theorem Qf:Dm P w mg base ZZ.ec 2 (OB K aE):=by
 refine ZZ.ec.dfs U0 (by trivial) ?_;rintro _ _ _ _ s H _ Q E hr⟨p,dx,wd,m,l,fi,rfl,hp,hw,hm,⟨hl,hf⟩,q⟩;refine⟨_,(fj (fu 3 (fg fV (eD (Qo ZZ) hr (A2 (iD (K:=K) Y0) Y2)) (fg iu eI (fg f9 (iD (K:=K) Y0) eI))) U0.nd) (fj (fR (fH j5 Y3 Y1) (fh (fq eI)) fW) (fh (fq (fg ly eI Y3))))),?_⟩;extract_lets;have hn:=PD l (lZ hl.1 hl.2) fi (jL hf.1 hf.2) wd (jL hw.1 hw.2) m (xl hm.1 hm.2)
 refine⟨(),p,aE,dx,_,(),hp,ZZ.a2.cl,ZZ.a9,UU _ _,(),_,(),(),p,aE,dx,_,(),hp,ZZ.a2.cl,ZZ.bi,TR _ _,(()),(()),.inl ⟨by decide,by decide⟩,(()),?_⟩;refine⟨(),(),(()),(),io (λc=>?_) (λc=>?_)⟩
 ·have e:ky wd m l fi=0:=by unfold ky;rw[if_pos (show l<lA wd m fi from c)]
  rw[e] at q;exact q
 ·have e:ky wd m l fi=1*2^(lA wd m fi).toNat:=by unfold ky;rw[if_neg (show ¬l<lA wd m fi from c)]
  rw[e] at q;exact⟨(),(()),⟨hn.2.2.1,Int.le_trans hn.2.2.2 (by decide),by decide⟩,q⟩
theorem UX:Dm P w mg base ZZ.bt 1 (XI K aJ):=by
 refine ZZ.bt.dfs O6 (by trivial) ?_;rintro _ _ _ _ s H _ Q E hr⟨p,dx,m,rfl,hp,q⟩;refine⟨_,(fh (jn Y0 Y1)),?_⟩;exact⟨(),(),p,aJ,dx,[],rfl,hp,ZZ.ar.cl,ZZ.au,(by show 0<1000;decide),q⟩
theorem TK:Dm P w mg base ZZ.cl 2 (XH K aJ):=by
 refine ZZ.cl.dfs Zo (by trivial) ?_;rintro _ _ _ _ s H _ Q E hr⟨p,dx,wd,l,fi,rfl,hp,hw,⟨hl,hf⟩,q⟩;refine⟨_,(fh (fq (fg ly eI (fg f9 Y1 (fg gr (fg f9 (eD (C6 ZZ) hr (A2 Y1 Y2)) (iD (K:=K) Y0)) eI))))),?_⟩;have hn:=PZ l (lZ hl.1 hl.2) fi (jL hf.1 hf.2) wd (jL hw.1 hw.2);exact⟨(),(),(),_,(),(),p,aJ,dx,_,(),hp,ZZ.ar.cl,ZZ.au,rfl,(()),(()),(by show (0:Int)<7;decide),(()),(()),⟨hn.2.1,Int.le_trans hn.2.2 (by decide),by decide⟩,q⟩
theorem PB:Dx P w base ZZ.ed 4 (ZR K):=by
 refine ZZ.ed.dfs Ui (by trivial) ?_;rintro _ _ _ _ s H _ Q E hr⟨b,ps,ks,l,fi,rfl,hB,fM,oM,hlf,q⟩;refine⟨_,(fj (fu 3 eI Ui.nd) (fj (iz (iV (K:=K) Y0) (gN 4 Ui.nd) (fh (fu 3 (fg mT Y3 (kO (i8 ZZ.ap.cl (V1 ZZ) hr Y4 (A2 Y1 Y2)) (kO (i8 ZZ.aq.cl (Wl ZZ) hr Y4 (A2 Y1 Y2)) (kO (i8 ZZ.az.cl (PC ZZ) hr Y4 (A2 Y1 Y2)) (kO (i8 ZZ.bh.cl (WG ZZ) hr Y4 (A2 Y1 Y2)) (kO (i8 ZZ.al.cl (XX ZZ) hr Y4 (A2 Y1 Y2)) (kO (i8 ZZ.a2.cl (Qf ZZ) hr Y4 (A2 Y1 Y2)) (kO (i8 ZZ.ar.cl (TK ZZ) hr Y4 (A2 Y1 Y2)) (i8 ZZ.ex.cl (So ZZ) hr Y4 (A2 Y1 Y2)))))))))) Ui.nd)) PassesOwn.never) (fh (fq Y3)))),?_⟩
 extract_lets;refine⟨(),b,rfl,⟨_,hB⟩,j8 (K:=K) (a:=b) (xs:=ps.map V.ref) (λi σ H2=>H2=H/\∃u4:Option V,σ=[some (.ref b),some (.int l),some (.int fi),some (.int (jt (ks.take i) l fi)),u4]) ⟨rfl,()⟩ (λi σ H2 _ hP=>by rw[hP.1];exact hB) ?turn ?done⟩
 case done=>
  rintro σ H2 ⟨rfl,u4,rfl⟩;have el:(ps.map V.ref).length=ks.length:=by rw[aQ];exact Paired.length fM
  rw[el,bQ];exact⟨(),q⟩
 case turn=>
  rintro i x σ H2 hx ⟨rfl,u4,rfl⟩;rw[aX] at hx;cases ez:ps[i]? with
  |none=>rw[ez] at hx;cases hx
  |some p=>
   rw[ez] at hx;obtain rfl:V.ref p=x:=bH hx;obtain⟨k,ek,hk⟩:=Ft.get fM ez;have hok:=oM k (bA ek);have et:jt (ks.take (i+1)) l fi=Builtin.bitOr (jt (ks.take i) l fi) (k.due l fi):=by
    rw[cH,ek];exact R3 _ _ _ _
   rw[et];cases k with
   |num m=>
    obtain⟨dx,hp⟩:=hk;exact⟨(),(.inl ⟨(),p,dx,(),hp,rfl,(),(),p,dx,m,l,fi,rfl,hp,hlf,(()),rfl,()⟩)⟩
   |lst b=>
    obtain⟨dx,hp⟩:=hk;exact⟨(),(.inr (.inl ⟨(),p,dx,(),hp,rfl,(),(),p,dx,b,l,fi,rfl,hp,hok,hlf,(()),rfl,()⟩))⟩
   |nea d=>
    obtain⟨dx,hp⟩:=hk;exact⟨(),(.inr (.inr (.inl ⟨(),p,dx,(),hp,rfl,(),(),p,dx,d,l,fi,rfl,hp,⟨hok,hlf⟩,(()),rfl,()⟩)))⟩
   |wrk=>
    obtain⟨dx,hp⟩:=hk;exact⟨(),(.inr (.inr (.inr (.inl ⟨(),p,dx,(),hp,rfl,(),(),p,dx,l,fi,rfl,hp,hlf.last,(()),rfl,()⟩))))⟩
   |wkd m=>
    obtain⟨dx,hp⟩:=hk;exact⟨(),(.inr (.inr (.inr (.inr (.inl ⟨(),p,dx,(),hp,rfl,(),(),p,dx,m,l,fi,rfl,hp,hok,hlf,(()),rfl,()⟩)))))⟩
   |nth w m=>
    obtain⟨dx,hp⟩:=hk;exact⟨(),(.inr (.inr (.inr (.inr (.inr (.inl ⟨(),p,dx,(),hp,TH _ _,(),(),p,dx,w,m,l,fi,rfl,hp,hok.1,hok.2,hlf,(()),rfl,()⟩))))))⟩
   |one w=>
    obtain⟨dx,hp⟩:=hk;exact⟨(),(.inr (.inr (.inr (.inr (.inr (.inr (.inl ⟨(),p,dx,(),hp,rfl,(),(),p,dx,w,l,fi,rfl,hp,hok,hlf,(()),rfl,()⟩)))))))⟩
   |nil=>
    obtain⟨dx,hp⟩:=hk;exact⟨(),(.inr (.inr (.inr (.inr (.inr (.inr (.inr ⟨(),p,dx,(),hp,rfl,(),(),p,l,fi,rfl,(()),rfl,()⟩)))))))⟩
theorem QD:Dx P w base ZZ.b8 4 (O2 K):=by
 refine ZZ.b8.dfs Ux (by trivial) ?_;rintro _ _ _ _ s H _ Q E hr⟨t,rfl,hl,q⟩;refine⟨_,(fj (fR (fH gp Y0 (gH [76])) (fh (fq (tD ZZ.aq (Kb ZZ) hr))) fW) (fj (fR (fH gp Y0 (gH [76,87])) (fh (fq (xu ZZ.bh ZZ.d1))) fW) (fj (fR (ix (xU Y0 (gH [76,45]))) (fj (fu 1 (eD (oh ZZ) hr (A3 (kJ wn Y0 (kI eI) kn) eI (f6 (v:=.int 30) ZZ.di ⟨()⟩))) Ux.nd) (fh (fq (l6 (fH jX Y1 eN) eN (mf ZZ.aq (Kb ZZ).dfm hr (A1 Y1)))))) fW) (fj (fR (ix (HI Y0 (gH [87]))) (fj (fu 2 (eD (oh ZZ) hr (A3 (kJ wn Y0 kn (kI (lV lK eI))) eI (f6 (v:=.int 31) ZZ.bj ⟨()⟩))) Ux.nd) (fh (fq (l6 (fH jX Y2 eN) eN (mf ZZ.az (S0 ZZ) hr (A1 Y2)))))) fW) (fh (fq eN)))))),?_⟩
 extract_lets;have hz:t.length<=sizeLine:=by rw[eJ];omega
 have hc1:=qP t (some 2) none;have hc2:=qP t none (some (-1));refine⟨(),rfl,(),rY (λc=>?a0) (λc1=>⟨(),rfl,(),rY (λc=>?a1) (λc2=>⟨(),rfl,t,[76,45],rfl,rfl,(),io (λc=>?a2) (λc3=>⟨(),rfl,t,87,rfl,rfl,(),io (λc=>?a3) (λc4=>?a4)⟩)⟩)⟩)⟩
 case a0=>
  have e:jR t=some (.lst 0):=by unfold jR;rw[if_pos c]
  rw[e] at q;exact λxo dx nx ndx nex=>⟨xo,dx,0,rfl,fk,rfl,q _ _ (nU nx ndx) ⟨xo,rfl,dx,fk⟩⟩
 case a1=>
  have e:jR t=some .wrk:=by unfold jR;rw[if_neg c1,if_pos c]
  rw[e] at q;exact λxo dx nx ndx nex=>q _ _ (xS nx ndx) ⟨xo,rfl,dx,fk⟩
 case a2=>
  have e:jR t=(gx 1 30 (i7 t (some 2) none)).map Mk.lst:=by unfold jR;rw[if_neg c1,if_neg c2,if_pos c]
  rw[e] at q;refine⟨(),(),t,rfl,hz,_,1,30,rfl,⋯,λH1 s1=>?_⟩;cases en:gx 1 30 (i7 t (some 2) none) with
  |none=>
   rw[en] at q;exact⟨(),rfl,(),kh rfl (q _ _ s1 rfl)⟩
  |some b=>
   rw[en] at q;exact⟨(),rfl,(),iP rfl ⟨(),λxo dx nx ndx nex=>⟨xo,dx,(),fk,rfl,q _ _ (s1.trans (nU nx ndx)) ⟨xo,rfl,dx,fk⟩⟩⟩⟩
 case a3=>
  have e:jR t=(gx 1 31 (i7 t none (some (-1)))).map Mk.nea:=by unfold jR;rw[if_neg c1,if_neg c2,if_neg c3,if_pos c]
  rw[e] at q;refine⟨(),(),(),t,rfl,hz,_,1,31,rfl,⋯,λH1 s1=>?_⟩;cases en:gx 1 31 (i7 t none (some (-1))) with
  |none=>
   rw[en] at q;exact⟨(),rfl,(),kh rfl (q _ _ s1 rfl)⟩
  |some b=>
   rw[en] at q;exact⟨(),rfl,(),iP rfl ⟨(),λxo dx nx ndx nex=>⟨xo,dx,(),fk,rfl,q _ _ (s1.trans (nU nx ndx)) ⟨xo,rfl,dx,fk⟩⟩⟩⟩
 case a4=>
  have e:jR t=none:=by unfold jR;rw[if_neg c1,if_neg c2,if_neg c3,if_neg c4]
  rw[e] at q;exact q _ _ (Same.refl H) rfl
theorem KG:Dx P w base ZZ.cm 4 (O7 K):=by
 refine ZZ.cm.dfs UG (by trivial) ?_;rintro _ _ _ _ s H _ Q E hr⟨t,rfl,hl,q⟩;refine⟨_,(fj (fu 1 (eD (oh ZZ) hr (A3 Y0 eI (f6 (v:=.int 7) ZZ.ak ⟨()⟩))) UG.nd) (fh (fq (l6 (fH gp Y1 (f6 (v:=.int 7) ZZ.ak ⟨()⟩)) (f6 (v:=.int 0) ZZ.bx ⟨()⟩) Y1)))),?_⟩;extract_lets;refine⟨(),t,0,7,rfl,⋯,λH1 s1=>?_⟩;cases en:gx 0 7 t with
 |none=>
  have e:kz t=none:=by unfold kz;rw[en];rfl
  rw[e] at q;exact⟨(),rfl,(),iP (eV λz=>nomatch z) ⟨(),q _ s1⟩⟩
 |some n=>
  have e:kz t=some (if n=7 then 0 else n):=by unfold kz;rw[en];rfl
  rw[e] at q;refine⟨(),rfl,(),gn (λc=>?_) (λc=>⟨(),?_⟩)⟩
  ·rw[if_pos c] at q;exact q _ s1
  ·rw[if_neg c] at q;exact q _ s1
theorem Sn:Dx P w base ZZ.bp 5 (Pb K):=by
 refine ZZ.bp.dfs UH (by trivial) ?_;rintro _ _ _ _ s H _ Q E hr⟨t,rfl,hl,q⟩;refine⟨_,(fj (fR (ix (HI Y0 (gH [76]))) (fj (fu 1 (eD (KG ZZ) hr (A1 (kJ wn Y0 kn (kI (lV lK eI))))) UH.nd) (fh (fq (l6 (fH jX Y1 eN) eN (mf ZZ.ar (UX ZZ) hr (A1 Y1)))))) fW) (fj (fu 2 (oO Y0 (gH [35])) UH.nd) (fj (fR (fH mn (gy (jQ (K:=K)) ZZ.af PySem.boot_len (A1 Y2)) eI) (fh (fq eN)) fW) (fj (fu 1 (eD (KG ZZ) hr (A1 (fo (fO (K:=K)) Y2 eI))) UH.nd) (fj (fu 3 (eD (oh ZZ) hr (A3 (fo (fO (K:=K)) Y2 eI) eI (f6 (v:=.int 5) ZZ.d3 ⟨()⟩))) UH.nd) (fj (fR (tW (jY (fH jX Y1 eN) (ka (fH jX Y3 eN)))) (fh (fq eN)) fW) (fh (fq (mf ZZ.a2 (RQ ZZ) hr (A2 Y1 Y3)))))))))),?_⟩
 extract_lets;have hz:t.length<=sizeLine:=by rw[eJ];omega
 have hc2:=qP t none (some (-1));have hsl:=pC 35 t;have hml:=ot 35 t;refine⟨(),rfl,t,76,rfl,rfl,(),io (λc=>?a0) (λc1=>?a1)⟩
 case a0=>
  have e:lG t=(kz (i7 t none (some (-1)))).map Mk.one:=by unfold lG;rw[if_pos c]
  rw[e] at q;refine⟨(),(),(),t,rfl,hz,(),⋯,λH1 s1=>?_⟩;cases en:kz (i7 t none (some (-1))) with
  |none=>
   rw[en] at q;exact⟨(),rfl,(),kh rfl (q _ _ s1 rfl)⟩
  |some b=>
   rw[en] at q;exact⟨(),rfl,(),iP rfl ⟨(),λxo dx nx ndx nex=>⟨xo,dx,(),fk,rfl,q _ _ (s1.trans (nU nx ndx)) ⟨xo,rfl,dx,fk⟩⟩⟩⟩
 case a1=>
  refine⟨(),rfl,t,35,rfl,rfl,(by rw[eJ];omega),λps hps=>?_⟩;have s0:=fm hps (.lst ((fv 35 t).map λq=>V.str (Tx q)));refine⟨(),ps,(),.inl (SqL.of fk),rfl,(),?_⟩;have two:(∃a b,fv 35 t=[a,b])∨(∀a b,fv 35 t≠[a,b]):=by
   by_cases z:∃a b,fv 35 t=[a,b]
   ·exact .inl z
   ·exact .inr λr s e=>z ⟨r,s,e⟩
  rcases two with ⟨a,b,e2⟩ | hno
  ·have e:lG t=Iv (kz a) (gx 1 5 b):=by unfold lG;rw[if_neg c1,e2]
   rw[e] at q;have h1:=hml a (by rw[e2];simp);have h2:=hml b (by rw[e2];simp);rw[e2];refine iP rfl ⟨(),ps,_,(()),SqL.of fk,rfl,a,rfl,⋯,λH1 s1=>?_⟩;refine⟨(),ps,_,(()),SqL.of (s1 _ _ fk),rfl,b,1,5,rfl,⋯,λH2 s2=>?_⟩;rw[e2] at s0;cases ew:kz a with
   |none=>
    rw[ew] at q;exact⟨(),rfl,(),kh rfl (q _ _ (s0.trans (s1.trans s2)) rfl)⟩
   |some wd=>
    rw[ew] at q;refine⟨(),rfl,(),iP rfl ⟨(),rfl,(),?_⟩⟩;cases en:gx 1 5 b with
    |none=>
     rw[en] at q;exact kh rfl (q _ _ (s0.trans (s1.trans s2)) rfl)
    |some m=>
     rw[en] at q;exact iP rfl ⟨(),(),λxo dx nx ndx nex=>⟨xo,dx,_,(),fk,rfl,q _ _ (s0.trans (s1.trans (s2.trans (Tc nx ndx)))) ⟨xo,rfl,dx,fk⟩⟩⟩
  ·have hlen:¬(fv 35 t).length=2:=λe=>by
    match h:fv 35 t,e with
    |[r,s],_=>exact hno r s h
   have e:lG t=none:=by
    unfold lG;rw[if_neg c1];split
    ·rename_i a b h;exact absurd h (hno a b)
    ·rfl
   rw[e] at q;refine kh ?_ (q _ _ s0 rfl);rw[eV λz=>hlen (by have z:=V.int.inj z;rw[aQ] at z;omega)];rfl
theorem N9:Dx P w base ZZ.dc 7 (Sr K aK aL):=by
 refine ZZ.dc.dfs UB (by trivial) ?_;rintro _ _ _ _ s H _ Q E hr⟨l,lo,hi,wk,rfl,hb,hok,q⟩;refine⟨_,(fj (fR (tW (jY (jE (ix (gy mS ZZ.aa PyProof.Rows.boot_isinstance (A2 Y0 (lc ZZ.ad PyProof.Rows.boot_str))))) (ka (fH j5 (gy ye ZZ.af PySem.boot_len (A1 Y0)) (f6 (v:=.int 300) ZZ.bd ⟨()⟩))))) (fh jw) fW) (fj (fu 4 (oO Y0 (gH [44])) UB.nd) (fj (fu 5 eI UB.nd) (fj (fu 6 (gM aN) UB.nd) (fj (iz (iE ZZ.ax (kJ (oQ (K:=K)) Y4 kn (kI (f6 (v:=.int 40) ZZ.aj ⟨()⟩)))) (mJ (K:=K) (gE (gN 7 UB.nd) (gE (gN 8 UB.nd) kW))) (fj (fu 9 (eD (Ec ZZ) hr (A3 Y8 Y1 Y2)) UB.nd) (fh (fR (fH jX Y9 eN) (fj (fu 10 (kO (JT ((QD ZZ).at_ ZZ.a6) hr Y3 (A1 Y8)) (JT ((Sn ZZ).at_ ZZ.ao) hr Y3 (A1 Y8))) UB.nd) (fj (fR (tW (jY (fH jX (v_ 10) eN) (ka (fH gp (gy (jQ (K:=K)) ZZ.af PySem.boot_len (A1 Y6)) (f6 (v:=.int 20) ZZ.c5 ⟨()⟩))))) (fh jw) fW) (fh (kr (lI Y6 (v_ 10)))))) (fh (fu 5 (fg mT Y5 Y9) UB.nd))))) PassesOwn.never) (fj (fR (fH j5 (gy (jQ (K:=K)) ZZ.af PySem.boot_len (A1 Y4)) (f6 (v:=.int 40) ZZ.aj ⟨()⟩)) (fh jw) fW) (fh (fq (iH (A2 Y5 Y6)))))))))),?_⟩
 extract_lets;have hl:=hok.len;have hml:=ot 44 l;refine⟨(),_,.str,.str,rfl,(by decide),rfl,(),iP rfl ⟨(),l,rfl,(by rw[eJ];omega),(()),(),?_⟩⟩;rw[eV (show ¬(300:Int)<((l.length:Nat):Int) by omega)];refine gf ⟨(),rfl,l,44,rfl,rfl,(by rw[eJ];omega),λps hps=>?_⟩;have s0:=fm hps (.lst ((fv 44 l).map λq=>V.str (Tx q)));refine⟨(zL 0),λmk hmk=>?_⟩;have s1:=fm hmk (.lst []);refine⟨(),(),ps,(),SqL.of (s1 _ _ fk),λpc hpc=>?_⟩
 have ecut:iI ((fv 44 l).map λq=>V.str (Tx q)) none (some 40)=(fv 44 l).map λq=>V.str (Tx q):=ND (by rw[aQ];exact hok.few);rw[ecut];have hne:pc≠mk:=λe=>by
  rw[e,fk] at hpc;cases hpc
 have s1b:=fm hpc (.lst ((fv 44 l).map λq=>V.str (Tx q)));refine⟨pc,rfl,⟨_,SqL.of fk⟩,JD (K:=K) (a:=pc) (xs:=(fv 44 l).map λq=>V.str (Tx q)) (λi σ H2=>∃(u1 u2 u3 u4:Option V) (qs:List Addr),σ=[some (.str (Tx l)),some (.int lo),some (.int hi),some (.ref (if wk=true then aL else aK)),some (.ref ps),some (.int (gm (gU lo hi ((fv 44 l).take i)))),some (.ref mk),u1,u2,u3,u4]/\Same (upd H ps (.lst ((fv 44 l).map λq=>V.str (Tx q)))) H2/\H2 pc=some (.lst ((fv 44 l).map λq=>V.str (Tx q)))/\H2 mk=some (.lst (qs.map V.ref))/\Ft (MkAt ij H2) qs (ip wk lo hi ((fv 44 l).take i))) ⟨_,_,_,_,[],rfl,s1.trans s1b,fk,s1b _ _ fk,.nil⟩ (λi σ H2 _ ⟨_,_,_,_,_,_,_,h,_⟩=>SqL.of h) ?turn ?done⟩
 case turn=>
  rintro i x σ H2 T hx ⟨u1,u2,u3,u4,qs,rfl,s2,h2c,h2m,hq⟩ hT;rw[aX] at hx;cases ew:(fv 44 l)[i]? with
  |none=>rw[ew] at hx;cases hx
  |some w0=>
   rw[ew] at hx;obtain rfl:V.str (Tx w0)=x:=bH hx;have hw:=hml w0 (bA ew);refine⟨T,(),SqT.of fk,rfl,_,(),(()),?_⟩;refine⟨(),(),(),w0,lo,hi,rfl,⋯,hb,λH3 s3=>?_⟩;cases em:gA lo hi w0 with
   |some m=>
    have et:(fv 44 l).take (i+1)=(fv 44 l).take i++[w0]:=by rw[cH,ew];rfl
    have s23:=(fm hT _).trans s3;refine⟨(),rfl,(),iP rfl ⟨(),(),(()),?_⟩⟩;exact⟨_,_,_,_,qs,by rw[et,W0 em,pk];rfl,s2.trans s23,s23 _ _ h2c,s23 _ _ h2m,by rw[et,Q4 em];exact hq.keepM s23.keep⟩
   |none=>
    cases wk with
    |false=>
     have hso:(kg false w0).isSome=true:=by
      rcases hok.all w0 (bA ew) with h | h
      ·rw[em] at h;cases h
      ·exact h
     obtain⟨k,ek⟩:=dW.mp hso;have ek':jR w0=some k:=ek;refine⟨(),rfl,(),kh rfl ?_⟩;refine .inl ⟨(),rfl,(),w0,rfl,⋯,λv H4 s4 hv=>?_⟩;rw[ek'] at hv;obtain⟨x,rfl,hx⟩:=hv;have s24:=(fm hT _).trans (s3.trans s4);have hq4:=hq.keepM s24.keep;have lq:qs.length=(ip false lo hi ((fv 44 l).take i)).length:=Paired.length hq;have l1:=DW false lo hi (fv 44 l) (i+1);have et:(fv 44 l).take (i+1)=(fv 44 l).take i++[w0]:=by rw[cH,ew];rfl
     rw[et,qL em ek,aV,b8] at l1;have hm20:=hok.most;refine⟨(),rfl,(),iP rfl ⟨(),mk,(),.inl (SqL.of (s24 _ _ h2m)),rfl,(),?_⟩⟩;refine gn (λc=>?_) (λc=>?_)
     ·rw[aQ] at c;omega
     refine⟨(),.inl ⟨rfl,_,SqL.of (s24 _ _ h2m)⟩,(),mk,(()),s24 _ _ h2m,(by rw[aQ,eJ];omega),?_⟩;have kp:=tT (l':=qs.map V.ref++[.ref x]) (s24 _ _ h2m);exact⟨_,_,_,_,qs++[x],by rw[et,AD em];rfl,kB hmk (s2.trans s24),by rw[fG hne];exact s24 _ _ h2c,by rw[aY];exact fk,by rw[et,qL em ek];exact Ft.app (hq4.keepM kp) (.cons (hx.keep kp) .nil)⟩
    |true=>
     have hso:(kg true w0).isSome=true:=by
      rcases hok.all w0 (bA ew) with h | h
      ·rw[em] at h;cases h
      ·exact h
     obtain⟨k,ek⟩:=dW.mp hso;have ek':lG w0=some k:=ek;refine⟨(),rfl,(),kh rfl ?_⟩;refine .inr ⟨(),rfl,(),w0,rfl,⋯,λv H4 s4 hv=>?_⟩;rw[ek'] at hv;obtain⟨x,rfl,hx⟩:=hv;have s24:=(fm hT _).trans (s3.trans s4);have hq4:=hq.keepM s24.keep;have lq:qs.length=(ip true lo hi ((fv 44 l).take i)).length:=Paired.length hq;have l1:=DW true lo hi (fv 44 l) (i+1);have et:(fv 44 l).take (i+1)=(fv 44 l).take i++[w0]:=by rw[cH,ew];rfl
     rw[et,qL em ek,aV,b8] at l1;have hm20:=hok.most;refine⟨(),rfl,(),iP rfl ⟨(),mk,(),.inl (SqL.of (s24 _ _ h2m)),rfl,(),?_⟩⟩;refine gn (λc=>?_) (λc=>?_)
     ·rw[aQ] at c;omega
     refine⟨(),.inl ⟨rfl,_,SqL.of (s24 _ _ h2m)⟩,(),mk,(()),s24 _ _ h2m,(by rw[aQ,eJ];omega),?_⟩;have kp:=tT (l':=qs.map V.ref++[.ref x]) (s24 _ _ h2m);exact⟨_,_,_,_,qs++[x],by rw[et,AD em];rfl,kB hmk (s2.trans s24),by rw[fG hne];exact s24 _ _ h2c,by rw[aY];exact fk,by rw[et,qL em ek];exact Ft.app (hq4.keepM kp) (.cons (hx.keep kp) .nil)⟩
 case done=>
  rintro σ H2 ⟨u1,u2,u3,u4,qs,rfl,s2,h2c,h2m,hq⟩;refine⟨(),ps,(),.inl (SqL.of (s2 _ _ fk)),(()),(),?_⟩;have hfew:=hok.few;rw[eV (show ¬(40:Int)<((((fv 44 l).map λq=>V.str (Tx q)).length:Nat):Int) by rw[aQ];omega)];rw[aQ,bQ] at hq ⊢;refine gf ⟨(),(),(zL 2),λp hp=>?_⟩;have s3:=fm hp (.tup [.int (gm (gU lo hi (fv 44 l))),.ref mk]);exact q p mk qs _ (none_of s0 hmk) (s0.trans (s2.trans s3)) fk (s3 _ _ h2m) (hq.keepM s3.keep)
theorem RS:Dx P w base ZZ.ds 8 (Zh K):=by
 refine ZZ.ds.dfs Uy (by trivial) ?_;rintro _ _ _ _ s H _ Q E hr⟨l,rfl,hok,q1,q2⟩;refine⟨_,(fj (fu 1 (eD (N9 ZZ) hr (aC Y0 (A3 eI (f6 (v:=.int 31) ZZ.bj ⟨()⟩) (f6 (v:=.ref aK) ZZ.a6 rfl)))) Uy.nd) (fj (fR (fH gp Y0 (gH [42])) (fh (fq eN)) fW) (fj (fR (fH gp (fo (gg (K:=K)) Y1 eI) eI) (fh (fq (fo (gg (K:=K)) Y1 eI))) fW) (fh (fq (fg zN (gM (A1 (mf ZZ.ap (Z9 ZZ) hr (A1 (fo (gg (K:=K)) Y1 eI))))) (fo (gg (K:=K)) Y1 eI))))))),?_⟩
 extract_lets;refine⟨(),l,1,31,false,rfl,⟨by decide,by decide,by decide⟩,hok,λp m qs H1 hmn s1 hp hm hq=>?_⟩;have lq:qs.length<=20:=by
  have:=Paired.length hq;have:=hok.most;omega
 refine⟨(),rfl,(),rY (λc=>q1 c _ s1) (λc=>?_)⟩;have q2:=q2 c;unfold nk at q2;generalize ip false 1 31 (fv 44 l)=ms at hq q2;generalize gm (gU 1 31 (fv 44 l))=M at hp q2;refine⟨(),p,_,(()),SqT.of hp,rfl,rfl,(),gn (λc0=>⟨(),p,_,(()),SqT.of hp,rfl,q2 m qs _ hmn s1 hm ?_⟩) (λc0=>?_)⟩
 ·have e:kU false M=[]:=by unfold kU;rw[if_pos c0]
  rw[e];exact hq
 have e:kU false M=[.num M]:=by unfold kU;rw[if_neg c0];rfl
 rw[e] at q2;refine⟨(),p,_,(()),SqT.of hp,rfl,λxo dx nx ndx nex=>⟨xo,dx,(),fk,rfl,(zL 1),λl1 hl1=>?_⟩⟩;have n1:Same H1 (upd (upd (upd H1 dx (.own xo)) xo (.ins aF dx [])) xo (.ins aF dx [("mask",.int M)])):=nU nx ndx;have n2:=n1.trans (fm hl1 (.lst [.ref xo]));refine⟨(),p,_,(()),SqT.of (n2 _ _ hp),rfl,l1,m,(()),fk,n2 _ _ hm,(by rw[aQ,eJ];show 1+_<=_;omega),λl2 hl2=>?_⟩;have n3:=n2.trans (fm hl2 (.lst ([.ref xo]++qs.map V.ref)))
 exact q2 l2 (xo::qs) _ (none_of (s1.trans n2) hl2) (s1.trans n3) fk (.cons ⟨dx,(fm hl2 _) _ _ ((fm hl1 _) _ _ fk)⟩ (hq.keepM n3.keep))
theorem ah3:Dx P w base ZZ.b9 8 (T5 K):=by
 refine ZZ.b9.dfs UI (by trivial) ?_;rintro _ _ _ _ s H _ Q E hr⟨l,rfl,hok,q1,q2⟩;refine⟨_,(fj (fu 1 (eD (N9 ZZ) hr (aC Y0 (A3 eI (f6 (v:=.int 7) ZZ.ak ⟨()⟩) (f6 (v:=.ref aL) ZZ.ao rfl)))) UI.nd) (fj (fR (fH gp Y0 (gH [42])) (fh (fq eN)) fW) (fj (fR (fH gp (fo (gg (K:=K)) Y1 eI) eI) (fh (fq (fo (gg (K:=K)) Y1 eI))) fW) (fj (fu 2 (fg oE (fg mT (fo (gg (K:=K)) Y1 eI) (fg sQ (fo (gg (K:=K)) Y1 eI) (f6 (v:=.int 7) ZZ.ak ⟨()⟩))) (f6 (v:=.int 127) ZZ.ce ⟨()⟩)) UI.nd) (fh (fq (fg zN (gM (A1 (mf ZZ.al (WN ZZ) hr (A1 Y2)))) (fo (gg (K:=K)) Y1 eI)))))))),?_⟩
 extract_lets;refine⟨(),l,0,7,true,rfl,⟨by decide,by decide,by decide⟩,hok,λp m qs H1 hmn s1 hp hm hq=>?_⟩;have lq:qs.length<=20:=by
  have:=Paired.length hq;have:=hok.most;omega
 refine⟨(),rfl,(),rY (λc=>q1 c _ s1) (λc=>?_)⟩;have q2:=q2 c;unfold nk at q2;generalize ip true 0 7 (fv 44 l)=ms at hq q2;generalize gm (gU 0 7 (fv 44 l))=M at hp q2;refine⟨(),p,_,(()),SqT.of hp,rfl,rfl,(),gn (λc0=>⟨(),p,_,(()),SqT.of hp,rfl,q2 m qs _ hmn s1 hm ?_⟩) (λc0=>?_)⟩
 ·have e:kU true M=[]:=by unfold kU;rw[if_pos c0]
  rw[e];exact hq
 have e:kU true M=[.wkd (gJ M)]:=by unfold kU;rw[if_neg c0];rfl
 rw[e] at q2;refine⟨(),p,_,(()),SqT.of hp,rfl,(),p,_,(()),SqT.of hp,rfl,(()),(by show (0:Int)<=7;decide),(()),(()),?_⟩;refine⟨(),λxo dx nx ndx nex=>⟨xo,dx,(),fk,rfl,(zL 1),λl1 hl1=>?_⟩⟩;have n1:Same H1 (upd (upd (upd H1 dx (.own xo)) xo (.ins aG dx [])) xo (.ins aG dx [("mask",.int (gJ M))])):=nU nx ndx;have n2:=n1.trans (fm hl1 (.lst [.ref xo]));refine⟨(),p,_,(()),SqT.of (n2 _ _ hp),rfl,l1,m,(()),fk,n2 _ _ hm,(by rw[aQ,eJ];show 1+_<=_;omega),λl2 hl2=>?_⟩
 have n3:=n2.trans (fm hl2 (.lst ([.ref xo]++qs.map V.ref)));exact q2 l2 (xo::qs) _ (none_of (s1.trans n2) hl2) (s1.trans n3) fk (.cons ⟨dx,(fm hl2 _) _ _ ((fm hl1 _) _ _ fk)⟩ (hq.keepM n3.keep))
theorem Xm:Dx P w base ZZ.ee 3 (XA K):=by
 refine ZZ.ee.dfs Ur (by trivial) ?_;rintro _ _ _ _ s H _ Q E hr⟨k,rfl,hk,q⟩;refine⟨_,(fj (fu 1 (fg km Y0 eI) Ur.nd) (fj (fu 2 (fg gr Y0 eI) Ur.nd) (fj (fR (fH gp Y1 (f6 (v:=.int 12) ZZ.bc ⟨()⟩)) (fh (fq (iH (A3 eI (f6 (v:=.int 29) ZZ.dj ⟨()⟩) Y2)))) fW) (fh (fq (iH (A3 (fg fV Y1 eI) (eD (Fu ZZ) hr (A2 (f6 (v:=.int 1) ZZ.c6 ⟨()⟩) (fg fV Y1 eI))) Y2))))))),?_⟩;extract_lets
 refine⟨(),(()),⟨by decide,by decide⟩,?_⟩;refine⟨(),(()),(by show (0:Int)<7;decide),?_⟩;refine⟨(),rfl,(),gn (λc=>?_) (λc=>?_)⟩
 ·refine⟨(),(zL 3),λp hp=>?_⟩;exact q p _ (fm hp _) (by unfold nr;rw[if_pos c];exact fk)
 ·refine⟨(),(()),(),(()),_,(),⟨⋯,⋯⟩,(),(zL 3),λp hp=>?_⟩;exact q p _ (fm hp _) (by unfold nr;rw[if_neg c];exact fk)
theorem Vy:Dx P w base ZZ.ef 3 (Rm K):=by
 refine ZZ.ef.dfs UL (by trivial) ?_;rintro _ _ _ _ s H _ Q E hr⟨h,m,rfl,hh,hm,q⟩;refine⟨_,(fj (fu 2 eI UL.nd) (fj (iz (iV (K:=K) (eD (Eh ZZ) hr (A1 Y0))) (gN 3 UL.nd) (fh (fu 2 (fg mT Y2 (fg ly Y1 (fg iu (f6 (v:=.int 60) ZZ.cd ⟨()⟩) Y3))) UL.nd)) PassesOwn.never) (fh (fq Y2)))),?_⟩;extract_lets;have bh:=rL hh.1 hh.2;have bm:=rL hm.1 hm.2;refine⟨(),h,rfl,⟨hh.1,⋯⟩,λp H1 s1 h1=>⟨p,rfl,⟨_,SqL.of h1⟩,j8 (K:=K) (a:=p) (xs:=(kF h).map V.int) (λi σ H2=>∃(v3:Option V),σ=[some (.int h),some (.int m),some (.int (gm (((kF h).take i).map λz=>m*2^(60*z).toNat))),v3]/\Same H1 H2) ⟨(),Same.refl _⟩ (λi σ H2 _ ⟨_,_,s2⟩=>SqL.of (s2 _ _ h1)) ?turn ?done⟩⟩
 case done=>
  rintro σ H2 ⟨v3,rfl,s2⟩;rw[aQ,bQ];exact⟨(),q _ H2 rfl (s1.trans s2)⟩
 case turn=>
  rintro i x σ H2 hx ⟨v3,rfl,s2⟩;rw[aX] at hx;cases ez:(kF h)[i]? with
  |none=>rw[ez] at hx;cases hx
  |some z=>
   rw[ez] at hx;obtain rfl:V.int z=x:=bH hx;have et:gm (((kF h).take (i+1)).map λz=>m*2^(60*z).toNat)=Builtin.bitOr (gm (((kF h).take i).map λz=>m*2^(60*z).toNat)) (m*2^(60*z).toNat):=by rw[cH,ez,aY];exact pk _ _
   rw[et];have hz:=bA ez;rw[nZ hh.1 hh.2] at hz;obtain⟨n,hn,_,rfl⟩:=flt_mem.mp hz;refine⟨(),(),(),(()),.inl ⟨by decide,by decide⟩,(()),⟨?_,?_,?_⟩,(()),?_⟩
   ·omega
   ·omega
   ·omega
   ·exact⟨(),s2⟩
theorem Pr:Dx P w base ZZ.ep 5 (WQ K):=by
 refine ZZ.ep.dfs Ul (by trivial) ?_;rintro _ _ _ _ s H _ Q E hr⟨dv,wv,kd,kw,l,fi,rfl,hd,hw,hlf,q⟩;refine⟨_,(fj (fR (tW (qI (fH jX Y0 eN) (qU (fH jX Y1 eN)))) (fh (fq (eD (wI ZZ) hr (A1 Y2)))) fW) (fj (fu 4 eI Ul.nd) (fj (iz (iT (iH (A2 Y0 Y1))) (gN 5 Ul.nd) (fh (fR (fH LY Y5 eN) (fh (fu 4 (fg mT Y4 (eD (PB ZZ) hr (A3 Y5 Y2 Y3))) Ul.nd)) fW)) PassesOwn.never) (fh (fq Y4))))),?_⟩
 extract_lets;have loop:kd.isNone=false∨kw.isNone=false->iK kd kw l fi=jf kw (jf kd 0 l fi) l fi:=λh=>by
  unfold iK;rw[if_neg];rintro⟨h1,h2⟩;rcases h with h | h
  ·rw[h] at h1;cases h1
  ·rw[h] at h2;cases h2
 cases kd with
 |none=>
  have ed:dv=.non:=hd;subst ed;cases kw with
  |none=>
   have ew:wv=.non:=hw;subst ew;refine⟨(),rfl,(),?_⟩;show if decide (V.non=V.non)=true then _ else _
   rw[eS rfl];refine gZ ⟨(),rfl,(),?_⟩;show if decide (V.non=V.non)=true then _ else _
   rw[eS rfl];exact gZ ⟨(),l,rfl,hlf.1,q H (Same.refl _)⟩
  |some kw=>
   rw[loop (.inr rfl)] at q;refine⟨(),rfl,(),?_⟩;show if decide (V.non=V.non)=true then _ else _
   rw[eS rfl];obtain⟨pw,qw,rfl,lw,fw,ow⟩:=hw;refine gZ ⟨(),rfl,(),gf ?_⟩;refine⟨(),(),(zL 2),λtt ht=>⟨tt,rfl,⟨_,SqT.of fk⟩,rg (K:=K) (a:=tt) (xs:=[V.non,(V.ref pw)]) (λi σ H2=>∃v5:Option V,σ=[some V.non,some (V.ref pw),some (.int l),some (.int fi),some (.int (match i with | 0=>0 | 1=>jf none 0 l fi | _=>jf (some kw) (jf none 0 l fi) l fi)),v5]/\Same (upd H tt (.tup [V.non,(V.ref pw)])) H2) ⟨(),Same.refl _⟩ (λi σ H2 _ ⟨_,_,s2⟩=>SqT.of (s2 _ _ fk)) ?turn ?done⟩⟩
   case done=>
    rintro σ H2 ⟨v5,rfl,s2⟩;exact⟨(),q H2 ((fm ht _).trans s2)⟩
   case turn=>
    rintro i x σ H2 hx ⟨v5,rfl,s2⟩;have sA:=(fm ht (.tup [V.non,(V.ref pw)])).trans s2
    match i,hx with
    |0,hx=>
     cases hx;refine⟨(),rfl,(),?_⟩;show if (!decide (V.non=V.non))=true then _ else _
     rw[eS rfl];exact gf ⟨(),s2⟩
    |1,hx=>
     cases hx;exact⟨(),rfl,(),gZ ⟨(),(),(),(),pw,qw,kw,l,fi,rfl,SqL.of (sA _ _ lw),fw.keepM sA.keep,ow,hlf,(()),⟨(),s2⟩⟩⟩
    |i+2,hx=>cases hx
 |some kd=>
  rw[loop (.inl rfl)] at q;obtain⟨pd,qd,rfl,ld,fd,od⟩:=hd;refine⟨(),rfl,(),gf ?_⟩;cases kw with
  |none=>
   have ew:wv=.non:=hw;subst ew;refine⟨(),(),(zL 2),λtt ht=>⟨tt,rfl,⟨_,SqT.of fk⟩,rg (K:=K) (a:=tt) (xs:=[(V.ref pd),V.non]) (λi σ H2=>∃v5:Option V,σ=[some (V.ref pd),some V.non,some (.int l),some (.int fi),some (.int (match i with | 0=>0 | 1=>jf (some kd) 0 l fi | _=>jf none (jf (some kd) 0 l fi) l fi)),v5]/\Same (upd H tt (.tup [(V.ref pd),V.non])) H2) ⟨(),Same.refl _⟩ (λi σ H2 _ ⟨_,_,s2⟩=>SqT.of (s2 _ _ fk)) ?turn ?done⟩⟩
   case done=>
    rintro σ H2 ⟨v5,rfl,s2⟩;exact⟨(),q H2 ((fm ht _).trans s2)⟩
   case turn=>
    rintro i x σ H2 hx ⟨v5,rfl,s2⟩;have sA:=(fm ht (.tup [(V.ref pd),V.non])).trans s2
    match i,hx with
    |0,hx=>
     cases hx;exact⟨(),rfl,(),gZ ⟨(),(),(),(),pd,qd,kd,l,fi,rfl,SqL.of (sA _ _ ld),fd.keepM sA.keep,od,hlf,(()),⟨(),s2⟩⟩⟩
    |1,hx=>
     cases hx;refine⟨(),rfl,(),?_⟩;show if (!decide (V.non=V.non))=true then _ else _
     rw[eS rfl];exact gf ⟨(),s2⟩
    |i+2,hx=>cases hx
  |some kw=>
   obtain⟨pw,qw,rfl,lw,fw,ow⟩:=hw;refine⟨(),(),(zL 2),λtt ht=>⟨tt,rfl,⟨_,SqT.of fk⟩,rg (K:=K) (a:=tt) (xs:=[(V.ref pd),(V.ref pw)]) (λi σ H2=>∃v5:Option V,σ=[some (V.ref pd),some (V.ref pw),some (.int l),some (.int fi),some (.int (match i with | 0=>0 | 1=>jf (some kd) 0 l fi | _=>jf (some kw) (jf (some kd) 0 l fi) l fi)),v5]/\Same (upd H tt (.tup [(V.ref pd),(V.ref pw)])) H2) ⟨(),Same.refl _⟩ (λi σ H2 _ ⟨_,_,s2⟩=>SqT.of (s2 _ _ fk)) ?turn ?done⟩⟩
   case done=>
    rintro σ H2 ⟨v5,rfl,s2⟩;exact⟨(),q H2 ((fm ht _).trans s2)⟩
   case turn=>
    rintro i x σ H2 hx ⟨v5,rfl,s2⟩;have sA:=(fm ht (.tup [(V.ref pd),(V.ref pw)])).trans s2
    match i,hx with
    |0,hx=>
     cases hx;exact⟨(),rfl,(),gZ ⟨(),(),(),(),pd,qd,kd,l,fi,rfl,SqL.of (sA _ _ ld),fd.keepM sA.keep,od,hlf,(()),⟨(),s2⟩⟩⟩
    |1,hx=>
     cases hx;exact⟨(),rfl,(),gZ ⟨(),(),(),(),pw,qw,kw,l,fi,rfl,SqL.of (sA _ _ lw),fw.keepM sA.keep,ow,hlf,(()),⟨(),s2⟩⟩⟩
    |i+2,hx=>cases hx
theorem Xr:Dm P w mg base ZZ.cn 4 (Wf K aA):=by
 refine ZZ.cn.dfs Yg (by trivial) ?_;rintro f _ _ _ s H _ Q E hr⟨p,dx,fa,m0,m1,m3,dv,wv,rfl,hp,hf,h0,h1,q⟩;refine⟨_,(fj (jn Y0 (fo (fO (K:=K)) Y1 (f6 (v:=.int 0) ZZ.es ⟨()⟩))) (fj (jn Y0 (fo (fO (K:=K)) Y1 (f6 (v:=.int 1) ZZ.e0 ⟨()⟩))) (fj (jn Y0 (fo (fO (K:=K)) Y1 (f6 (v:=.int 2) ZZ.d4 ⟨()⟩))) (fj (jn Y0 (fo (fO (K:=K)) Y1 (f6 (v:=.int 3) ZZ.ev ⟨()⟩))) (fj (jn Y0 (fo (fO (K:=K)) Y1 (f6 (v:=.int 4) ZZ.br ⟨()⟩))) (fh (jn Y0 (eD (Vy ZZ) hr (A2 (iD (K:=K) Y0) (iD (K:=K) Y0)))))))))),?_⟩
 extract_lets;have hfp:fa≠p:=λe=>by rw[e,hp] at hf;cases hf
 have g0:H fa=some (.lst [.int m0,.int m1,dv,.int m3,wv]):=hf;have g1:(upd H p (.ins aA dx (fK "minute_mask" (.int m0) []))) fa=some (.lst [.int m0,.int m1,dv,.int m3,wv]):=by rw[fG hfp];exact g0
 have g2:(upd (upd H p (.ins aA dx (fK "minute_mask" (.int m0) []))) p (.ins aA dx (fK "hour_mask" (.int m1) (fK "minute_mask" (.int m0) [])))) fa=some (.lst [.int m0,.int m1,dv,.int m3,wv]):=by rw[fG hfp];exact g1
 have g3:(upd (upd (upd H p (.ins aA dx (fK "minute_mask" (.int m0) []))) p (.ins aA dx (fK "hour_mask" (.int m1) (fK "minute_mask" (.int m0) [])))) p (.ins aA dx (fK "day_marks" dv (fK "hour_mask" (.int m1) (fK "minute_mask" (.int m0) []))))) fa=some (.lst [.int m0,.int m1,dv,.int m3,wv]):=by rw[fG hfp];exact g2
 have g4:(upd (upd (upd (upd H p (.ins aA dx (fK "minute_mask" (.int m0) []))) p (.ins aA dx (fK "hour_mask" (.int m1) (fK "minute_mask" (.int m0) [])))) p (.ins aA dx (fK "day_marks" dv (fK "hour_mask" (.int m1) (fK "minute_mask" (.int m0) []))))) p (.ins aA dx (fK "month_mask" (.int m3) (fK "day_marks" dv (fK "hour_mask" (.int m1) (fK "minute_mask" (.int m0) [])))))) fa=some (.lst [.int m0,.int m1,dv,.int m3,wv]):=by rw[fG hfp];exact g3
 have g5:(upd (upd (upd (upd (upd H p (.ins aA dx (fK "minute_mask" (.int m0) []))) p (.ins aA dx (fK "hour_mask" (.int m1) (fK "minute_mask" (.int m0) [])))) p (.ins aA dx (fK "day_marks" dv (fK "hour_mask" (.int m1) (fK "minute_mask" (.int m0) []))))) p (.ins aA dx (fK "month_mask" (.int m3) (fK "day_marks" dv (fK "hour_mask" (.int m1) (fK "minute_mask" (.int m0) [])))))) p (.ins aA dx (fK "weekday_marks" wv (fK "month_mask" (.int m3) (fK "day_marks" dv (fK "hour_mask" (.int m1) (fK "minute_mask" (.int m0) []))))))) fa=some (.lst [.int m0,.int m1,dv,.int m3,wv]):=by rw[fG hfp];exact g4
 have l5:∀(f:Str) (v:V),(ic m0 m1 dv m3 wv 0).lookup f=some v->f≠"time_mask"->(fK "weekday_marks" wv (fK "month_mask" (.int m3) (fK "day_marks" dv (fK "hour_mask" (.int m1) (fK "minute_mask" (.int m0) []))))).lookup f=some v:=λf v h hne=>by
  unfold ic at h;rw[gc,if_neg hne] at h;exact h
 refine⟨(),fa,_,(()),SqL.of g0,rfl,(),p,aA,dx,(),hp,ZZ.ac.cl,ZZ.av,(by show 0<1000;decide),(),fa,_,(()),SqL.of g1,rfl,(),p,aA,dx,(),fk,ZZ.ac.cl,ZZ.a3,(by show 1<1000;decide),(),fa,_,(()),SqL.of g2,rfl,(),p,aA,dx,(),fk,ZZ.ac.cl,ZZ.a4,(by show 2<1000;decide),(),fa,_,(()),SqL.of g3,rfl,(),p,aA,dx,(),fk,ZZ.ac.cl,ZZ.ay,(by show 3<1000;decide),(),fa,_,(()),SqL.of g4,rfl,(),p,aA,dx,(),fk,ZZ.ac.cl,ZZ.an,(by show 4<1000;decide),(),p,aA,dx,_,(),fk,ZZ.ac.cl,ZZ.a3,l5 _ _ (TM ..) (by decide +kernel),(),p,aA,dx,_,(),fk,ZZ.ac.cl,ZZ.av,l5 _ _ (Yk ..) (by decide +kernel),m1,m0,rfl,h1,h0,λt HT ht sT=>?_⟩
 refine⟨(),p,aA,dx,(),sT _ _ fk,ZZ.ac.cl,ZZ.a5,(by show 5<1000;decide),q t _ ht fk λb o hb hne=>?_⟩;rw[fG hne];refine sT _ _ ?_;rw[fG hne,fG hne,fG hne,fG hne,fG hne];exact hb
theorem Gp:Dm P w mg base ZZ.cy 6 (Yn K aA):=by
 refine ZZ.cy.dfs U1 (by trivial) ?_;rintro _ _ _ _ s H _ Q E hr⟨p,dx,m0,m1,m3,tm,k,dv,wv,kd,kw,rfl,hp,hk,hm,hd,hw,q⟩;refine⟨_,(fj (fu 2 (eD (Xm ZZ) hr (A1 Y1)) U1.nd) (fj (fR (jE (ix (eD (Mv ZZ) hr (A2 (iD (K:=K) Y0) (fo (gg (K:=K)) Y2 eI))))) (fh (fq eI)) fW) (fh (fq (eD (Pr ZZ) hr (aC (iD (K:=K) Y0) (A3 (iD (K:=K) Y0) (fo (gg (K:=K)) Y2 eI) (fo (gg (K:=K)) Y2 eI)))))))),?_⟩
 extract_lets;have ml:=me hk.1 hk.2;refine⟨(),k,rfl,hk,λt H1 s1 h1=>?_⟩;rw[Hj] at h1;have hp1:=s1 _ _ hp;refine⟨(),p,aA,dx,_,(),hp1,ZZ.ac.cl,ZZ.ay,UV ..,(),t,_,(()),SqT.of h1,rfl,m3,jg k,rfl,⟨hm,⋯⟩,(),?_⟩;by_cases c:tb m3 (jg k).toNat=true
 ·rw[if_pos c] at q;rw[c];refine gf ⟨(),p,aA,dx,_,(),hp1,ZZ.ac.cl,ZZ.a4,XB ..,(),p,aA,dx,_,(),hp1,ZZ.ac.cl,ZZ.an,P0 ..,(),t,_,(()),SqT.of h1,rfl,(),t,_,(()),SqT.of h1,rfl,dv,wv,kd,kw,gG k,k%7,rfl,hd.keep s1,hw.keep s1,ml.2,λH' s'=>q H' (s1.trans s')⟩
 ·have c':tb m3 (jg k).toNat=false:=by simpa using c
  rw[if_neg c] at q;rw[c'];exact gZ (q H1 s1)
theorem R9:Dx P w base ZZ.dt 9 (Tp K):=by
 refine ZZ.dt.dfs UJ (by trivial) ?_;rintro _ _ _ _ s H _ Q E hr⟨t,pl,rfl,h⟩;refine⟨_,(fj (fR (fH gp Y1 (f6 (v:=.int 2) ZZ.d4 ⟨()⟩)) (fh (fq (eD (RS ZZ) hr (A1 Y0)))) fW) (fj (fR (fH gp Y1 (f6 (v:=.int 4) ZZ.br ⟨()⟩)) (fh (fq (eD (ah3 ZZ) hr (A1 Y0)))) fW) (fj (fu 2 (ul (f6 (v:=.ref a_BOUNDS) ZZ.et rfl) Y1) UJ.nd) (fh (fq (eD (an1 ZZ) hr (A3 Y0 (fo (gg (K:=K)) Y2 eI) (fo (gg (K:=K)) Y2 eI)))))))),?_⟩
 extract_lets;rcases h with ⟨rfl,ko,hT,q⟩ | ⟨rfl,ko,hT,q⟩ | ⟨lo,hi,m,hp,hT,q⟩
 ·cases ko with
  |none=>
   have et:t=[42]:=hT.2.2;exact⟨(),rfl,(),gn (λ_=>⟨(),t,rfl,hT.2.1,(λ_ H' s'=>q _ H' s' rfl (λp e=>nomatch e)),(λc=>absurd et c)⟩) (λc=>absurd rfl c)⟩
  |some ks=>
   exact⟨(),rfl,(),gn (λ_=>⟨(),t,rfl,hT.2.1,(λe=>absurd e hT.2.2.1),(λ_ m qs H' hm s' hl hF=>q _ H' s' ⟨m,qs,rfl,hl,by rw[←hT.2.2.2.2];exact hF,λk hk=>(va hT.2.2.2.1 k hk).2.2⟩ (λp e=>by cases e;exact hm))⟩) (λc=>absurd rfl c)⟩
 ·cases ko with
  |none=>
   have et:t=[42]:=hT.2.2;exact⟨(),rfl,(),gn (λc=>absurd c (by decide)) (λ_=>⟨(),rfl,(),gn (λ_=>⟨(),t,rfl,hT.2.1,(λ_ H' s'=>q _ H' s' rfl (λp e=>nomatch e)),(λc=>absurd et c)⟩) (λc=>absurd rfl c)⟩)⟩
  |some ks=>
   exact⟨(),rfl,(),gn (λc=>absurd c (by decide)) (λ_=>⟨(),rfl,(),gn (λ_=>⟨(),t,rfl,hT.2.1,(λe=>absurd e hT.2.2.1),(λ_ m qs H' hm s' hl hF=>q _ H' s' ⟨m,qs,rfl,hl,by rw[←hT.2.2.2.2];exact hF,λk hk=>(va hT.2.2.2.1 k hk).2.2⟩ (λp e=>by cases e;exact hm))⟩) (λc=>absurd rfl c)⟩)⟩
 ·have hl:=hT.len;have hne:pl≠2/\pl≠4:=⋯;rcases hp with ⟨rfl,rfl,rfl⟩ | ⟨rfl,rfl,rfl⟩ | ⟨rfl,rfl,rfl⟩
  ·exact⟨(),rfl,(),gn (λc=>absurd c (by decide)) (λ_=>⟨(),rfl,(),gn (λc=>absurd c (by decide)) (λ_=>⟨(),a_BOUNDS,_,_,(),ZZ.be,rfl,rfl,(),(),a_BOUNDS_0,_,(()),ZZ.bk _,rfl,(),a_BOUNDS_0,_,(()),ZZ.bk _,rfl,t,_,(),hl,⟨by decide,by decide,by decide⟩,hT.ok,λH' s'=>by rw[hT.is];exact q H' s'⟩)⟩)⟩
  ·exact⟨(),rfl,(),gn (λc=>absurd c (by decide)) (λ_=>⟨(),rfl,(),gn (λc=>absurd c (by decide)) (λ_=>⟨(),a_BOUNDS,_,_,(),ZZ.be,rfl,rfl,(),(),a_BOUNDS_1,_,(()),ZZ.bl _,rfl,(),a_BOUNDS_1,_,(()),ZZ.bl _,rfl,t,_,(),hl,⟨by decide,by decide,by decide⟩,hT.ok,λH' s'=>by rw[hT.is];exact q H' s'⟩)⟩)⟩
  ·exact⟨(),rfl,(),gn (λc=>absurd c (by decide)) (λ_=>⟨(),rfl,(),gn (λc=>absurd c (by decide)) (λ_=>⟨(),a_BOUNDS,_,_,(),ZZ.be,rfl,rfl,(),(),a_BOUNDS_3,_,(()),ZZ.bm _,rfl,(),a_BOUNDS_3,_,(()),ZZ.bm _,rfl,t,_,(),hl,⟨by decide,by decide,by decide⟩,hT.ok,λH' s'=>by rw[hT.is];exact q H' s'⟩)⟩)⟩
theorem Sw:Dx P w base ZZ.eq 10 (OX K):=by
 refine ZZ.eq.dfs PP (by trivial) ?_;rintro _ _ _ _ s H _ Q E hr⟨t,pl,rfl,h⟩;refine⟨_,(fh (ZP (fh (fq (eD (R9 ZZ) hr (A2 Y0 Y1)))))),?_⟩;exact⟨(),(),t,pl,rfl,h⟩
theorem QL:Dx P w base ZZ.eg 11 (Zm K):=by
 refine ZZ.eg.dfs UD (by trivial) ?_;rintro _ _ _ _ s H _ Q E hr⟨w0,w1,w2,w3,w4,m0,m1,m3,kd,kw,rfl,f0,f1,f3,d2,d4,hb,q⟩;refine⟨_,(fj (fR (tW (jY (jE (ix (gy mS ZZ.aa PyProof.Rows.boot_isinstance (A2 Y0 (lc ZZ.ad PyProof.Rows.boot_str))))) (ka (fH j5 (gy ye ZZ.af PySem.boot_len (A1 Y0)) (f6 (v:=.int 1600) ZZ.bz ⟨()⟩))))) (fh jw) fW) (fj (fu 1 (oO Y0 (gH [32])) UD.nd) (fj (fR (tW (jY (fH mn (gy (jQ (K:=K)) ZZ.af PySem.boot_len (A1 Y1)) (f6 (v:=.int 5) ZZ.d5 ⟨()⟩)) (ka (fH (FS (K:=K)) (gH []) Y1)))) (fh jw) fW) (fh (fq (mf ZZ.ac (Xr ZZ) hr (A1 (PK ["place","word"] [] [] (iE ZZ.ax Y1) (λ_ _ _ _ _ _=>mJ (K:=K) (n:=2) (gE (gN 0 (show ((["place","word"]:List Str)++([]:List Str)).Nodup by decide +kernel)) (gE (gN 1 (show ((["place","word"]:List Str)++([]:List Str)).Nodup by decide +kernel)) kW))) (λ_ _ _ _ _ _=>jV) (λ_ _ _ _ _ _=>(eD (Sw ZZ) hr (A2 Y1 Y0))))))))))),?_⟩
 extract_lets;have n32:∀w∈[w0,w1,w2,w3,w4],32∉w:=λw hw=>by
  simp only[aT,b7,or_false] at hw;rcases hw with rfl | rfl | rfl | rfl | rfl
  ·exact f0.sp
  ·exact f1.sp
  ·exact d2.1.1
  ·exact f3.sp
  ·exact d4.1.1
 have nn:∀w∈[w0,w1,w2,w3,w4],w≠[]:=λw hw=>by
  simp only[aT,b7,or_false] at hw;rcases hw with rfl | rfl | rfl | rfl | rfl
  ·exact f0.ne
  ·exact f1.ne
  ·exact d2.1.2
  ·exact f3.ne
  ·exact d4.1.2
 have hs:=pf 32 [w0,w1,w2,w3,w4] (bZ _ _) n32;obtain⟨L,eL⟩:∃L,L=gj 32 [w0,w1,w2,w3,w4]:=⟨()⟩;have hl:L.length<=1600:=by
  have:=f0.len;have:=f1.len;have:=f3.len;have:=d2.2.1.len;have:=d4.2.1.len;rw[eL];show (w0++32::(w1++32::(w2++32::(w3++32::w4)))).length<=1600;simp only[aV,bN];omega
 rw[←eL] at hs ⊢;refine⟨(),_,.str,.str,rfl,(by decide),rfl,(),iP rfl ⟨(),L,rfl,(by rw[eJ];omega),(()),(),?_⟩⟩;rw[eV (show ¬(1600:Int)<((L.length:Nat):Int) by omega)];refine gf ⟨(),rfl,L,32,rfl,rfl,(by rw[eJ];omega),λps hps=>?_⟩;rw[hs];have s0:=fm hps (.lst ([w0,w1,w2,w3,w4].map λq=>V.str (Tx q)));refine⟨(),ps,(),.inl (SqL.of fk),rfl,(),tM rfl ⟨(),ps,(),.inl (SqL.of fk),rfl,rfl,(),?_⟩⟩;show if rN (.str (Tx [])) ([w0,w1,w2,w3,w4].map λq=>V.str (Tx q))=true then _ else _
 rw[Z4 nn];refine gf ⟨(),ps,rfl,⟨_,SqL.of fk⟩,Zs (xs:=[w0,w1,w2,w3,w4].map λq=>V.str (Tx q)) (λD i l H=>i=0/\l=[]∨(∃l',H D=some (.lst l'))/\RR ij m0 m1 m3 (gO false kd) (gO true kw) D i l H) ?u1 ?u2 (zL 5) (λD _=>.inl ⟨rfl,rfl⟩) (SqL.of fk) ?st ?dn⟩
 case u1=>
  rintro D i l HX l' (h | ⟨hl,h⟩)
  ·exact .inl h
  ·exact .inr ⟨⟨_,fk⟩,h.upd hl⟩
 case u2=>
  rintro D i l HX HY s (h | ⟨⟨l',hl⟩,h⟩)
  ·exact .inl h
  ·exact .inr ⟨⟨l',s _ _ hl⟩,h.keep s⟩
 case st=>
  intro i x l D H2 E' F' hx hR hD s2 hz hE hF;have hR':RR ij m0 m1 m3 (gO false kd) (gO true kw) D i l H2:=by
   rcases hR with ⟨rfl,rfl⟩ | h
   ·rfl
   ·exact h.2
  have up:∀{H5:Hp},Same H2 H5->∃l',H5 D=some (.lst l'):=λs=>⟨_,s _ _ hz⟩;have fr:∀{p:Addr},H2 p=none->p≠D:=λh e=>by rw[e,hz] at h;cases h
  match i,hx,hR' with
  |0,hx,e=>cases hx;exact⟨(),(),w0,0,rfl,.inr (.inr ⟨0,59,m0,.inl ⟨rfl,rfl,rfl⟩,f0,λH' s'=>hE _ _ s' (.inr ⟨up s',by rw[e];rfl⟩)⟩)⟩
  |1,hx,e=>cases hx;exact⟨(),(),w1,1,rfl,.inr (.inr ⟨0,23,m1,.inr (.inl ⟨rfl,rfl,rfl⟩),f1,λH' s'=>hE _ _ s' (.inr ⟨up s',by rw[e];rfl⟩)⟩)⟩
  |2,hx,e=>cases hx;exact⟨(),(),w2,2,rfl,.inl ⟨rfl,kd,d2,λv H' s' hv hn=>hE _ _ s' (.inr ⟨up s',v,by rw[e];rfl,hv,λp ep=>fr (hn p ep)⟩)⟩⟩
  |3,hx,⟨dv,e,hd⟩=>cases hx;exact⟨(),(),w3,3,rfl,.inr (.inr ⟨1,12,m3,.inr (.inr ⟨rfl,rfl,rfl⟩),f3,λH' s'=>hE _ _ s' (.inr ⟨up s',dv,by rw[e];rfl,hd.keep s'⟩)⟩)⟩
  |4,hx,⟨dv,e,hd⟩=>cases hx;exact⟨(),(),w4,4,rfl,.inr (.inl ⟨rfl,kw,d4,λv H' s' hv hn=>hE _ _ s' (.inr ⟨up s',dv,v,by rw[e];rfl,hd.keep s',hv,λp ep=>fr (hn p ep)⟩)⟩)⟩
  |i+5,hx,_=>cases hx
 case dn=>
  intro D H2 l hR hD s2 hz;rcases hR with ⟨e,_⟩ | ⟨_,hR⟩
  ·cases e
  obtain⟨dv,wv,rfl,hd,hw⟩:=hR;intro x dx nx ndx nex;have n1:=xS (a:=.own x) (b:=.ins aA dx []) nx ndx;refine⟨x,dx,D,m0,m1,m3,dv,wv,rfl,fk,n1 _ _ hz,⟨f0.nn,hb.1⟩,⟨f1.nn,hb.2⟩,λtm H' htm hx' hs'=>⟨rfl,?_⟩⟩;have sX:Same H2 H':=λb o hb'=>hs' b o (n1 _ _ hb') (λe=>by rw[e,nx] at hb';cases hb');exact q x dx dv wv tm H' htm (s0.trans (s2.trans sX)) hx' (hd.1.keep sX) (hw.1.keep sX)
theorem NG:Dm P w mg base ZZ.du 1 (Qy K aA):=by
 refine ZZ.du.dfs Zq (by trivial) ?_;rintro _ _ _ _ s H _ Q E hr⟨p,dx,m0,m1,m3,tm,dv,wv,rfl,hp,q⟩;refine⟨_,(fh (fq (iD (K:=K) Y0))),?_⟩;exact⟨(),p,aA,dx,_,(),hp,ZZ.ac.cl,ZZ.a5,XJ ..,q⟩
theorem OT:Dx P w base ZZ.eu 1 (VO K):=by
 refine ZZ.eu.dfs Vf (by trivial) ?_;rintro _ _ _ _ s H _ Q E hr⟨m,k,rfl,hm,hk,hj,q⟩;refine⟨_,(fh (fq (fg f9 (DN (fg oE Y0 (lV lK Y0))) eI))),?_⟩;refine⟨(),(),(),(()),rfl,(),rfl,(()),?_⟩;show Q (.int (((Builtin.Int.intBits (Builtin.bitAnd m (-m)):Nat):Int)-1)) H;rw[VI hm hk hj,ON,show (((k+1:Nat):Int)-1)=k by omega];exact q
theorem qO:Dx P w base ZZ.co 1 (OS K):=by
 refine ZZ.co.dfs XD (by trivial) ?_;rintro _ _ _ _ s H _ Q E hr⟨a,k,rfl,⟨ns,hS⟩,⟨h0,h9⟩,q⟩;refine⟨_,(fj (fR (fH ng Y1 (gy (jQ (K:=K)) ZZ.af PySem.boot_len (A1 Y0))) (fh (fq (fo (fO (K:=K)) Y0 Y1))) fW) (fh (fq (fg gr (fg iu (fg qi (fg fV Y1 eI) eI) eI) eI)))),?_⟩;extract_lets;refine⟨(),(),a,(),.inl hS,(()),(),?_⟩;refine io (λc=>?_) (λc=>?_)
 ·rw[aQ] at c;have hk:k.toNat<ns.length:=⋯;have ek:k=((k.toNat:Nat):Int):=⋯;have e:hZ (ns.map V.int) k=some (.int ns[k.toNat]):=by
   have z:hZ (ns.map V.int) ((k.toNat:Nat):Int)=some (.int ns[k.toNat]):=mF (by rw[aX,bC hk];rfl);rw[←ek] at z;exact z
  refine⟨(),(),a,_,(()),hS,e,?_⟩;exact q _
 ·refine⟨(),(()),(()),⟨by decide,by decide,(by show (k+2).natAbs<2^64;omega)⟩,(()),.inr ⟨by decide,by decide⟩,(()),(by show (0:Int)<15485863;decide),?_⟩;exact q _
theorem Zc:Dx P w base ZZ.dv 1 (Zk K):=by
 refine ZZ.dv.dfs Ue (by trivial) ?_;rintro _ _ _ _ s H _ Q E hr⟨n,rfl,q⟩;refine⟨_,(fj (fu 1 (fg gr (fg iu (fg fV (fg gr Y0 (fg qi eI eI)) eI) eI) eI) Ue.nd) (fj (fu 2 (fg gr (fg iu Y1 (fg fV (fg gr Y1 eI) eI)) eI) Ue.nd) (fh (fq (fg gr (fg iu Y2 (fg fV (fg gr Y2 eI) eI)) eI))))),?_⟩;extract_lets;refine⟨(),(()),⟨by decide,by decide,by decide⟩,(()),(by rw[YV];show (0:Int)<_;decide),(()),(()),.inr ⟨by decide,by decide⟩,(()),(by show (0:Int)<4294967291;decide),?_⟩
 refine⟨(),(),(()),(by show (0:Int)<65521;decide),(()),(()),GI (by decide) (by decide),(()),(by show (0:Int)<999999937;decide),?_⟩;refine⟨(),(),(()),(by show (0:Int)<32749;decide),(()),(()),GI (by decide) (by decide),(()),(by show (0:Int)<2147483629;decide),?_⟩;exact q _ (dI _ (by decide)) (dX _ (by decide))
theorem vO:Dx P w base ZZ.cz 2 (WH K):=by
 refine ZZ.cz.dfs U4 (by trivial) ?_;rintro _ _ _ _ s H _ Q E hr⟨c,a,b,ss,rfl,hS,hz,hl,q⟩;refine⟨_,(fj (fu 3 (gM aN) U4.nd) (fj (fu 2 (rE Y2 (lx (jA ng (gy wo ZZ.e2 PyProof.Rows.boot_abs (A1 Y0)) (fg qi eI eI)))) U4.nd) (fj (iz (iV (K:=K) Y1) (gN 4 U4.nd) (fh (fR (ix Y2) (fj (fu 0 (eD (Zc ZZ) hr (A1 Y0)) U4.nd) (fh (kr (lI Y3 (fg gr (fg km Y0 eI) Y4))))) (fj (kr (lI Y3 (fg gr Y0 Y4))) (fh (fu 0 (fg km Y0 Y4) U4.nd))))) PassesOwn.never) (fh (fq Y3))))),?_⟩
 extract_lets;refine⟨(zL 0),λfl hfl=>?_⟩;refine⟨(),(),wR (λ_=>?_) (λ_=>⟨(),(),(()),⟨by decide,by decide,by decide⟩,(()),?_⟩)⟩
 all_goals
  refine⟨(),a,rfl,⟨_,(fm hfl _).seq hS⟩,j8 (K:=K) (a:=a) (xs:=ss.map V.int) (λi σ H2=>∃(c':Int) (b':Bool) (u:Option V) (ds:List Int),σ=[some (.int c'),some (.ref a),some (.bl b'),some (.ref fl),u]/\Same H H2/\H2 fl=some (.lst (ds.map V.int))/\Digs ds (ss.take i)) ⟨_,_,_,[],rfl,fm hfl _,fk,.nil⟩ (λi σ H2 _ ⟨_,_,_,_,_,s2,_⟩=>s2.seq hS) ?_ ?_⟩
  ·rintro i x σ H2 hx ⟨c',b',u,ds,rfl,s2,hf,hd⟩;rw[aX] at hx;cases e:ss[i]? with
   |none=>rw[e] at hx;cases hx
   |some z=>
    rw[e] at hx;obtain rfl:V.int z=x:=bH hx;have hzz:=hz z (bA e);have et:ss.take (i+1)=ss.take i++[z]:=by rw[cH,e];rfl
    have hdl:(ds.map V.int).length<sizeLine:=by
     have q1:=hd.len;rw[cE] at q1;rw[aQ,eJ];omega
    have app:∀d:Int,(ds.map V.int)++[V.int d]=(ds++[d]).map V.int:=λd=>by rw[aY];rfl
    refine⟨(),(),?_⟩;cases b' with
    |true=>
     refine gZ ⟨(),(),λr hr0 hr1=>?_⟩;refine⟨(),.inl ⟨rfl,_,SqL.of hf⟩,(),(()),⟨by decide,by decide⟩,(),(()),hzz.1,fl,(()),hf,hdl,?_⟩;refine⟨_,_,_,ds++[r / 8%z],rfl,kB hfl s2,by rw[app];exact fk,?_⟩;rw[et];exact hd.snoc (dI _ (Int.ne_of_gt hzz.1)) (dX _ hzz.1)
    |false=>
     refine gf ⟨(),.inl ⟨rfl,_,SqL.of hf⟩,(),(),(()),hzz.1,fl,(()),hf,hdl,?_⟩;refine⟨(),(),(()),hzz,?_⟩;refine⟨_,_,_,ds++[c'%z],rfl,kB hfl s2,by rw[app];exact fk,?_⟩;rw[et];exact hd.snoc (dI _ (Int.ne_of_gt hzz.1)) (dX _ hzz.1)
  ·rintro σ H2 ⟨c',b',u,ds,rfl,s2,hf,hd⟩;rw[aQ,bQ] at hd;exact⟨(),q ds fl H2 s2 hf hd⟩
theorem Wr:Dx P w base ZZ.dd 1 (Wm K):=by
 refine ZZ.dd.dfs Yo (by trivial) ?_;rintro _ _ _ _ s H _ Q E hr⟨i,rfl,q⟩;refine⟨_,(fh (fq (oB (gy Vm ZZ.aa PyProof.Rows.boot_isinstance (A2 Y0 (lc ZZ.bn PyProof.Rows.boot_int))) (lx (zy (gy Rf ZZ.aa PyProof.Rows.boot_isinstance (A2 Y0 (lc ZZ.c7 PyProof.Rows.boot_bool)))))))),?_⟩;refine⟨(),(),(),?_⟩;refine gZ ?_;refine⟨(),(),(),?_⟩;exact q
theorem Pn:Dx P w base ZZ.ew 7 (Wa K):=by
 refine ZZ.ew.dfs Yd (by trivial) ?_;rintro _ _ _ _ s H _ Q E hr⟨p,m0,m1,m3,kd,kw,rfl,hR,q⟩;refine⟨_,(fh (fq (gy Gs ZZ.d6 boot_all (A1 (kj ["row"] [0] (mR ZZ.ae (A1 (f6 (v:=.int 91) ZZ.cf ⟨()⟩))) (λ_ _ _ _ _ _=>jV) (λ_ _ _ _ _ _=>(jA gp (i8 ZZ.ac.cl (Gp ZZ) hr Y1 (A1 Y0)) eI))))))),?_⟩;obtain⟨dx,dv,wv,hp,hn,hb,hd,hw⟩:=hR;refine⟨(),by decide,by decide,qR (λi l=>l=((List.range i).map λk:Nat=>decide (gS m3 kd kw (k:Int)=0)).map V.bl) (zL 91) rfl ?_ ?_⟩
 ·intro i l D H3 E' F' hi hR hD s3 hl hE hF;subst hR;have hi':i<91:=hi;refine⟨(),p,dx,(),s3 _ _ hp,Jn ..,(),p,dx,m0,m1,m3,iG m1 m0,_,dv,wv,kd,kw,rfl,s3 _ _ hp,⟨⋯,⋯⟩,hn.2.2,hd.keep s3,hw.keep s3,λH4 s4=>⟨rfl,hE _ _ s4 ?_⟩⟩;rw[dN,aY,aY];have e:decide (V.int (gS m3 kd kw (0+(i:Int)))=V.int 0)=decide (gS m3 kd kw (i:Int)=0):=by rw[Int.zero_add];exact decide_eq_decide.mpr int_eq
  show _++[V.bl (decide (V.int (gS m3 kd kw (0+(i:Int)))=V.int 0))]=_;rw[e];rfl
 ·intro D H3 l hR hD s3 hl;subst hR;exact⟨D,(),SqL.of hl,q H3 s3⟩
theorem YK:Dx P w base ZZ.bv 3 (Wd K):=by
 refine ZZ.bv.dfs Us (by trivial) ?_;rintro _ _ _ _ s H _ Q E hr⟨rfl,q⟩;refine⟨_,(fj (fu 0 (gM aN) Us.nd) (fj (fu 1 eI Us.nd) (fj (iz (mR ZZ.ae (A1 (f6 (v:=.int 400) ZZ.cu ⟨()⟩))) (gN 2 Us.nd) (fh (iz (Nt ZZ.ae (A2 eI eI)) (gN 3 Us.nd) (fj (fu 4 (eD (T7 ZZ) hr (A3 Y2 Y3 Y1)) Us.nd) (fj (kr (lI Y0 (iH (A2 Y1 Y4)))) (fh (fu 1 (fg fV Y1 (eD (Fu ZZ) hr (A2 Y2 Y3))) Us.nd)))) PassesOwn.never)) PassesOwn.never) (fh (fq Y0))))),?_⟩
 extract_lets;refine⟨(zL 0),λl nl=>?_⟩;have d0:fB (12*((0:Nat):Int))=0:=by decide +kernel
 refine⟨(),by decide,by decide,sx (λi σ H2=>∃(us:List V) (v2 v3 v4:Option V),σ=[some (.ref l),some (.int (fB (12*(i:Int)))),v2,v3,v4]/\Same H H2/\H2 l=some (.lst us)/\Paired (gI H2) us (jP (12*i))) ⟨[],_,_,_,by rw[d0];rfl,fm nl _,fk,.nil⟩ ?turn ?done⟩
 case done=>
  rintro σ H2 ⟨us,v2,v3,v4,rfl,s2,hl,hp⟩;exact⟨(),q l us H2 nl s2 hl hp⟩
 case turn=>
  rintro i σ H2 hi ⟨us,v2,v3,v4,rfl,s2,hl,hp⟩;have hi4:i<400:=hi;refine⟨_,(),by decide,sx (λj σ H3=>∃(us:List V) (v3 v4:Option V),σ=[some (.ref l),some (.int (fB (12*(i:Int)+(j:Int)))),some (.int (0+(i:Int))),v3,v4]/\Same H H3/\H3 l=some (.lst us)/\Paired (gI H3) us (jP (12*i+j))) ⟨us,_,_,by rw[show 12*(i:Int)+((0:Nat):Int)=12*(i:Int) by omega];rfl,s2,hl,hp⟩ ?tn ?dn⟩
  case dn=>
   rintro σ H3 ⟨us,v3,v4,rfl,s3,hl,hp⟩;have e:fB (12*(i:Int)+(((13-1:Int).toNat:Nat):Int))=fB (12*((i+1:Nat):Int)):=congrArg fB ⋯;rw[e];exact⟨us,_,_,(),s3,hl,hp⟩
  case tn=>
   rintro j σ H3 hj ⟨us,v3,v4,rfl,s3,hl,hp⟩;have hj12:j<12:=hj;have pl:=iF hp;have ml:(jP (12*i+j)).length=12*i+j:=by unfold jP;rw[aQ,bY]
   obtain⟨k1,k2⟩:=JM (y:=0+(i:Int)) (m:=1+(j:Int)) ⋯ ⋯;have eM:12*(0+(i:Int))+(1+(j:Int))-1=12*(i:Int)+(j:Int):=⋯;rw[eM] at k1 k2;refine⟨(),(),(),0+(i:Int),1+(j:Int),fB (12*(i:Int)+(j:Int)),rfl,?_⟩;rw[←k1];refine⟨(),.inl ⟨rfl,_,SqL.of hl⟩,(),(),(zL 2),λt nt=>⟨l,(()),fm nt _ _ _ hl,(by rw[eJ];omega),?_⟩⟩;refine⟨(),(),(),0+(i:Int),1+(j:Int),rfl,⟨⋯,⋯⟩,(()),?_⟩;have up:=ol (12*(i:Int)+(j:Int));rw[k2] at up
   rw[←up];have e:fB (12*(i:Int)+(j:Int)+1)=fB (12*(i:Int)+((j+1:Nat):Int)):=congrArg fB ⋯;rw[e];have st:=fm nt (.tup [V.int (fB (12*(i:Int)+(j:Int))),V.int (gu (12*(i:Int)+(j:Int)))]);refine⟨_,_,(),kB nl (s3.trans st),fk,?_⟩;rw[show 12*i+(j+1)=12*i+j+1 by omega,Pw,show (((12*i+j:Nat)):Int)=12*(i:Int)+(j:Int) by omega];exact sj (st _ _ hl) (mN (p:=(fB (12*(i:Int)+(j:Int)),gu (12*(i:Int)+(j:Int)))) fk (jK st hp))
theorem R1:Dx P w base ZZ.c0 1 (Wz K):=by
 refine ZZ.c0.dfs Uu (by trivial) ?_;rintro _ _ _ _ s H _ Q E hr⟨l,us,ps,mo,n,rfl,hl,hp,hn,h1,h2,q⟩;refine⟨_,(fj (fu 2 eI Uu.nd) (fj (fu 3 (gy (jQ (K:=K)) ZZ.af PySem.boot_len (A1 Y0)) Uu.nd) (fj (rF (fH ng Y2 Y3) (fj (fu 4 (fg km (fg fV Y2 Y3) eI) Uu.nd) (fh (fR (fH lY (fo (gg (K:=K)) (fo (fO (K:=K)) Y0 Y4) eI) Y1) (fh (fu 2 (fg fV Y4 eI) Uu.nd)) (fh (fu 3 Y4 Uu.nd))))) PassesOwn.never) (fh (fq (fg f9 Y2 eI)))))),?_⟩
 extract_lets;have pl:=iF hp;refine⟨(),l,(),.inl hl,?_⟩;refine qC (λσ H2=>H2=H/\∃(lo hi:Nat) (v4:Option V),σ=[some (.ref l),some (.int mo),some (.int (lo:Int)),some (.int (hi:Int)),v4]/\lo<=n/\n<=hi/\hi<=ps.length) (λσ _=>match σ with | [_,_,some (.int lo),some (.int hi),_]=>(hi-lo).toNat | _=>0) ⟨rfl,0,us.length,none,rfl,a9 _,⋯,⋯⟩ ?_
 rintro σ H2 ⟨rfl,lo,hi,v4,rfl,a1,a2,a3⟩;refine⟨(),(),(()),(),io (λc=>?_) (λc=>?_)⟩
 ·refine⟨_,λ_ _ h=>h,?_⟩;refine⟨(),(),(()),(()),⟨by decide,by decide⟩,?_⟩;obtain⟨md,hmd⟩:∃md:Nat,(md:Int)=((lo:Int)+(hi:Int)) / 2:=⟨(lo+hi) / 2,⋯⟩;show jT 4 (V.int (((lo:Int)+(hi:Int)) / 2)) _ _ _;rw[←hmd];obtain⟨x,hx⟩:∃x,us[md]? =some x:=⟨_,bC ⋯⟩;obtain⟨t,p,rfl,ht,hpm⟩:=k7 hp hx;refine⟨(),(),l,_,(()),hl,mF hx,t,_,(()),SqT.of ht,rfl,(),(()),(),io (λc2=>?_) (λc2=>?_)⟩
  ·have:md<n:=by
    rcases bU md n with w | w
    ·exact w
    ·have:=h2 md p hpm w;omega
   refine⟨(),(()),?_⟩;exact⟨_,(by show ((hi:Int)-((md:Int)+1)).toNat<((hi:Int)-(lo:Int)).toNat;omega),rfl,rfl,md+1,hi,(),⋯,a2,a3⟩
  ·have:n<=md:=by
    rcases bU md n with w | w
    ·have:=h1 md p hpm w;omega
    ·exact w
   exact⟨(),_,(by show ((md:Int)-(lo:Int)).toNat<((hi:Int)-(lo:Int)).toNat;omega),rfl,rfl,lo,md,(),a1,this,⋯⟩
 ·obtain rfl:lo=n:=⋯;exact⟨(),(()),q⟩
theorem K1:Dx P w base ZZ.ca 1 (Xk K):=by
 refine ZZ.ca.dfs Uj (by trivial) ?_;rintro _ _ _ _ s H _ Q E hr⟨l,us,ps,rfl,hl,hp,hf,q⟩;refine⟨_,(fh (iz (iZ ZZ.e3 Y0 (kJ (oQ (K:=K)) Y0 (kI eI) kn)) (mJ (K:=K) (gE (gN 1 Uj.nd) (gE (gN 2 Uj.nd) kW))) (fh (fR (fH ng (fg f9 (fo (gg (K:=K)) Y2 eI) (fo (gg (K:=K)) Y1 eI)) (f6 (v:=.int 4320) ZZ.b3 ⟨()⟩)) (fh jw) fW)) PassesOwn.never)),?_⟩;refine⟨(),(),(),l,(),SqL.of hl,λb nb=>?_⟩
 rw[tU];have s1:=fm nb (.lst (us.drop 1));have gb:upd H b (.lst (us.drop 1)) b=some (.lst (us.drop 1)):=fk;generalize upd H b (.lst (us.drop 1))=H1 at s1 gb ⊢;refine⟨l,b,rfl,rfl,⟨_,SqL.of (s1 _ _ hl)⟩,⟨_,SqL.of gb⟩,Yb (K:=K) (a:=l) (b:=b) (xs:=us) (ys:=us.drop 1) (by rw[cU];omega) (λi σ H2=>∃v1 v2:Option V,σ=[some (.ref l),v1,v2]/\Same H1 H2) ⟨_,(),Same.refl _⟩ (λi σ H2 _ ⟨_,_,_,z⟩=>⟨SqL.of (z _ _ (s1 _ _ hl)),SqL.of (z _ _ gb)⟩) ?turn (λσ H2 ⟨_,_,_,z⟩=>q _ (s1.trans z))⟩
 rintro i x y T σ H2 hx hy ⟨v1,v2,rfl,s2⟩ hT;rw[List.getElem?_drop] at hy;rw[Nat.add_comm 1 i] at hy;obtain⟨t1,p1,rfl,h1,e1⟩:=k7 hp hx;obtain⟨t2,p2,rfl,h2,e2⟩:=k7 hp hy;have far:=hf i p1 p2 e1 e2;have sT:=fm hT (.tup [V.ref t1,V.ref t2]);have sA:=s1.trans (s2.trans sT);refine⟨T,(),SqT.of fk,rfl,_,(),(()),?_⟩;exact⟨(),t2,_,(()),SqT.of (sA _ _ h2),rfl,(),t1,_,(()),SqT.of (sA _ _ h1),rfl,(()),(()),(),io (λc=>absurd c ⋯) (λ_=>⟨_,(),s2.trans sT⟩)⟩
theorem Wu:Dx P w base ZZ.er 7 (Sk K):=by
 refine ZZ.er.dfs Uv (by trivial) ?_;rintro _ _ _ _ s H _ Q E hr⟨l,us,Ps,k,rfl,hl,hP,hk,nd,hz,q⟩;refine⟨_,(fj (fu 2 (gM aN) Uv.nd) (fj (iz (iT Y0) (mJ (K:=K) (gE (gN 3 Uv.nd) (gE (gN 4 Uv.nd) kW))) (fj (fu 5 (eD (OT ZZ) hr (A1 (Lm ZZ.ac.cl (NG ZZ) hr Y3))) Uv.nd) (fh (iz (iV (K:=K) (eD (Eh ZZ) hr (A1 (i8 ZZ.ac.cl (Gp ZZ) hr Y3 (A1 Y1))))) (gN 6 Uv.nd) (fh (kr (lI Y2 (iH (A2 (fg fV (fg iu (f6 (v:=.int 1440) ZZ.bb ⟨()⟩) (fg f9 Y6 eI)) Y5) Y4))))) PassesOwn.never))) PassesOwn.never) (fh (fq (gy Nn ZZ.am PyProof.Rows.boot_sorted (A1 Y2)))))),?_⟩
 extract_lets;refine⟨(zL 0),λF nF=>?_⟩;refine⟨(),l,rfl,⟨_,SqT.of (fm nF _ _ _ hl)⟩,rg (K:=K) (a:=l) (xs:=us) (λi σ H2=>∃(fs:List V) (v3 v4 v5 v6:Option V),σ=[some (.ref l),some (.int k),some (.ref F),v3,v4,v5,v6]/\Same H H2/\H2 F=some (.lst fs)/\Paired (gI H2) fs (page (Ps.take i) k)) ⟨[],_,_,_,(),fm nF _,fk,.nil⟩ (λi σ H2 _ ⟨_,_,_,_,_,_,z,_⟩=>SqT.of (z _ _ hl)) ?turn ?done⟩
 case done=>
  rintro σ H2 ⟨fs,v3,v4,v5,v6,rfl,s2,hF,hp⟩;rw[iF hP,bQ] at hp;refine⟨(),F,fs,(),SqL.of hF,hp,hz,nd,λD us' ps' nD hp' pm pw=>?_⟩;have sD:=fm nD (.lst us');exact q D us' ps' _ (kf s2 nD) (s2.trans sD) fk (jK sD hp') pm pw
 case turn=>
  rintro i x σ H2 hx ⟨fs,v3,v4,v5,v6,rfl,s2,hF,hp⟩;obtain⟨P,hPi,hput⟩:=kX hP hx;have htk:Ps.take (i+1)=Ps.take i++[P]:=by rw[cB,hPi];rfl
  obtain⟨t,x,rfl,ht,hR,tpos,tbit,tlow⟩:=hput.keep s2;refine⟨t,(),SqT.of ht,rfl,_,(),(()),?_⟩;obtain⟨dx,dv,wv,hpx,hn,_,hd,hw⟩:=id hR;refine⟨(),x,dx,(),hpx,zI ..,x,dx,_,_,_,_,dv,wv,rfl,hpx,_,P.tm,rfl,tpos,tbit,tlow,?_⟩;have kd:=qS hd;have kw:=qS hw;obtain⟨b1,b2⟩:=FY (m3:=P.m3) kd kw hk.1 hk.2;refine⟨(),x,dx,(),hpx,Jn ..,(),x,dx,_,_,_,_,k,dv,wv,_,(),hpx,hk,hn.2.2,hd,hw,λH3 s3=>?_⟩;refine⟨gS P.m3 P.kd P.kw k,rfl,⟨b1,by have:=rL b1 b2;omega⟩,λp' H4 s4 hp4=>?_⟩
  have s34:=s3.trans s4;refine⟨p',rfl,⟨_,SqL.of hp4⟩,j8 (K:=K) (a:=p') (xs:=(mP P k).map V.int) (λj σ H5=>∃(gs:List V) (v6:Option V),σ=[some (.ref l),some (.int k),some (.ref F),some (.ref x),some (.int P.off),some (.int (P.tm:Int)),v6]/\Same H H5/\H5 p'=some (.lst ((mP P k).map V.int))/\(mP P k≠[]->p'≠F)/\H5 F=some (.lst gs)/\Paired (gI H5) gs (page (Ps.take i) k++((mP P k).take j).map λd=>(1440*(d-1)+(P.tm:Int),P.off))) ⟨fs,(),s2.trans s34,hp4,?ne,s34 _ _ hF,(by rw[List.take_zero,List.map_nil,cC];exact jK s34 hp)⟩ (λj σ H5 _ ⟨_,_,_,_,z,_⟩=>SqL.of z) ?tn ?dn⟩
  case dn=>
   rintro σ H5 ⟨gs,v6,rfl,s5,h5,ne,hF5,hp5⟩;rw[aQ,bQ] at hp5;refine⟨gs,_,_,_,(),s5,hF5,?_⟩;rw[htk,Xe];exact hp5
  case ne=>
   intro hne;have hF4:=s34 _ _ hF;refine Ry hp4 hF4 λe=>?_;have e:(kF (gS P.m3 P.kd P.kw k)).map V.int=fs:=by injection e
   obtain⟨d,r,ed⟩:=List.exists_cons_of_ne_nil hne;have m:V.int d∈fs:=by rw[←e,show kF (gS P.m3 P.kd P.kw k)=d::r from ed];exact a8
   obtain⟨n,hn,en⟩:=List.getElem_of_mem m;obtain⟨t',_,e',_⟩:=k7 hp (show fs[n]? =some (V.int d) by rw[bC hn,en]);cases e'
  case tn=>
   rintro j y σ H5 hy ⟨gs,v6,rfl,s5,h5,ne,hF5,hp5⟩;rw[aX] at hy;obtain⟨d,hd',rfl⟩:=cJ.mp hy;have hne:p'≠F:=ne λz=>by rw[z] at hd';cases hd'
   have lg:=pS hp5;have lp:gs.length<=(page Ps k).length:=by
    rw[lg,QW hPi];unfold mI;simp only[aV,aQ,cE];omega
   refine⟨(),.inl ⟨rfl,_,SqL.of hF5⟩,(),(()),(()),.inl ⟨by decide,by decide⟩,(),(()),(),(zL 2),λT nT=>⟨F,(()),fm nT _ _ _ hF5,(by rw[eJ];omega),?_⟩⟩;have sT:=fm nT (.tup [V.int (1440*(d-1)+(P.tm:Int)),V.int P.off]);refine⟨gs++[.ref T],(),kB nF (s5.trans sT),?_,ne,fk,?_⟩
   ·rw[fG hne];exact sT _ _ h5
   ·rw[cB,hd',aY,←c7];exact sj (sT _ _ hF5) (mN (p:=(1440*(d-1)+(P.tm:Int),P.off)) fk (jK sT hp5))
theorem WO:Dx P w base ZZ.cb 8 (Z2 K):=by
 refine ZZ.cb.dfs Uw (by trivial) ?_;rintro _ _ _ _ s H _ Q E hr⟨l,us,Ps,pg,t0,tr,rfl,hl,hP,hpg,h0,hfar,q⟩;refine⟨_,(fj (N7 1 ["puts"] [0] (mR ZZ.ae (A1 (f6 (v:=.int 91) ZZ.cf ⟨()⟩))) (λ_ _ _ _ _ _=>jV) (λ_ _ _ _ _ _=>(eD (Wu ZZ) hr (A2 Y1 Y0))) Uw.nd) (fj (iz (iV (K:=K) Y1) (gN 2 Uw.nd) (fh (kr (eD (K1 ZZ) hr (A1 Y2)))) PassesOwn.never) (fj (fu 3 (gM aN) Uw.nd) (fj (iz (iV (K:=K) (OV (YK ZZ) hr)) (mJ (K:=K) (gE (gN 4 Uw.nd) (gE (gN 5 Uw.nd) kW))) (fh (iz (iV (K:=K) (fo (fO (K:=K)) Y1 Y5)) (mJ (K:=K) (gE (gN 6 Uw.nd) (gE (gN 7 Uw.nd) kW))) (fh (kr (lI Y3 (iH (A2 (fg fV (fg iu (f6 (v:=.int 1440) ZZ.bb ⟨()⟩) Y4) Y6) Y7))))) PassesOwn.never)) PassesOwn.never) (fj (kr (eD (K1 ZZ) hr (A1 (fg tY Y3 (gM (A1 (iH (A2 (fg fV (fo (gg (K:=K)) (fo (fO (K:=K)) Y3 eI) eI) (f6 (v:=.int 210379680) ZZ.bg ⟨()⟩)) (fo (gg (K:=K)) (fo (fO (K:=K)) Y3 eI) eI))))))))) (fh (fq Y3))))))),?_⟩
 extract_lets;refine⟨(),by decide,by decide,Rl (λD i w Hx=>Paired (PgA (gK Hx D)) w ((List.range i).map λk:Nat=>pg (k:Int))) (λD i w Hx l0 l1 hD nD h=>by rw[pV];exact h) (zL 91) (λD nD=>.nil) ?st ?dn⟩
 case st=>
  intro i w D H2 E' F' hi hR nD s2 hD hE hF;have hi':i<91:=hi;obtain⟨g1,g2,g3,g4⟩:=hpg (i:Int) ⋯ ⋯;refine⟨(),(),l,us,Ps,(i:Int),(by rw[Int.zero_add];rfl),s2 _ _ hl,Paired.mapP hP (λ_ _ z=>z.keep s2),⟨⋯,⋯⟩,g1.nodup_iff.mp (T9 g2),(by rw[←g1.length_eq];exact g3),λl' us' ps' H5 nl s5 hl' hp' pm pw=>hE _ _ s5 ?_⟩;obtain rfl:ps'=pg (i:Int):=Ig (pm.trans g1.symm) pw g2;have ne:l'≠D:=λe=>by rw[e,hD] at nl;cases nl
  rw[dN,aY];have e5:=pX (a:=D) s5;refine Gr ⟨l',us',rfl,(ik ne).trans hl',?_⟩ (qp e5 hR);refine Paired.mapP hp' λ_ _ ⟨t,e,ht⟩=>⟨t,e,?_⟩;rw[ik (λz=>by rw[z,s5 _ _ hD] at ht;cases ht)];exact ht
 case dn=>
  intro D H2 w hR nD s2 hD;have hR2:=qp (nh (a:=D)) hR;refine⟨(),D,rfl,⟨_,SqL.of hD⟩,j8 (K:=K) (a:=D) (xs:=w) (λi σ H3=>∃v2:Option V,σ=[some (.ref l),some (.ref D),v2,none,none,none,none,none]/\Same H2 H3) ⟨(),Same.refl _⟩ (λi σ H3 _ ⟨_,_,z⟩=>SqL.of (z _ _ hD)) ?t1 ?d1⟩
  case t1=>
   rintro i x σ H3 hx ⟨v2,rfl,s3⟩;obtain⟨ps,hps,l1,us1,rfl,hl1,hp1⟩:=kX hR2 hx;rw[aX] at hps;obtain⟨kk,hkk,rfl⟩:=cJ.mp hps;have hlt:kk<91:=bW.mp (bA hkk);exact⟨(),l1,us1,(),s3 _ _ hl1,jK s3 hp1,(hpg (kk:Int) ⋯ ⋯).2.2.2,λH4 s4=>⟨(),s3.trans s4⟩⟩
  case d1=>
   rintro σ H3 ⟨v2,rfl,s3⟩;refine⟨(zL 0),λT nT=>?_⟩;have sT:=fm nT (.lst []);refine⟨rfl,λml us H4 nm s4 hm hp=>?_⟩;have hT4:H4 T=some (.lst []):=s4 _ _ fk;have s34:Same H3 H4:=sT.trans s4;have neT:ml≠T:=λe=>by rw[e,fk] at nm;cases nm
   have sB:Same H3 (gK H4 T):=λa o e=>by rw[ik (λz=>by rw[z,nT] at e;cases e)];exact s34 _ _ e
   have hmB:gK H4 T ml=some (.lst us):=(ik neT).trans hm;have hpB:Paired (gI (gK H4 T)) us (jP 4800):=Paired.mapP hp λ_ _ ⟨t,e,ht⟩=>⟨t,e,(ik (λz=>by rw[z,hT4] at ht;cases ht)).trans ht⟩;have hRB:=qp (s3.trans sB) hR2;have hDB:=sB _ _ (s3 _ _ hD);have nTB:gK H4 T T=none:=oe;have sB4:Same (gK H4 T) H4:=nh;generalize gK H4 T=B at sB hmB hpB hRB hDB nTB sB4;have len:=A4 (λk h0 h1=>(hpg k h0 h1).2.2.1)
   have lu:=iF hpB;refine⟨ml,rfl,⟨_,SqL.of hm⟩,j8 (K:=K) (a:=ml) (xs:=us) (λi σ H5=>∃(ts:List V) (v4 v5 v6 v7:Option V),σ=[some (.ref l),some (.ref D),v2,some (.ref T),v4,v5,v6,v7]/\Same B H5/\H5 T=some (.lst ts)/\Paired (gI H5) ts (gQ pg i)) ⟨[],_,_,_,(),sB4,hT4,.nil⟩ (λi σ H5 _ ⟨_,_,_,_,_,_,z,_⟩=>SqL.of (z _ _ hmB)) ?turn ?done⟩
   case turn=>
    rintro i x σ H5 hx ⟨ts,v4,v5,v6,v7,rfl,s5,hT5,hp5⟩;obtain⟨t,p,rfl,ht,hpi⟩:=k7 hpB hx;obtain⟨hi,rfl⟩:=RY hpi;have kl:=uP (i:Int);obtain⟨kk,hkk⟩:=bF kl.1;have hkl:kk<91:=⋯;obtain⟨y,hy⟩:∃y,w[kk]? =some y:=⟨_,bC (by rw[iF hRB,aQ,bY];exact hkl)⟩;obtain⟨ps,hps,l1,us1,rfl,hl1,hp1⟩:=kX hRB hy;rw[aX,show (List.range (Int.toNat 91))[kk]? =some kk from List.getElem?_range hkl] at hps;injection hps with hps
    subst hps;have hp1:Paired (gI B) us1 (pg (kk:Int)):=hp1;rw[←hkk] at hp1;have hat:hZ w (gu (i:Int))=some (.ref l1):=by rw[hkk];exact mF hy
    have lp:=len i;have lk:=(hpg _ kl.1 kl.2).2.2.1;refine⟨t,(),SqT.of (s5 _ _ ht),rfl,_,(),(()),(),(),D,_,(()),SqL.of (s5 _ _ hDB),hat,l1,rfl,⟨_,SqL.of (s5 _ _ hl1)⟩,j8 (K:=K) (a:=l1) (xs:=us1) (λj σ H6=>∃(gs:List V) (v6 v7:Option V),σ=[some (.ref l),some (.ref D),v2,some (.ref T),some (.int (fB (i:Int))),some (.int (gu (i:Int))),v6,v7]/\Same B H6/\H6 T=some (.lst gs)/\Paired (gI H6) gs (gQ pg i++((pg (gu (i:Int))).take j).map λp=>(1440*fB (i:Int)+p.1,p.2))) ⟨ts,_,(),s5,hT5,(by rw[List.take_zero,List.map_nil,cC];exact hp5)⟩ (λj σ H6 _ ⟨_,_,_,_,z,_⟩=>SqL.of (z _ _ hl1)) ?tn ?dn⟩
    case dn=>
     rintro σ H6 ⟨gs,v6,v7,rfl,s6,h6,hp6⟩;rw[iF hp1,bQ] at hp6;exact⟨gs,_,_,_,(),s6,h6,by rw[tJ];exact hp6⟩
    case tn=>
     rintro j z σ H6 hz ⟨gs,v6,v7,rfl,s6,h6,hp6⟩;obtain⟨t1,p1,rfl,ht1,hp1'⟩:=k7 hp1 hz;have lg:=iF hp6;rw[aV,aQ,cE] at lg;refine⟨t1,(),SqT.of (s6 _ _ ht1),rfl,_,(),(()),?_⟩;refine⟨(),.inl ⟨rfl,_,SqL.of h6⟩,(),(()),.inl ⟨by decide,by decide⟩,(),(()),(),(zL 2),λt2 nt=>⟨T,(()),fm nt _ _ _ h6,(by rw[eJ];omega),?_⟩⟩;have sT:=fm nt (.tup [V.int (1440*fB (i:Int)+p1.1),V.int p1.2]);refine⟨gs++[.ref t2],_,(),kB nTB (s6.trans sT),fk,?_⟩
     rw[cB,hp1',aY,←c7];exact sj (sT _ _ h6) (mN (p:=(1440*fB (i:Int)+p1.1,p1.2)) fk (jK sT hp6))
   case done=>
    rintro σ H5 ⟨ts,v4,v5,v6,v7,rfl,s5,hT5,hp5⟩;have ml48:(jP 4800).length=4800:=by unfold jP;rw[aQ,bY]
    rw[lu,ml48] at hp5;have lt:=iF hp5;have l48:=len 4800;have hp6:=hp5;rw[h0] at hp5;cases hp5 with
    |cons hh hr=>
     rename_i v tv;obtain⟨t,rfl,ht⟩:=hh;refine⟨(),(),T,_,(()),SqL.of hT5,mF (j:=0) rfl,t,_,(()),SqT.of ht,rfl,(()),(),T,_,(()),SqL.of hT5,mF (j:=0) rfl,t,_,(()),SqT.of ht,rfl,(zL 2),λt2 n2=>⟨(zL 1),λL nL=>?_⟩⟩;have sA:=fm n2 (.tup [V.int (t0.1+210379680),V.int t0.2]);have hT2:=fk (H:=H5) (a:=t2) (o:=.tup [V.int (t0.1+210379680),V.int t0.2]);generalize upd H5 t2 (.tup [V.int (t0.1+210379680),V.int t0.2])=H6 at nL sA hT2 ⊢
     have sL:=fm nL (.lst [V.ref t2]);have hL:=fk (H:=H6) (a:=L) (o:=.lst [V.ref t2]);generalize upd H6 L (.lst [V.ref t2])=H7 at sL hL ⊢;have s57:=sA.trans sL;refine⟨T,L,(()),SqL.of (s57 _ _ hT5),SqL.of hL,(by show (V.ref t::tv).length+1<=sizeLine;rw[eJ];omega),λp np=>?_⟩;have sP:=fm np (.lst (V.ref t::tv++[V.ref t2]));refine⟨p,_,(),fk,mN (p:=(t0.1+210379680,t0.2)) (sP _ _ (sL _ _ hT2)) (jK (s57.trans sP) hp6),hfar,λH8 s8=>?_⟩
     have s58:=s57.trans (sP.trans s8);exact⟨(),q T _ H8 (s2.trans (s3.trans (sB.trans (s5.trans s58)))) (s58 _ _ hT5) (jK s58 hp6)⟩
theorem MQ:Dx P w base ZZ.b0 2 (W2 K):=by
 refine ZZ.b0.dfs Yc (by trivial) ?_;rintro _ _ _ _ s H _ Q E hr⟨i,rfl,hi,q⟩;refine⟨_,(fj (fR (tW (jY (jE (ix (eD (YD ZZ) hr (A1 Y0)))) (ka (jE (wm lY lY (lV lK (f6 (v:=.int 720) ZZ.ag ⟨()⟩)) Y0 (f6 (v:=.int 720) ZZ.ag ⟨()⟩)))))) (fh jw) fW) (fh (fq Y0))),?_⟩;extract_lets;refine⟨(),_,.int,rfl,rfl,(),gf ?_⟩;refine⟨(),(),(()),(),?_⟩;rw[eS (show -720<=i from hi.1)];refine gZ ⟨(()),(),?_⟩
 rw[eS hi.2];exact gf ⟨(),q⟩
theorem Qr:Dx P w base ZZ.c1 8 (SQ K):=by
 refine ZZ.c1.dfs Uk (by trivial) ?_;rintro _ _ _ _ s H _ Q E hr⟨t,x,P,rfl,ht,hP,q⟩;refine⟨_,(fj (fR (tW (jY (jE (ix (gy mS ZZ.aa PyProof.Rows.boot_isinstance (A2 Y0 (lc ZZ.cg PyProof.Rows.boot_tuple))))) (ka (fH mn (gy (jQ (K:=K)) ZZ.af PySem.boot_len (A1 Y0)) eI)))) (fh jw) fW) (fj (fR (jE (ix (gy OY ZZ.aa PyProof.Rows.boot_isinstance (A2 (fo (gg (K:=K)) Y0 eI) (f6 (v:=.ref aA) ZZ.ac.at_ rfl))))) (fh jw) fW) (fj (fR (ix (eD (Pn ZZ) hr (A1 (fo (gg (K:=K)) Y0 eI)))) (fh jw) fW) (fj (fu 1 (Lm ZZ.ac.cl (NG ZZ) hr (fo (gg (K:=K)) Y0 eI)) Uk.nd) (fj (fR (fH mn (fg oE Y1 (fg f9 Y1 eI)) eI) (fh jw) fW) (fh (fq (iH (A2 (fo (gg (K:=K)) Y0 eI) (eD (MQ ZZ) hr (A1 (fo (gg (K:=K)) Y0 eI)))))))))))),?_⟩
 extract_lets;obtain⟨t',x',e',ht',hR,e2,nv,hoff⟩:=hP;obtain rfl:t=t':=by injection e'
 obtain⟨rfl⟩:x=x':=by
  have z:=ht.symm.trans ht';injection z with z;injection z with z;injection z with z;injection z
 clear e' ht';have gR:=hR;obtain⟨dx,dv,wv,hpx,hn,hb,hd,hw⟩:=hR;refine⟨(),_,.tuple,.tuple,rfl,by decide,.inr (.inl ⟨rfl,_,SqT.of ht⟩),(),gf ?_⟩;refine⟨(),t,(),.inr (SqT.of ht),rfl,(),gf ?_⟩;refine⟨(),t,_,(()),SqT.of ht,rfl,_,_,_,(),ZZ.ey.ty ZZ.ac.cl hpx,ZZ.ez,(),gf ?_⟩;refine⟨(),t,_,(()),SqT.of ht,rfl,x,P.m0,P.m1,P.m3,P.kd,P.kw,rfl,gR,λH2 s2=>?_⟩;rw[nv];have ht2:=s2 _ _ ht;have hp2:=s2 _ _ hpx;refine⟨(),gf ?_⟩
 refine⟨(),t,_,(()),SqT.of ht2,rfl,x,dx,(),hp2,zI ..,x,dx,_,_,_,_,dv,wv,rfl,hp2,?_⟩;rw[e2];refine⟨(),(),(()),(()),rfl,(),wB (λn=>absurd (OQ P.tm) n) (λ_=>?_)⟩;refine⟨(),t,_,(()),SqT.of ht2,rfl,(),t,_,(()),SqT.of ht2,rfl,P.off,rfl,hoff,(zL 2),λT nT=>?_⟩;have sT:=s2.trans (fm nT (.tup [.ref x,.int P.off]));exact q T _ sT fk
theorem Ya:Dx P w base ZZ.cp 9 (WJ K):=by
 refine ZZ.cp.dfs Xl (by trivial) ?_;rintro _ _ _ _ s H _ Q E hr⟨l,us,Ps,G,rfl,hl,sG,hP,hn,q⟩;refine⟨_,(fj (fR (tW (jY (jE (ix (gy mS ZZ.aa PyProof.Rows.boot_isinstance (A2 Y0 (lc ZZ.bf PyProof.Rows.boot_list))))) (ka (jE (wm lY lY eI (gy (jQ (K:=K)) ZZ.af PySem.boot_len (A1 Y0)) (f6 (v:=.int 4) ZZ.dk ⟨()⟩)))))) (fh jw) fW) (fh (fq (hU wN ZZ.cg PyProof.Rows.boot_tuple (A1 (kj [] [] (iV (K:=K) Y0) (λ_ _ _ _ _ _=>jV) (λ_ _ _ _ _ _=>(eD (Qr ZZ) hr (A1 Y0))))))))),?_⟩
 extract_lets;have pl:=iF hP;refine⟨(),_,.list,.list,rfl,by decide,.inl ⟨rfl,_,SqL.of hl⟩,(),gf ?_⟩;refine⟨(),l,(),.inl (SqL.of hl),(()),(),?_⟩;rw[eS (show (1:Int)<=((us.length:Nat):Int) by omega)];refine gZ ⟨(()),(),?_⟩;rw[eS (show ((us.length:Nat):Int)<=4 by omega)];refine gf ⟨(),l,rfl,⟨_,SqL.of hl⟩,sg (λD i w Hx=>Paired (PutY G (gK Hx D)) w (Ps.take i)) (λD i w Hx l0 l1 hD nD h=>by rw[pV];exact h) (by rw[eJ];omega) (λD nD=>.nil) (SqL.of hl) ?st ?dn⟩
 case st=>
  intro i v w D H2 E' F' hv hR nD s2 hD hE hF;obtain⟨P,hPi,hput⟩:=kX hP hv;obtain⟨t,x,rfl,ht,hz⟩:=id hput;refine⟨(),t,x,P,rfl,s2 _ _ ht,(hput.keep s2).x (sG.trans s2),λT H5 s5 hT=>hE _ _ s5 ?_⟩;rw[cB,hPi];exact wL ⟨T,x,rfl,(ik (λe=>by rw[e,s5 _ _ hD] at hT;cases hT)).trans hT,hz⟩ (rX (pX s5) hR)
 case dn=>
  intro D H2 w hR nD s2 hD;rw[pl,bQ] at hR;have hR2:=rX (nh (a:=D)) hR;refine⟨D,w,rfl,.inl ⟨SqL.of hD,λT nT=>?_⟩⟩;have sT:=fm nT (.tup w);exact q T w _ (s2.trans sT) fk (rX sT hR2)
theorem QF:DfMD P w K mg base aD "__init__" 3 ["self","base"] (Q5 K aD) [.int 0]:=by
 refine ZZ.b1.dfs T2 (by trivial) ?_;rintro _ _ _ _ s H _ Q E hr⟨p,dx,b,rfl,hp,hb,q⟩;refine⟨_,(fh (jn Y0 (eD (MQ ZZ) hr (A1 Y1)))),?_⟩;exact⟨(),b,rfl,hb,(),p,aD,dx,(),hp,ZZ.ai.cl,ZZ.as,(by show 0<1000;decide),q⟩
theorem Di:Dm P w mg base ZZ.bw 1 (Sh K aD):=by
 refine ZZ.bw.dfs X9 (by trivial) ?_;rintro _ _ _ _ s H _ Q E hr⟨p,dx,b,m,rfl,hp,q⟩;refine⟨_,(fh (fq (iD (K:=K) Y0))),?_⟩;exact⟨(),p,aD,dx,_,(),hp,ZZ.ai.cl,ZZ.as,Oq ..,q⟩
theorem YQ:Dm P w mg base ZZ.c2 1 (QR K aD):=by
 refine ZZ.c2.dfs UT (by trivial) ?_;rintro _ _ _ _ s H _ Q E hr⟨p,dx,b,m,rfl,hp,q⟩;refine⟨_,(fh (fq (fg fV Y1 (iD (K:=K) Y0)))),?_⟩;exact⟨(),(),p,aD,dx,_,(),hp,ZZ.ai.cl,ZZ.as,Oq ..,(()),q⟩
theorem PN:Dm P w mg base ZZ.bu 10 (SD K aB):=by
 refine ZZ.bu.dfs Si (by trivial) ?_;rintro _ _ _ _ s H _ Q E hr⟨p,dx,l,us,Ps,qs,rfl,hp,hl,hP,hq,hn,ok,hf,q⟩;refine⟨_,(fj (jn Y0 (eD (Ya ZZ) hr (A1 Y1))) (fh (jn Y0 (eD (WO ZZ) hr (A1 (iD (K:=K) Y0)))))),?_⟩;extract_lets;obtain⟨pg,hg⟩:=Ra hq ok hf;have hq1:∃q,q∈qs:=by
  cases hq with
  |nil=>exact absurd hn.1 (by decide)
  |cons a b=>exact⟨_,a8⟩
 obtain⟨q1,m1⟩:=hq1;have tok:=Z5 hq ok hf hg m1 (tK (ok q1 m1));obtain⟨t0,tr,e0,far⟩:=R8 hq ok hf hg tok;refine⟨(),l,us,Ps,gK H p,rfl,hl,nh,hP,hn,λT us' H2 s2 hT hP2=>?_⟩;have hp2:=s2 _ _ hp;have nT:T≠p:=λe=>by rw[e,hp2] at hT;cases hT
 refine⟨(),p,aB,dx,(),hp2,ZZ.ab.cl,ZZ.a8,(by show 0<1000;decide),?_⟩;have hp3:=fk (H:=H2) (a:=p) (o:=.ins aB dx (fK "puts" (.ref T) []));have hT3:upd H2 p (.ins aB dx (fK "puts" (.ref T) [])) T=some (.tup us'):=by rw[fG nT];exact hT
 have hP3:=zF (SY s2) (yk (gs:=fK "puts" (.ref T) []) hp2 hP2);have kp:∀b o,H b=some o->b≠p->upd H2 p (.ins aB dx (fK "puts" (.ref T) [])) b=some o:=λb o hb ne=>by rw[fG ne];exact s2 _ _ hb
 generalize upd H2 p (.ins aB dx (fK "puts" (.ref T) []))=H3 at hp3 hT3 hP3 kp ⊢;refine⟨(),p,aB,dx,_,(),hp3,ZZ.ab.cl,ZZ.a8,(by rw[gc,if_pos rfl]),T,us',Ps,pg,t0,tr,rfl,hT3,hP3,hg,e0,far,λl' us2 H4 s4 hl4 hp4=>?_⟩;have hp4':=s4 _ _ hp3;have nl:l'≠p:=λe=>by rw[e,hp4'] at hl4;cases hl4
 refine⟨(),p,aB,dx,(),hp4',ZZ.ab.cl,ZZ.ah,(by show 1<1000;decide),?_⟩;refine q (gQ pg 4800) _ ⟨dx,.ref T,l',us2,fk,(by rw[fG nl];exact hl4),?_,tok⟩ (OG hq ok hg) λb o hb ne=>by rw[fG ne];exact s4 _ _ (kp b o hb ne)
 exact Paired.mapP hp4 λ_ _ ⟨t,e,ht⟩=>⟨t,e,by rw[fG (λe=>by rw[e,hp4'] at ht;cases ht)];exact ht⟩
theorem Vt:Dm P w mg base ZZ.b2 2 (SU K aB):=by
 refine ZZ.b2.dfs U2 (by trivial) ?_;rintro _ _ _ _ s H _ Q E hr⟨p,T,m,rfl,hc,q⟩;refine⟨_,(fj (fu 2 (fg gr Y1 (f6 (v:=.int 210379680) ZZ.bg ⟨()⟩)) U2.nd) (fj (fu 3 (eD (R1 ZZ) hr (A2 (iD (K:=K) Y0) Y2)) U2.nd) (fj (fu 4 (fg f9 (fg f9 Y1 Y2) (l6 (fH ng Y3 eI) (f6 (v:=.int 210379680) ZZ.bg ⟨()⟩) eI)) U2.nd) (fj (fu 5 (fo (fO (K:=K)) (iD (K:=K) Y0) Y3) U2.nd) (fh (fq (iH (A3 (fg fV Y4 (fo (gg (K:=K)) Y5 eI)) (fo (gg (K:=K)) (fo (fO (K:=K)) (iD (K:=K) Y0) (fg f9 Y3 eI)) eI) (fo (gg (K:=K)) Y5 eI))))))))),?_⟩
 extract_lets;obtain⟨dx,pv,tl,us,hp,htl,hP,tok⟩:=hc;obtain⟨n,hn,h1,h2⟩:=Yx tok (m%210379680);refine⟨(),(()),(by decide),?_⟩;refine⟨(),p,aB,dx,_,(),hp,ZZ.ab.cl,ZZ.ah,xm ..,(),tl,us,T,_,n,rfl,SqL.of htl,hP,hn,h1,h2,?_⟩;have pl:=iF hP;obtain⟨iA,iB⟩:=RN tok.two hn;obtain⟨xA,hxA⟩:∃x,us[l8 T.length n]? =some x:=⟨_,bC ⋯⟩;obtain⟨xB,hxB⟩:∃x,us[lr T.length n]? =some x:=⟨_,bC ⋯⟩;obtain⟨tA,pA,rfl,htA,hpA⟩:=k7 hP hxA
 obtain⟨tB,pB,rfl,htB,hpB⟩:=k7 hP hxB;have two:=R5 tok hn h1 h2 hpA hpB;obtain⟨z1,z2⟩:=vN (xs:=us) (n:=n) (by have:=tok.two;omega) ⋯;rw[pl,hxA] at z1;rw[pl,hxB] at z2;refine⟨(),(),(()),(),(()),(),io (λc=>?_) (λc=>?_)⟩
 all_goals
  first | rw[if_pos c] at two | rw[if_neg c] at two
  refine⟨(()),?_⟩;refine⟨(),p,aB,dx,_,(),hp,ZZ.ab.cl,ZZ.ah,xm ..,(),tl,us,(()),SqL.of htl,z1,?_⟩;refine⟨(),(),tA,_,(()),SqT.of htA,rfl,(()),?_⟩;exact⟨(),p,aB,dx,_,(),hp,ZZ.ab.cl,ZZ.ah,xm ..,(),(()),tl,us,(()),SqL.of htl,z2,tB,_,(()),SqT.of htB,rfl,(),tA,_,(()),SqT.of htA,rfl,(zL 3),λt nt=>q _ _ _ t _ two nt (fm nt _) fk⟩
theorem sY:Dm P w mg base ZZ.bq 3 (Pu K aB):=by
 refine ZZ.bq.dfs Qz (by trivial) ?_;rintro _ _ _ _ s H _ Q E hr⟨p,T,m,rfl,hc,q⟩;refine⟨_,(fh (fq (fo (gg (K:=K)) (i8 ZZ.ab.cl (Vt ZZ) hr Y0 (A1 Y1)) eI))),?_⟩;obtain⟨dx,pv,tl,us,hp,_⟩:=id hc;exact⟨(),p,dx,(),hp,Sa ..,(),p,T,m,rfl,hc,λa b c t H' two nt s' ht=>⟨t,_,(()),SqT.of ht,rfl,q a b c H' two s'⟩⟩
theorem VG:Dm P w mg base ZZ.cc 4 (SM K aB):=by
 refine ZZ.cc.dfs X4 (by trivial) ?_;rintro _ _ _ _ s H _ Q E hr⟨p,T,m,rfl,hc,q⟩;refine⟨_,(fh (fq (fg fV Y1 (i8 ZZ.ab.cl (sY ZZ) hr Y0 (A1 Y1))))),?_⟩;obtain⟨dx,pv,tl,us,hp,_⟩:=id hc;exact⟨(),(),p,dx,(),hp,uw ..,(),p,T,m,rfl,hc,λa b c H' two s'=>⟨(()),q a b c H' two s'⟩⟩
theorem vt:Dx P w base ZZ.eh 5 (OM K):=by
 refine ZZ.eh.dfs UK (by trivial) ?_;rintro _ _ _ _ s H _ Q E hr⟨p,x,rfl,h⟩;refine⟨_,(fj (fu 2 (gM (A2 (fg f9 Y1 (kO (i8 ZZ.ab.cl (sY ZZ) hr Y0 (A1 (fg f9 Y1 (f6 (v:=.int 720) ZZ.ag ⟨()⟩)))) (i8 ZZ.ai.cl (Di ZZ) hr Y0 (A1 (fg f9 Y1 (f6 (v:=.int 720) ZZ.ag ⟨()⟩)))))) (fg f9 Y1 (kO (i8 ZZ.ab.cl (sY ZZ) hr Y0 (A1 (fg fV Y1 (f6 (v:=.int 720) ZZ.ag ⟨()⟩)))) (i8 ZZ.ai.cl (Di ZZ) hr Y0 (A1 (fg fV Y1 (f6 (v:=.int 720) ZZ.ag ⟨()⟩)))))))) UK.nd) (fh (fq (kj ["local","clock"] [1,0] (iV (K:=K) (gy EO ZZ.am PyProof.Rows.boot_sorted (A1 (hU M4 ZZ.d7 PyProof.Rows.boot_set (A1 Y2))))) (λ_ _ _ _ _ _=>(NY (fH gp (kO (i8 ZZ.ab.cl (VG ZZ) hr Y2 (A1 Y0)) (i8 ZZ.ai.cl (YQ ZZ) hr Y2 (A1 Y0))) Y1))) (λ_ _ _ _ _ _=>Y0))))),?_⟩
 extract_lets;rcases h with ⟨T,hc,ok,q⟩ | ⟨dx,b,hp,q⟩
 ·obtain⟨dx,pv,tl,us,hp,_⟩:=id hc;refine⟨(),.inl ⟨(),p,dx,(),hp,uw ..,(),(()),p,T,(),hc,λa1 b1 c1 H1 two1 s1=>⟨(()),(),.inl ⟨(),p,dx,(),s1 _ _ hp,uw ..,(),(()),p,T,(),hc.keep s1,λa2 b2 c2 H2 two2 s2=>⟨(()),(zL 2),λl2 n2=>?_⟩⟩⟩⟩⟩;have s12:=s1.trans s2;have s3:=s12.trans (fm n2 (.lst [V.int (x-c1),V.int (x-c2)]));have hl2:upd H2 l2 (.lst [V.int (x-c1),V.int (x-c2)]) l2=some (.lst (([x-c1,x-c2]:List Int).map V.int)):=fk
  generalize upd H2 l2 (.lst [V.int (x-c1),V.int (x-c2)])=H3 at s3 hl2 ⊢;refine⟨(),l2,[x-c1,x-c2],rfl,SqL.of hl2,(by show 2+1<4096;decide),λsq nsq=>⟨sq,(),fk,(by show 2<=63;decide),λS zs nS hpw hm=>?_⟩⟩;have nS3:=kf (fm nsq _) nS;have s34:=(fm nsq _).trans (fm nS (.lst (zs.map V.int)));have lz:zs.length<=2:=m8 (hpw.imp λh=>by omega) λt ht=>(hm t).mp ht;refine⟨S,rfl,⟨_,SqL.of fk⟩,qN (λi w=>∃ls:List Int,w=ls.map V.int/\mC (Rd (kY T) x) (zs.take i) ls) (by rw[eJ,aQ];omega) ⟨[],rfl,I0 _⟩ (SqL.of fk) ?st ?dn⟩
  case st=>
   rintro i v w D H4 E' F' hv ⟨ls,rfl,fl⟩ nD s5 hD hE hF;rw[aX] at hv;obtain⟨t,ht,rfl⟩:=cJ.mp hv;have sA:=s3.trans (s34.trans s5);have tk:zs.take (i+1)=zs.take i++[t]:=by rw[cB,ht];rfl
   refine .inl ⟨(),p,dx,(),sA _ _ hp,VM ..,(),p,T,(),hc.keep sA,λa3 b3 c3 H5 two3 s6=>⟨(),rfl,(),gn (λe=>?_) (λn=>?_)⟩⟩
   ·exact⟨(),hE _ _ s6 ⟨ls++[t],by rw[aY];rfl,by rw[tk];exact Nq fl ⟨a3,b3,c3,two3,e⟩⟩⟩
   ·exact hF _ s6 ⟨ls,rfl,by rw[tk];exact KI fl (Oh two3 n)⟩
  case dn=>
   rintro D H4 w ⟨ls,rfl,fl⟩ nD s5 hD;rw[aQ,bQ] at fl;have sA:=s3.trans (s34.trans s5);refine q D ls _ (kf (s3.trans s34) nD) sA hD ⟨hpw.sublist fl.sub,λt=>⟨fl.yes t,λr=>fl.all t ((hm t).mpr ?_) r⟩⟩;rcases Rj ok two2 two1 r with e | e
   ·rw[e];exact a8
   ·rw[e];exact bM _ a8
 ·refine⟨(),.inr ⟨(),p,dx,(),hp,CT ..,(),(()),p,dx,b,(),hp,(()),(),.inr ⟨(),p,dx,(),hp,CT ..,(),(()),p,dx,b,(),hp,(()),(zL 2),λl2 n2=>?_⟩⟩⟩;have s3:=fm n2 (.lst [V.int (x-b),V.int (x-b)]);have hl2:upd H l2 (.lst [V.int (x-b),V.int (x-b)]) l2=some (.lst (([x-b,x-b]:List Int).map V.int)):=fk;generalize upd H l2 (.lst [V.int (x-b),V.int (x-b)])=H3 at s3 hl2 ⊢;refine⟨(),l2,[x-b,x-b],rfl,SqL.of hl2,(by show 2+1<4096;decide),λsq nsq=>⟨sq,(),fk,(by show 2<=63;decide),λS zs nS hpw hm=>?_⟩⟩
  have s34:=(fm nsq _).trans (fm nS (.lst (zs.map V.int)));have lz:zs.length<=2:=m8 (hpw.imp λh=>by omega) λt ht=>(hm t).mp ht;refine⟨S,rfl,⟨_,SqL.of fk⟩,qN (λi w=>w=(zs.take i).map V.int) (by rw[eJ,aQ];omega) rfl (SqL.of fk) ?st ?dn⟩
  case st=>
   rintro i v w D H4 E' F' hv rfl nD s5 hD hE hF;rw[aX] at hv;obtain⟨t,ht,rfl⟩:=cJ.mp hv;have hp4:=(s3.trans (s34.trans s5)) _ _ hp;have et:t=x-b:=by
    have z:=(hm t).mp (bA ht);rcases aT.mp z with e | e
    ·exact e
    ·exact aW.mp e
   refine .inr ⟨(),p,dx,(),hp4,RH ..,(),p,dx,b,(),hp4,(),rfl,(),gn (λe=>?_) (λn=>absurd (show t+b=x by omega) n)⟩;exact⟨(),hE _ _ (Same.refl _) (by rw[cB,ht,aY];rfl)⟩
  case dn=>
   rintro D H4 w rfl nD s5 hD;have ez:zs=[x-b]:=yb hpw (List.pairwise_singleton _ _) λt=>(hm t).trans ⟨λz=>by
    rcases aT.mp z with e | e
    ·rw[e];exact a8
    ·exact e,λz=>bM _ z⟩
   rw[aQ,bQ,ez] at hD;exact q D _ (kf (s3.trans s34) nD) (s3.trans (s34.trans s5)) hD
theorem qz:Dx P w base ZZ.de 1 (Rv K):=by
 refine ZZ.de.dfs PL (by trivial) ?_;rintro _ _ _ _ s H _ Q E hr⟨y,rfl,q⟩;refine⟨_,(fh (fq (fg fV (fg f9 (fg fV (fg iu eI Y0) (fg km (fg fV Y0 eI) eI)) (fg km (fg fV Y0 eI) eI)) (fg km (fg fV Y0 eI) eI)))),?_⟩;have e:db y=365*y+(y+3) / 4-(y+99) / 100+(y+399) / 400:=by rw[nj];omega
 rw[e] at q;exact⟨(),(()),.inl ⟨by decide,by decide⟩,(),(()),(()),⟨by decide,by decide⟩,(()),(),(()),(()),⟨by decide,by decide⟩,(()),(),(()),(()),⟨by decide,by decide⟩,(()),q⟩
theorem JB:Dx P w base ZZ.dw 1 (Rx K):=by
 refine ZZ.dw.dfs Tb (by trivial) ?_;rintro _ _ _ _ s H _ Q E hr⟨y,m,rfl,⟨h1,h2⟩,q⟩;refine⟨_,(fj (fR (fH gp Y1 eI) (fh (fq (fg fV eI (hU vx ZZ.bn PyProof.Rows.boot_int (A1 (oB (jA gp (fg gr Y0 eI) eI) (lx (rE (jA mn (fg gr Y0 eI) eI) (lx (jA gp (fg gr Y0 eI) eI)))))))))) fW) (fh (fq (fo (fO (K:=K)) (gM (qD [31,28,31,30,31,30,31,31,30,31,30,31])) (fg f9 Y1 eI))))),?_⟩
 extract_lets;refine⟨(),rfl,(),gn (λc1=>?_) (λc1=>?_)⟩
 ·have e:gd y m=28+jc y:=by unfold gd;rw[if_pos c1]
  have z:=q H (Same.refl H);rw[e] at z;refine⟨(),(()),(by show (0:Int)<4;decide),rfl,(),gn (λc4=>⟨(),(()),(by show (0:Int)<100;decide),rfl,(),wB (λn=>?a) (λe100=>⟨(),(()),(by show (0:Int)<400;decide),rfl,?b⟩)⟩) (λc4=>?c)⟩
  case a=>
   rw[u7 (b:=true) (by unfold gX;rw[eS c4,eV n];rfl)] at z;exact .inr ⟨(),(()),z⟩
  case b=>
   rw[u7 (b:=decide (V.int (y%400)=V.int 0)) (by unfold gX;rw[eS c4,eS e100,sh];rfl)] at z;exact .inr ⟨(),(()),z⟩
  case c=>
   rw[u7 (b:=false) (by unfold gX;rw[eV c4];rfl)] at z;exact .inr ⟨(),(()),z⟩
 ·have e:gd y m=lasts.getD (m-1).toNat 0:=by unfold gd;rw[if_neg c1]
  rw[e] at q;refine⟨(zL 12),λp hp=>?_⟩;exact⟨(),(()),p,lasts.map V.int,(()),SqL.of fk,vn h1 h2,q _ (fm hp _)⟩
theorem ZM:Dx P w base ZZ.dx 2 (Pk K):=by
 refine ZZ.dx.dfs Uh (by trivial) ?_;rintro _ _ _ _ s H _ Q E hr⟨n,rfl,q⟩;refine⟨_,(fj (fu 1 (fg km (fg iu Y0 eI) eI) Uh.nd) (fj (rF (fH j5 (eD (qz ZZ) hr (A1 Y1)) Y0) (fh (fu 1 (fg f9 Y1 eI) Uh.nd)) PassesOwn.never) (fj (rF (fH lY (eD (qz ZZ) hr (A1 (fg fV Y1 eI))) Y0) (fh (fu 1 (fg fV Y1 eI) Uh.nd)) PassesOwn.never) (fh (fq Y1))))),?_⟩;extract_lets;obtain⟨ys,h1,h2⟩:=YX n
 refine⟨(),(()),.inr ⟨by decide,by decide⟩,(()),⟨by decide,by decide⟩,?_⟩;refine qC (λσ H2=>H2=H/\∃y:Int,σ=[some (.int n),some (.int y)]) (λσ _=>((iv σ 1)-ys).toNat) ⟨rfl,()⟩ ?_;rintro σ H2 ⟨rfl,y,rfl⟩;refine⟨(),y,rfl,(),(()),(),io (λc=>?_) (λc=>?_)⟩
 ·have lt:ys<y:=by
   rcases Int.lt_or_le ys y with w | w
   ·exact w
   ·have:=MY w;omega
  exact⟨_,λ_ _ h=>h,(),(()),_,(by show (y-1-ys).toNat<(y-ys).toNat;omega),rfl,rfl,()⟩
 ·refine qC (λσ H3=>H3=H2/\∃y:Int,σ=[some (.int n),some (.int y)]/\db y<=n) (λσ _=>(ys-(iv σ 1)).toNat) ⟨rfl,y,rfl,⋯⟩ ?_;rintro σ H3 ⟨rfl,y,rfl,hy⟩;refine⟨(),(()),y+1,rfl,(),(()),(),io (λc=>?_) (λc=>?_)⟩
  ·have lt:y+1<=ys:=by
    rcases Int.lt_or_le ys (y+1) with w | w
    ·have:=MY (show ys+1<=y+1 by omega);omega
    ·exact w
   exact⟨_,λ_ _ h=>h,(),(()),_,(by show (ys-(y+1)).toNat<(ys-y).toNat;omega),rfl,rfl,(),c⟩
  ·exact⟨(),q y hy ⋯⟩
theorem Mu:Dx P w base ZZ.ei 1 (Tt K):=by
 refine ZZ.ei.dfs U9 (by trivial) ?_;rintro _ _ _ _ s H _ Q E hr⟨l,z,m,rfl,hz,hm,q⟩;refine⟨_,(fj (vB Y0 (Ci (gE (gN 2 U9.nd) (gE (gN 3 U9.nd) (gE (gN 4 U9.nd) (gE (gN 5 U9.nd) (gE (gN 6 U9.nd) (gE (gN 7 U9.nd) (gE (gN 8 U9.nd) kW))))))))) (fj (fu 9 (gH [42]) U9.nd) (fj (fu 10 (gH [42]) U9.nd) (mE (fR (fH gp Y4 eI) (fh (fu 9 (hU jk ZZ.ad PyProof.Rows.boot_str (A1 (fg fV eI Y5))) U9.nd)) fW) (mE (fR (fH gp Y4 eI) (fh (fu 10 (fg ph (fg ph (hU jk ZZ.ad PyProof.Rows.boot_str (A1 Y6)) (gH [35])) (hU jk ZZ.ad PyProof.Rows.boot_str (A1 (fg fV eI Y7)))) U9.nd)) fW) (mE (fR (fH gp Y4 eI) (fh (fu 10 (fg ph (hU jk ZZ.ad PyProof.Rows.boot_str (A1 Y6)) (gH [76])) U9.nd)) fW) (fj (fu 11 (qQ (gH [32]) (gM (aC (hU jk ZZ.ad PyProof.Rows.boot_str (A1 Y2)) (aC (hU jk ZZ.ad PyProof.Rows.boot_str (A1 Y3)) (A3 Y9 (hU jk ZZ.ad PyProof.Rows.boot_str (A1 Y1)) (v_ 10)))))) U9.nd) (fh (fq (iH (aC (v_ 11) (aC (fg fV (fg iu eI Y3) Y2) (aC Y4 (aC (fo (fO (K:=K)) (gM (A3 (fg fV eI Y5) (fg fV eI Y7) eI)) Y4) (A3 Y6 Y1 (fg f9 Y8 eI)))))))))))))))),?_⟩
 extract_lets;obtain⟨l',e',hl,mi,h,s,d,w,n,o,rfl,bi,bh,bs,bd,bw,bn,bo⟩:=hz;obtain rfl:l=l':=by injection e'
 obtain⟨mi,rfl⟩:=bF bi.1;obtain⟨h,rfl⟩:=bF bh.1;obtain⟨d,rfl⟩:=bF bd.1;obtain⟨w,rfl⟩:=bF bw.1;obtain⟨n,rfl⟩:=bF bn.1;obtain⟨m,rfl⟩:=bF (show 0<=m by omega);have lw:=jB (n:=w) ⋯;have ln:=jB (n:=2+n) ⋯;refine⟨(),l,(),SqL.of hl,rfl,_,(),_,(),_,(),_,(),_,(),_,(),(()),?_⟩;refine⟨λσ' H'=>σ'=[some (.ref l),some (.int m),some (.int mi),some (.int h),some (.int s),some (.int d),some (.int w),some (.int n),some (.int o),some (.str (Tx (if s=0 then num (5+d) else [42]))),some (.str (Tx [42])),none]/\H'=H,?c1,?_⟩
 case c1=>
  refine⟨(),rfl,(),gn (λc=>?_) (λc=>?_)⟩
  ·exact⟨(),(()),5+d,rfl,jq ⋯,by rw[if_pos c];rfl,rfl⟩
  ·exact⟨by rw[if_neg c];rfl,rfl⟩
 rintro σ' H' ⟨rfl,rfl⟩;refine⟨λσ' H2=>σ'=[some (.ref l),some (.int m),some (.int mi),some (.int h),some (.int s),some (.int d),some (.int w),some (.int n),some (.int o),some (.str (Tx (if s=0 then num (5+d) else [42]))),some (.str (Tx (if s=1 then num w++[35]++num (2+n) else [42]))),none]/\H2=H',?c2,?_⟩
 case c2=>
  refine⟨(),rfl,(),gn (λc=>?_) (λc=>?_)⟩
  ·refine⟨(),w,rfl,jq ⋯,num w,[35],rfl,rfl,(by rw[eJ];exact bK (Nat.add_le_add_right lw _) (by decide)),(),(()),2+n,rfl,jq ⋯,(()),(by rw[eJ,aV];exact bK (Nat.add_le_add (Nat.add_le_add_right lw _) ln) (by decide)),?_⟩;exact⟨by rw[if_pos c];rfl,rfl⟩
  ·exact⟨by rw[if_neg c],rfl⟩
 rintro σ' H' ⟨rfl,rfl⟩;refine⟨λσ' H2=>σ'=[some (.ref l),some (.int m),some (.int mi),some (.int h),some (.int s),some (.int d),some (.int w),some (.int n),some (.int o),some (.str (Tx (if s=0 then num (5+d) else [42]))),some (.str (Tx (if s=2 then num w++[76] else (if s=1 then num w++[35]++num (2+n) else [42])))),none]/\H2=H',?c3,?_⟩
 case c3=>
  refine⟨(),rfl,(),gn (λc=>?_) (λc=>?_)⟩
  ·refine⟨(),w,rfl,jq ⋯,num w,[76],rfl,rfl,(by rw[eJ];exact bK (Nat.add_le_add_right lw _) (by decide)),?_⟩;exact⟨by rw[if_pos c];rfl,rfl⟩
  ·exact⟨by rw[if_neg c],rfl⟩
 rintro σ' H' ⟨rfl,rfl⟩;have tx:=Xp bi bh bw bo bs bd bn hm;have ok:=E3 bs bd bw bn bo hm bi bh;obtain⟨D,eD⟩:∃D,D=(if s=0 then num (5+d) else [42]):=⟨()⟩;obtain⟨N,eN⟩:∃N,N=(if s=2 then num w++[76] else (if s=1 then num w++[35]++num (2+n) else [42])):=⟨()⟩;have lD:D.length<=4:=by rw[eD];split;exact jB ⋯;decide
 have lN:N.length<=9:=by
  rw[eN];split
  ·rw[aV];show (num w).length+1<=9;omega
  ·split
   ·rw[aV,aV];show (num w).length+1+(num (2+n)).length<=9;omega
   ·decide
 rw[←eD,←eN] at tx ⊢;have lm:=jB (n:=mi) ⋯;have lh:=jB (n:=h) ⋯;have lo:=jB (n:=m) ⋯;have jl:(gj 32 [num mi,num h,D,num m,N]).length<=1000000:=by
  show (num mi++32::(num h++32::(D++32::(num m++32::N)))).length<=1000000;simp only[aV,bN];omega
 refine⟨rfl,(),mi,rfl,jq ⋯,(),h,rfl,jq ⋯,(),(),m,rfl,jq ⋯,(),(zL 5),λp np=>⟨32,p,[num mi,num h,D,num m,N],rfl,rfl,SqL.of fk,jl,?_⟩⟩;have s1:=fm np (.lst [V.str (Tx (num mi)),V.str (Tx (num h)),V.str (Tx D),V.str (Tx (num m)),V.str (Tx N)]);refine⟨(),(),(()),.inl ⟨by decide,by decide⟩,(),(()),(),(),(()),(),(()),(zL 3),λl3 n3=>⟨(),l3,_,(()),SqL.of fk,YB bs,(),(),(),(()),(zL 7),λT nT=>?_⟩⟩;exact q (.ref T) _ _ (s1.trans ((fm n3 _).trans (fm nT _))) ⟨T,(),fk,tx,ok⟩ ⟨by show s≠3;omega,by show s≠4;omega⟩ rfl
theorem Ck:Dx P w base ZZ.c3 1 (QU K):=by
 refine ZZ.c3.dfs Ug (by trivial) ?_;rintro _ _ _ _ s H _ Q E hr⟨l,mi,h,s,d,w0,n,o,w,rfl,hl,bi,bh,bw,bo,q⟩;refine⟨_,(fj (fu 2 (qQ (gH [32]) (gM (aC (hU jk ZZ.ad PyProof.Rows.boot_str (A1 (fo (fO (K:=K)) Y0 eI))) (A3 (hU jk ZZ.ad PyProof.Rows.boot_str (A1 (fo (fO (K:=K)) Y0 eI))) (gH [42,32,42]) (hU jk ZZ.ad PyProof.Rows.boot_str (A1 Y1)))))) Ug.nd) (fh (fq (iH (aC Y2 (aC (fg fV (fg iu eI (fo (fO (K:=K)) Y0 eI)) (fo (fO (K:=K)) Y0 eI)) (aC eI (aC eI (A3 Y1 eI (fg f9 (fo (fO (K:=K)) Y0 eI) eI)))))))))),?_⟩
 extract_lets;obtain⟨mi,rfl⟩:=bF bi.1;obtain⟨h,rfl⟩:=bF bh.1;obtain⟨w,rfl⟩:=bF bw.1;obtain⟨ok,tx⟩:=Wv bi bh bw bo;have lm:=jB (n:=mi) ⋯;have lh:=jB (n:=h) ⋯;have lw:=jB (n:=w) ⋯;have jl:(gj 32 [num mi,num h,[42,32,42],num w]).length<=1000000:=by
  show (num mi++32::(num h++32::([42,32,42]++32::num w))).length<=1000000;simp only[aV,bN,List.length_nil];omega
 refine⟨rfl,(),l,_,(()),SqL.of hl,rfl,mi,rfl,jq ⋯,(),l,_,(()),SqL.of hl,rfl,h,rfl,jq ⋯,(),w,rfl,jq ⋯,(zL 4),λp np=>⟨32,p,[num mi,num h,[42,32,42],num w],rfl,rfl,SqL.of fk,jl,?_⟩⟩;have s1:=fm np (.lst [V.str (Tx (num mi)),V.str (Tx (num h)),V.str (Tx [42,32,42]),V.str (Tx (num w))]);refine⟨(),(),l,_,(()),SqL.of (s1 _ _ hl),rfl,(()),.inl ⟨by decide,by decide⟩,(),l,_,(()),SqL.of (s1 _ _ hl),rfl,(()),(),(),l,_,(()),SqL.of (s1 _ _ hl),rfl,(()),(zL 7),λT nT=>?_⟩
 exact q (.ref T) _ (s1.trans (fm nT _)) ⟨T,(),fk,tx,ok⟩
theorem B4:Dx P w base ZZ.cq 1 (PX K):=by
 refine ZZ.cq.dfs U8 (by trivial) ?_;rintro _ _ _ _ s H _ Q E hr⟨l,z,e,rfl,hz,be,q⟩;refine⟨_,(fj (fu 2 (qQ (gH [32]) (gM (aC (hU jk ZZ.ad PyProof.Rows.boot_str (A1 (fo (fO (K:=K)) Y0 eI))) (A3 (hU jk ZZ.ad PyProof.Rows.boot_str (A1 (fo (fO (K:=K)) Y0 eI))) (hU jk ZZ.ad PyProof.Rows.boot_str (A1 Y1)) (gH [42,32,42]))))) U8.nd) (fh (fq (iH (aC Y2 (aC (fg fV (fg iu eI (fo (fO (K:=K)) Y0 eI)) (fo (fO (K:=K)) Y0 eI)) (aC eI (aC Y1 (A3 eI eI (fg f9 (fo (fO (K:=K)) Y0 eI) eI)))))))))),?_⟩
 extract_lets;obtain⟨l',e',hl,mi,h,s,d,w,n,o,rfl,bi,bh,bs,bd,bw,bn,bo⟩:=hz;obtain rfl:l=l':=by injection e'
 obtain⟨mi,rfl⟩:=bF bi.1;obtain⟨h,rfl⟩:=bF bh.1;obtain⟨e,rfl⟩:=bF (show 0<=e by omega);obtain⟨ok,tx⟩:=S9 bi bh bo be;have lm:=jB (n:=mi) ⋯;have lh:=jB (n:=h) ⋯;have lw:=jB (n:=e) ⋯;have jl:(gj 32 [num mi,num h,num e,[42,32,42]]).length<=1000000:=by
  show (num mi++32::(num h++32::(num e++32::[42,32,42]))).length<=1000000;simp only[aV,bN,List.length_nil];omega
 refine⟨rfl,(),l,_,(()),SqL.of hl,rfl,mi,rfl,jq ⋯,(),l,_,(()),SqL.of hl,rfl,h,rfl,jq ⋯,(),e,rfl,jq ⋯,(zL 4),λp np=>⟨32,p,[num mi,num h,num e,[42,32,42]],rfl,rfl,SqL.of fk,jl,?_⟩⟩;have s1:=fm np (.lst [V.str (Tx (num mi)),V.str (Tx (num h)),V.str (Tx (num e)),V.str (Tx [42,32,42])]);refine⟨(),(),l,_,(()),SqL.of (s1 _ _ hl),rfl,(()),.inl ⟨by decide,by decide⟩,(),l,_,(()),SqL.of (s1 _ _ hl),rfl,(()),(),(),l,_,(()),SqL.of (s1 _ _ hl),rfl,(()),(zL 7),λT nT=>?_⟩
 exact q (.ref T) _ _ (s1.trans (fm nT _)) ⟨T,(),fk,tx,ok⟩ rfl rfl
theorem Qt:Dx P w base ZZ.dy 1 (VT K):=by
 refine ZZ.dy.dfs Uc (by trivial) ?_;rintro _ _ _ _ s H _ Q E hr⟨l,z,rfl,hz,q⟩;refine⟨_,(fj (fu 1 (qQ (gH [32]) (gM (A3 (hU jk ZZ.ad PyProof.Rows.boot_str (A1 (fo (fO (K:=K)) Y0 eI))) (hU jk ZZ.ad PyProof.Rows.boot_str (A1 (fo (fO (K:=K)) Y0 eI))) (fo (fO (K:=K)) (gM (A2 (gH [50,57,32,50,32,42]) (fg ph (fg ph (gH [42,32,50,32]) (hU jk ZZ.ad PyProof.Rows.boot_str (A1 (fo (fO (K:=K)) Y0 eI)))) (gH [35,53])))) (fg gr (fo (fO (K:=K)) Y0 eI) eI))))) Uc.nd) (fh (fq (iH (aC Y1 (aC (fg fV (fg iu eI (fo (fO (K:=K)) Y0 eI)) (fo (fO (K:=K)) Y0 eI)) (aC (fg fV eI (fg gr (fo (fO (K:=K)) Y0 eI) eI)) (aC eI (A3 (fo (fO (K:=K)) Y0 eI) eI (fg f9 (fo (fO (K:=K)) Y0 eI) eI)))))))))),?_⟩
 extract_lets;obtain⟨l',e',hl,mi,h,s,d,w,n,o,rfl,bi,bh,bs,bd,bw,bn,bo⟩:=hz;obtain rfl:l=l':=by injection e'
 obtain⟨mi,rfl⟩:=bF bi.1;obtain⟨h,rfl⟩:=bF bh.1;obtain⟨w,rfl⟩:=bF bw.1;obtain⟨ok,tx⟩:=SZ (s:=5+d%2) bi bh bw bo ⋯;obtain⟨N,eN⟩:∃N,N=(if 5+d%2=5 then [50,57,32,50,32,42] else [42,32,50,32]++num w++[35,53]):=⟨()⟩;have lm:=jB (n:=mi) ⋯;have lh:=jB (n:=h) ⋯;have lw:=jB (n:=w) ⋯;have lN:N.length<=20:=by
  rw[eN];split
  ·decide
  ·rw[aV,aV];show 4+(num w).length+2<=20;omega
 rw[←eN] at tx;have jl:(gj 32 [num mi,num h,N]).length<=1000000:=by
  show (num mi++32::(num h++32::N)).length<=1000000;simp only[aV,bN];omega
 have hat:hZ [V.str (Tx [50,57,32,50,32,42]),V.str (Tx ([42,32,50,32]++num w++[35,53]))] (d%2)=some (.str (Tx N)):=by
  rcases (show d%2=0∨d%2=1 by omega) with e | e<;>(rw[eN,e];rfl)
 refine⟨rfl,(),l,_,(()),SqL.of hl,rfl,mi,rfl,jq ⋯,(),l,_,(()),SqL.of hl,rfl,h,rfl,jq ⋯,(),l,_,(()),SqL.of hl,rfl,w,rfl,jq ⋯,(()),(by rw[eJ];exact bK (Nat.add_le_add_left lw _) (by decide)),(()),(by rw[eJ,aV];exact bK (Nat.add_le_add_right (Nat.add_le_add_left lw _) _) (by decide)),(zL 2),λl2 n2=>?_⟩;have s0:=fm n2 (.lst [V.str (Tx [50,57,32,50,32,42]),V.str (Tx ([42,32,50,32]++num w++[35,53]))])
 refine⟨(),l,_,(()),SqL.of (s0 _ _ hl),rfl,(()),(by show (0:Int)<2;decide),l2,_,(()),SqL.of fk,hat,(zL 3),λp np=>⟨32,p,[num mi,num h,N],rfl,rfl,SqL.of fk,jl,?_⟩⟩;have s1:=s0.trans (fm np (.lst [V.str (Tx (num mi)),V.str (Tx (num h)),V.str (Tx N)]));refine⟨(),(),l,_,(()),SqL.of (s1 _ _ hl),rfl,(()),.inl ⟨by decide,by decide⟩,(),l,_,(()),SqL.of (s1 _ _ hl),rfl,(()),(),l,_,(()),SqL.of (s1 _ _ hl),rfl,(()),(by show (0:Int)<2;decide),(()),(),l,_,(()),SqL.of (s1 _ _ hl),rfl,(),l,_,(()),SqL.of (s1 _ _ hl),rfl,(()),(zL 7),λT nT=>?_⟩
 exact q (.ref T) _ _ (s1.trans (fm nT _)) ⟨T,(),fk,tx,ok⟩ (by show 5+d%2=5∨5+d%2=6;omega) rfl
theorem Xx:Dx P w base ZZ.dz 3 (V6 K):=by
 refine ZZ.dz.dfs Ub (by trivial) ?_;rintro _ _ _ _ s H _ Q E hr⟨l,cs,b,rfl,hl,hn,q⟩;refine⟨_,(fj (fu 2 (eD (vO ZZ) hr (A3 (fo (fO (K:=K)) Y0 eI) (gM (qD [6,4,12,11,10,9])) Y1)) Ub.nd) (fj (fu 3 (kj ["_law_mixed"] [1] (iV (K:=K) (kJ (oQ (K:=K)) Y0 (kI eI) kn)) (λ_ _ _ _ _ _=>jV) (λ_ _ _ _ _ _=>(eD (vO ZZ) hr (A3 Y0 (gM (qD [60,24,3,20,7,3,1441])) Y1)))) Ub.nd) (fj (fR (fH gp (fo (fO (K:=K)) Y2 eI) eI) (fj (fu 4 (fg gr (fg fV (fg fV (fo (fO (K:=K)) (fo (fO (K:=K)) Y3 eI) eI) eI) (fg gr (fo (fO (K:=K)) Y2 eI) eI)) eI) Ub.nd) (fh (fq (gM (A2 (eD (Ck ZZ) hr (A2 (fo (fO (K:=K)) Y3 eI) (fo (fO (K:=K)) (fo (fO (K:=K)) Y3 eI) eI))) (eD (Ck ZZ) hr (A2 (fg tY (kJ (oQ (K:=K)) (fo (fO (K:=K)) Y3 eI) kn (kI eI)) (kJ (oQ (K:=K)) (fo (fO (K:=K)) Y3 eI) (kI eI) kn)) Y4))))))) fW) (fj (fR (fH gp (fo (fO (K:=K)) Y2 eI) eI) (fj (fu 5 (fg fV eI (fg gr (fo (fO (K:=K)) (fo (fO (K:=K)) Y3 eI) eI) eI)) Ub.nd) (fh (fq (gM (A2 (eD (B4 ZZ) hr (A2 (fo (fO (K:=K)) Y3 eI) Y5)) (eD (B4 ZZ) hr (A2 (fo (fO (K:=K)) Y3 eI) (fg fV (fg fV Y5 eI) (fg gr (fo (fO (K:=K)) (fo (fO (K:=K)) Y3 eI) eI) eI))))))))) fW) (fj (fR (fH gp (fo (fO (K:=K)) Y2 eI) eI) (fh (fq (gM (A2 (eD (Qt ZZ) hr (A1 (fo (fO (K:=K)) Y3 eI))) (eD (Mu ZZ) hr (A2 (fo (fO (K:=K)) Y3 eI) (fg fV eI (fg gr (fo (fO (K:=K)) Y2 eI) eI)))))))) fW) (fj (fu 6 (hU BS ZZ.bf PyProof.Rows.boot_list (A1 (hU um ZZ.ae boot_range (A2 eI eI)))) Ub.nd) (fh (fq (kj ["_law_parts","_law_left","_law_drawn"] [3,6,2] (mR ZZ.ae (A1 (fg fV eI (fo (fO (K:=K)) Y2 eI)))) (λ_ _ _ _ _ _=>jV) (λ_ _ _ _ _ _=>(eD (Mu ZZ) hr (A2 (fo (fO (K:=K)) Y1 Y0) (UO (K:=K) Y2 (fo (fO (K:=K)) Y3 (fg fV eI Y0))))))))))))))),?_⟩
 extract_lets;obtain⟨c0,c1,c2,c3,c4,rfl⟩:∃c0 c1 c2 c3 c4,cs=[c0,c1,c2,c3,c4]:=by
  match cs,hn with
  |[c0,c1,c2,c3,c4],_=>exact⟨_,_,_,_,()⟩
 have e6:∀z∈([6,4,12,11,10,9]:List Int),0<z/\z<1073741824:=by decide +kernel
 have e7:∀z∈([60,24,3,20,7,3,1441]:List Int),0<z/\z<1073741824:=by decide +kernel
 refine⟨(),l,_,(()),SqL.of hl,rfl,(zL 6),λls nls=>⟨(),c0,ls,b,[6,4,12,11,10,9],rfl,SqL.of fk,e6,(by show 6<=63;decide),λds dp H1 s1 hdp hd=>?_⟩⟩;have s1:=(fm nls _).trans s1;obtain⟨d0,d1,d2,d3,d4,d5,rfl,b0,b1,b2,b3,b4,b5⟩:=RO hd;refine⟨(),(),l,(),SqL.of (s1 _ _ hl),λcp ncp=>?_⟩;have s2:=s1.trans (fm ncp (.lst (iI (([c0,c1,c2,c3,c4]:List Int).map V.int) (some 1) none)));have hcp:=fk (H:=H1) (a:=cp) (o:=.lst (iI (([c0,c1,c2,c3,c4]:List Int).map V.int) (some 1) none))
 have hdp2:=fm ncp (.lst (iI (([c0,c1,c2,c3,c4]:List Int).map V.int) (some 1) none)) _ _ hdp;generalize upd H1 cp (.lst (iI (([c0,c1,c2,c3,c4]:List Int).map V.int) (some 1) none))=H2 at hcp hdp2 s2 ⊢;rw[tU] at hcp;have hcp:H2 cp=some (.lst ([c1,c2,c3,c4].map V.int)):=hcp;refine⟨cp,rfl,⟨_,SqL.of hcp⟩,sg (λD i w Hx=>∃zs:List (List Int),zs.length=i/\Paired (PtA (gK Hx D)) w zs) (λD i w Hx l0 l1 hD nD h=>by rw[pV];exact h) (by rw[eJ];show 4<=16777216;decide) (λD nD=>⟨[],rfl,.nil⟩) (SqL.of hcp) ?st ?dn⟩
 case st=>
  intro i v w D H3 E' F' hv hR nD s3 hD hE hF;obtain⟨zs,hzl,hzp⟩:=hR;rw[aX] at hv;obtain⟨ci,hci,rfl⟩:=cJ.mp hv;have hi:i<4:=(bB.mp hci).1;refine⟨(),(zL 7),λls nls=>⟨(),ci,ls,b,[60,24,3,20,7,3,1441],rfl,SqL.of fk,e7,(by show 7<=63;decide),λds p H5 s5 hp hd=>?_⟩⟩;have s5:=(fm nls _).trans s5;have ne:p≠D:=λe=>by
   have z:=s5 _ _ hD;rw[←e,hp] at z;injection z with z;injection z with z;have lz:=congrArg List.length z;rw[aQ,iF hzp] at lz;have:=iF hd;have e7:([60,24,3,20,7,3,1441]:List Int).length=7:=rfl;omega
  exact hE _ _ s5 ⟨zs++[ds],by rw[aV,hzl];rfl,BI ⟨p,rfl,(ik ne).trans hp,RE hd⟩ (xD (pX s5) hzp)⟩
 case dn=>
  intro P H3 w hR nP s3 hP;obtain⟨zs,hzl,hzp⟩:=hR;obtain⟨pa,pb,pc,pd,za,zb,zc,zd,rfl,rfl,hpa,hpb,hpc,hpd⟩:=Vj (xD (nh (a:=P)) hzp) hzl;have sH3:=s2.trans s3;have hdp3:=s3 _ _ hdp2;have hdp3:H3 dp=some (.lst [V.int d0,V.int d1,V.int d2,V.int d3,V.int d4,V.int d5]):=hdp3;obtain⟨mia,ha,sa,da,wa,na,oa,ea,hla,bia,bha,bda,bwa,boa⟩:=hpa.at;obtain⟨mib,hb,sb,db_,wb,nb,ob,eb,hlb,bib,bhb,bdb,bwb,bob⟩:=hpb.at
  refine⟨(),dp,_,(()),SqL.of hdp3,rfl,rfl,(),gn (λc3=>?k3) (λc3=>?_)⟩
  case k3=>
   refine⟨(),P,_,(()),SqL.of hP,rfl,pa,_,(()),SqL.of hla,rfl,(()),(),dp,_,(()),SqL.of hdp3,rfl,(()),(by show (0:Int)<2;decide),(()),(()),(by show (0:Int)<7;decide),?_⟩;refine⟨(),P,_,(()),SqL.of hP,rfl,(),P,_,(()),SqL.of hP,rfl,pa,_,(()),SqL.of hla,rfl,pa,mia,ha,sa,da,wa,na,oa,wa,rfl,hla,bia,bha,bwa,boa,λv1 H4 s4 L1=>?_⟩;have hP4:=s4 _ _ hP;refine⟨(),P,_,(()),SqL.of hP4,rfl,(),pa,(),SqL.of (s4 _ _ hla),λx1 n1=>?_⟩
   have e1:iI [V.int mia,V.int ha,V.int sa,V.int da,V.int wa,V.int na,V.int oa] none (some 6)=[V.int mia,V.int ha,V.int sa,V.int da,V.int wa,V.int na]:=rfl;have e2:iI [V.int mib,V.int hb,V.int sb,V.int db_,V.int wb,V.int nb,V.int ob] (some 6) none=[V.int ob]:=rfl;rw[e1];have s5:=s4.trans (fm n1 (.lst [V.int mia,V.int ha,V.int sa,V.int da,V.int wa,V.int na]));have hP5:=s5 _ _ hP;refine⟨(),P,_,(()),SqL.of hP5,rfl,(),pb,(),SqL.of (s5 _ _ hlb),λx2 n2=>?_⟩
   rw[e2];have s6:=s5.trans (fm n2 (.lst [V.int ob]));refine⟨x1,x2,(()),SqL.of (fm n2 _ _ _ fk),SqL.of fk,(by rw[eJ];show 6+1<=16777216;decide),λx3 n3=>?_⟩;refine⟨(),x3,mia,ha,sa,da,wa,na,ob,(),fk,bia,bha,⋯,bob,λv2 H8 s8 L2=>⟨(zL 2),λt nt=>?_⟩⟩;have s48:=(fm n1 _).trans ((fm n2 _).trans ((fm n3 _).trans s8));have sT:=fm nt (.lst [v1,v2]);have sA:=sH3.trans (s4.trans s48);exact q t [_,_] _ (sA.trans sT) (kf sA nt) ⟨[v1,v2],fk,.cons (L1.keep (s48.trans sT)) (.cons (L2.keep sT) .nil),Wk rfl rfl rfl (by show (wa+3+d1%2)%7=(wa+3)%7∨(wa+3+d1%2)%7=(wa+4)%7;omega),(by show 1<=2;decide),(by show 2<=4;decide)⟩
  refine⟨(),dp,_,(()),SqL.of hdp3,rfl,rfl,(),gn (λc4=>?k4) (λc4=>?_)⟩
  case k4=>
   refine⟨(),P,_,(()),SqL.of hP,rfl,pa,_,(()),SqL.of hla,rfl,(()),(by show (0:Int)<12;decide),(()),?_⟩;refine⟨(),P,_,(()),SqL.of hP,rfl,(),pa,_,(),hpa,⋯,λv1 q1 H4 s4 L1 e1 f1=>?_⟩;have hP4:=s4 _ _ hP;refine⟨(),P,_,(()),SqL.of hP4,rfl,(),(()),(),P,_,(()),SqL.of hP4,rfl,pb,_,(()),SqL.of (s4 _ _ hlb),rfl,(()),(by show (0:Int)<9;decide),(()),pb,_,(),hpb.keep s4,⋯,λv2 q2 H8 s8 L2 e2 f2=>⟨(zL 2),λt nt=>?_⟩⟩
   have sT:=fm nt (.lst [v1,v2]);have sA:=sH3.trans (s4.trans s8);exact q t [q1,q2] _ (sA.trans sT) (kf sA nt) ⟨[v1,v2],fk,.cons (L1.keep (s8.trans sT)) (.cons (L2.keep sT) .nil),Vw L1.ok L2.ok e1 e2 ⋯ ⋯,(by show 1<=2;decide),(by show 2<=4;decide)⟩
  refine⟨(),dp,_,(()),SqL.of hdp3,rfl,rfl,(),gn (λc5=>?k5) (λc5=>?_)⟩
  case k5=>
   refine⟨(),P,_,(()),SqL.of hP,rfl,pa,(),hpa,λv1 q1 H4 s4 L1 e1 m1=>?_⟩;have hP4:=s4 _ _ hP;refine⟨(),P,_,(()),SqL.of hP4,rfl,(),dp,_,(()),SqL.of (s4 _ _ hdp3),rfl,(()),(by show (0:Int)<9;decide),(()),pb,_,4+d2%9,rfl,hpb.keep s4,⋯,λv2 q2 H8 s8 L2 e2 m2=>⟨(zL 2),λt nt=>?_⟩⟩;have sT:=fm nt (.lst [v1,v2]);have sA:=sH3.trans (s4.trans s8);exact q t [q1,q2] _ (sA.trans sT) (kf sA nt) ⟨[v1,v2],fk,.cons (L1.keep (s8.trans sT)) (.cons (L2.keep sT) .nil),OW L1.ok L2.ok ⟨⋯,⋯⟩ e2 ⋯,(by show 1<=2;decide),(by show 2<=4;decide)⟩
  refine⟨1,13,rfl,λrp nrp=>⟨rp,1,13,1,12,rfl,fk,by decide,by decide,by decide,λM nM=>?_⟩⟩;have s4:=(fm nrp (lR rp 1 13 1)).trans (fm nM (.lst ((List.range 12).map λi:Nat=>V.int (1+(i:Int)*1))));have hM:upd (upd H3 rp (lR rp 1 13 1)) M (.lst ((List.range 12).map λi:Nat=>V.int (1+(i:Int)*1))) M=some (.lst (([1,2,3,4,5,6,7,8,9,10,11,12]:List Int).map V.int)):=fk;have nM3:=kf (fm nrp (lR rp 1 13 1)) nM
  generalize upd (upd H3 rp (lR rp 1 13 1)) M (.lst ((List.range 12).map λi:Nat=>V.int (1+(i:Int)*1)))=H4 at s4 hM ⊢;have hdp4:=s4 _ _ hdp3;refine⟨(),dp,_,(()),SqL.of hdp4,rfl,(()),1+d1,rfl,⋯,⋯,Zn (M:=M) (λD i w Hx=>∃(qs:List LQ) (ns:List Int),Hx M=some (.lst (ns.map V.int))/\qG qs ns i/\Paired (LqA Hx) w qs/\qs.length=i) (λz=>by rw[hM] at z;cases z) ?hm (by rw[eJ];omega) ?h0 ?hs ?hd⟩
  case hm=>
   rintro D i w Hx l0 l1 hD nD ⟨qs,ns,h1,h2,h3,h4⟩;have ne:M≠D:=λe=>by rw[←e,hM] at nD;cases nD
   exact⟨qs,ns,by rw[fG ne];exact h1,h2,ud hD h3,h4⟩
  case h0=>
   intro D nD;have ne:M≠D:=λe=>by rw[←e,hM] at nD;cases nD
   exact⟨[],[1,2,3,4,5,6,7,8,9,10,11,12],by rw[fG ne];exact hM,Vn,.nil,rfl⟩
  case hs=>
   rintro i w D H5 E' F' hi ⟨qs,ns,hM5,lf,hq,hql⟩ nD b5 hD hE hF;have hi4:i<4:=⋯;have s35:Same H3 H5:=tq ((But.of s4).trans b5) nM3;have hP5:=s35 _ _ hP;have hdp5:=s35 _ _ hdp3;have hx:∃(px:Addr) (z:List Int) (dk:Int),hZ [V.ref pa,V.ref pb,V.ref pc,V.ref pd] (0+(i:Int))=some (.ref px)/\PtA H3 (.ref px) z/\hZ [V.int d0,V.int d1,V.int d2,V.int d3,V.int d4,V.int d5] (2+(0+(i:Int)))=some (.int dk)/\0<=dk/\dk+i<12:=by
    rcases (show i=0∨i=1∨i=2∨i=3 by omega) with rfl | rfl | rfl | rfl
    ·exact⟨pa,_,d2,rfl,hpa,rfl,⋯,⋯⟩
    ·exact⟨pb,_,d3,rfl,hpb,rfl,⋯,⋯⟩
    ·exact⟨pc,_,d4,rfl,hpc,rfl,⋯,⋯⟩
    ·exact⟨pd,_,d5,rfl,hpd,rfl,⋯,⋯⟩
   obtain⟨px,z,dk,ha1,hpx,ha2,k0,k1⟩:=hx;have lfl:=lf.len;obtain⟨m,hm⟩:∃m,ns[dk.toNat]? =some m:=⟨_,bC ⋯⟩;have ml:=lf.lim m (bA hm);have hb6:But M H5 (upd H5 M (.lst ((ns.map V.int).eraseIdx dk.toNat))):=.upd;have s36:Same H3 (upd H5 M (.lst ((ns.map V.int).eraseIdx dk.toNat))):=tq ((But.of s35).trans hb6) nM3;refine⟨(),(),P,_,(()),SqL.of hP5,ha1,(),.inl ⟨rfl,_,SqL.of hM5⟩,(),(),(()),dp,_,(()),SqL.of hdp5,ha2,M,_,dk,dk.toNat,.int m,rfl,rfl,hM5,⋯,⋯,Vo k0 (by rw[aQ];omega),(by rw[aX,hm];rfl),px,z,m,rfl,hpx.keep s36,ml,λv q H6 s6 L q34 em=>hE v H6 (hb6.trans (.of s6)) ?_⟩
   refine⟨qs++[q],ns.eraseIdx dk.toNat,?_,V4 lf (by rw[em];exact hm) q34,MD L (xQ s6 (ud hM5 hq)),by rw[aV,hql];rfl⟩;rw[List.eraseIdx_eq_take_drop_succ,aY,List.map_take,List.map_drop,←List.eraseIdx_eq_take_drop_succ];exact s6 _ _ fk
  case hd=>
   rintro D H5 w ⟨qs,ns,hM5,lf,hq,hql⟩ nD b5 hD;have s35:Same H3 H5:=tq ((But.of s4).trans b5) nM3;exact q D qs _ (sH3.trans s35) (kf (sH3.trans s4) nD) ⟨w,hD,hq,TL hq lf.ok (List.nodup_append.mp lf.nd).1,⋯,⋯⟩
theorem HG:Dx P w base ZZ.cr 2 (TU K):=by
 refine ZZ.cr.dfs U6 (by trivial) ?_;rintro _ _ _ _ s H _ Q E hr⟨t,x,q,Y,rfl,ht,ok,qq⟩;refine⟨_,(fj (vB Y0 (mJ (K:=K) (gE (gN 2 U6.nd) (gE (gN 3 U6.nd) (gE (gN 4 U6.nd) (gE (gN 5 U6.nd) (gE (gN 6 U6.nd) (gE (gN 7 U6.nd) (gE (gN 8 U6.nd) kW))))))))) (fj (fu 9 (fg fV (eD (qz ZZ) hr (A1 Y1)) (gy sW ZZ.e1 PyProof.Rows.boot_sum (A1 (kj ["_law_year_here"] [1] (Nt ZZ.ae (A2 eI Y7)) (λ_ _ _ _ _ _=>jV) (λ_ _ _ _ _ _=>(eD (JB ZZ) hr (A2 Y1 Y0))))))) U6.nd) (fj (fu 10 (eD (JB ZZ) hr (A2 Y1 Y7)) U6.nd) (fj (fu 11 Y5 U6.nd) (mE (fR (fH gp Y4 eI) (fh (fu 11 (fg fV (fg fV eI (fg gr (fg f9 (fg f9 Y6 Y9) eI) eI)) (fg iu eI (fg f9 Y5 eI))) U6.nd)) fW) (mE (fR (fH gp Y4 eI) (fh (fu 11 (fg f9 (v_ 10) (fg gr (fg f9 (fg fV (fg fV Y9 (v_ 10)) eI) Y6) eI)) U6.nd)) fW) (mE (fR (fH gp Y4 eI) (fh (fu 11 eI U6.nd)) fW) (mE (fR (fH gp Y4 eI) (fh (fu 11 (fg fV eI (fg gr (fg f9 (fg f9 Y6 Y9) eI) eI)) U6.nd)) fW) (fj (fR (fH j5 (v_ 11) (v_ 10)) (fh (fq eN)) fW) (fh (fq (fg fV (fg iu eI (fg f9 (fg fV Y9 (v_ 11)) eI)) Y3)))))))))))),?_⟩
 extract_lets;obtain⟨⟨s0,s6,s3⟩,m1,m12⟩:=ok;refine⟨(),t,(),SqT.of ht,rfl,_,(),_,(),_,(),_,(),_,(),_,(),(()),?_⟩;obtain⟨eF,eL⟩:=Qk (y:=Y) m1 m12;obtain⟨M,eM⟩:∃M,M=12*Y+q.m-1:=⟨()⟩;rw[←eM] at eF eL qq;refine⟨(),Y,rfl,(),1,q.m,rfl,⟨by decide,by decide,⋯,⋯⟩,qR (λi z=>∃zs:List Int,z=zs.map V.int/\zs.sum=jF Y (1+(i:Int))) (by rw[eJ];omega) ⟨[],rfl,rfl⟩ ?st ?dn⟩
 case st=>
  rintro i z D H2 E' F' hi ⟨zs,rfl,hz⟩ nD s2 hD hE hF;refine⟨(),(),Y,(),⟨⋯,⋯⟩,λH3 s3=>hE _ _ s3 ⟨zs++[gd Y (1+(i:Int))],by rw[aY];rfl,?_⟩⟩;rw[List.sum_append,hz,show 1+((i+1:Nat):Int)=1+(i:Int)+1 by omega,xH ⋯,List.sum_cons,List.sum_nil,Int.add_zero]
 case dn=>
  rintro D H2 z ⟨zs,rfl,hz⟩ nD s2 hD;rw[show 1+((q.m-1).toNat:Int)=q.m by omega] at hz;refine⟨D,zs,rfl,SqL.of hD,(()),?_⟩;rw[hz,eF];refine⟨(),(),Y,q.m,rfl,⟨m1,m12⟩,λH3 s3=>?_⟩;rw[eL];have qq':=qq H3 (s2.trans s3);unfold qe i9 jo at qq';rw[←Zr] at qq';refine⟨(),λσ' H'=>σ'=[some (.ref t),some (.int Y),some (.str x),some (.int (q.tm:Int)),some (.int q.s),some (.int q.n),some (.int q.w),some (.int q.m),some (.int q.off),some (.int (fB M)),some (.int (gq M)),some (.int (pF q (fB M)))]/\H'=H3,?c1,?_⟩
  case c1=>
   refine⟨(),rfl,(),gn (λc=>?_) (λc=>?_)⟩
   ·refine⟨(),(),(()),(()),(()),(by show (0:Int)<7;decide),(()),(),(()),(()),.inl ⟨by decide,by decide⟩,(()),?_⟩;exact⟨by unfold pF;rw[if_pos c];rfl,rfl⟩
   ·exact⟨by unfold pF;rw[if_neg c];rfl,rfl⟩
  rintro σ' H' ⟨rfl,rfl⟩;refine⟨λσ' H2=>σ'=[some (.ref t),some (.int Y),some (.str x),some (.int (q.tm:Int)),some (.int q.s),some (.int q.n),some (.int q.w),some (.int q.m),some (.int q.off),some (.int (fB M)),some (.int (gq M)),some (.int (pO q (fB M) (gq M)))]/\H2=H',?c2,?_⟩
  case c2=>
   refine⟨(),rfl,(),gn (λc=>?_) (λc=>?_)⟩
   ·refine⟨(),(),(),(()),(()),(),(()),(()),(by show (0:Int)<7;decide),(()),?_⟩;exact⟨by unfold pO;rw[if_pos c];rfl,rfl⟩
   ·exact⟨by unfold pO;rw[if_neg c],rfl⟩
  rintro σ' H' ⟨rfl,rfl⟩;refine⟨λσ' H2=>σ'=[some (.ref t),some (.int Y),some (.str x),some (.int (q.tm:Int)),some (.int q.s),some (.int q.n),some (.int q.w),some (.int q.m),some (.int q.off),some (.int (fB M)),some (.int (gq M)),some (.int (pP q (fB M) (gq M)))]/\H2=H',?c5,?_⟩
  case c5=>
   refine⟨(),rfl,(),gn (λc=>?_) (λc=>?_)⟩
   ·exact⟨by unfold pP;rw[if_pos c];rfl,rfl⟩
   ·exact⟨by unfold pP;rw[if_neg c],rfl⟩
  rintro σ' H' ⟨rfl,rfl⟩;refine⟨λσ' H2=>σ'=[some (.ref t),some (.int Y),some (.str x),some (.int (q.tm:Int)),some (.int q.s),some (.int q.n),some (.int q.w),some (.int q.m),some (.int q.off),some (.int (fB M)),some (.int (gq M)),some (.int (pL q (fB M) (gq M)))]/\H2=H',?c6,?_⟩
  case c6=>
   refine⟨(),rfl,(),gn (λc=>?_) (λc=>?_)⟩
   ·refine⟨(),(),(()),(()),(()),(by show (0:Int)<7;decide),(()),?_⟩;exact⟨by unfold pL;rw[if_pos c];rfl,rfl⟩
   ·exact⟨by unfold pL;rw[if_neg c],rfl⟩
  rintro σ' H' ⟨rfl,rfl⟩;refine⟨(),(),(()),(),io (λc=>?_) (λc=>?_)⟩
  ·rw[if_pos c] at qq';exact qq'
  ·rw[if_neg c] at qq';exact⟨(),(),(()),(()),(()),.inl ⟨by decide,by decide⟩,(),(()),qq'⟩
theorem LX:Dx P w base ZZ.cs 3 (OP K):=by
 refine ZZ.cs.dfs U7 (by trivial) ?_;rintro _ _ _ _ s H _ Q E hr⟨t,q,x,rfl,hq,qq⟩;refine⟨_,(fj (fR (fH gp (fo (gg (K:=K)) Y0 eI) eI) (fj (fu 2 (fg f9 Y1 (fg gr (fg f9 (fg f9 Y1 (fg iu eI (fg fV (fo (gg (K:=K)) Y0 eI) eI))) (fo (gg (K:=K)) Y0 eI)) eI)) U7.nd) (fh (fq (gM (A2 Y2 (fg f9 Y2 eI)))))) fW) (fj (fu 3 (eD (ZM ZZ) hr (A1 (fg km Y1 eI))) U7.nd) (fj (fu 4 (gM aN) U7.nd) (fj (fu 5 eI U7.nd) (fj (rF (fH ng (gy (jQ (K:=K)) ZZ.af PySem.boot_len (A1 Y4)) eI) (mE (fR (fH gp (fo (gg (K:=K)) Y0 eI) eI) (fh (fu 6 (eD (HG ZZ) hr (A2 (fg (CN (K:=K)) (fg (CN (K:=K)) (kJ (Iq (K:=K)) Y0 kn (kI eI)) (iH (A1 (fg f9 eI (fg gr Y5 eI))))) (kJ (Iq (K:=K)) Y0 (kI eI) kn)) (fg f9 Y3 (fg km Y5 eI)))) U7.nd)) (fh (fu 6 (eD (HG ZZ) hr (A2 Y0 (fg f9 Y3 Y5))) U7.nd))) (fj (fR (tW (qI (fH LY Y6 eN) (qU (fH lY Y6 Y1)))) (fh (kr (lI Y4 Y6))) fW) (fh (fu 5 (fg fV Y5 eI) U7.nd)))) PassesOwn.never) (fh (fq Y4))))))),?_⟩
 extract_lets;obtain⟨t',xs,e',ht,tx,ok⟩:=hq;obtain rfl:t=t':=by injection e'
 refine⟨(),t,_,(()),SqT.of ht,rfl,rfl,(),gn (λc=>?w) (λh3=>?_)⟩
 case w=>
  exact⟨(),(),(),t,_,(()),SqT.of ht,rfl,(()),(()),.inl ⟨by decide,by decide⟩,(()),(),t,_,(()),SqT.of ht,rfl,(()),(()),(by show (0:Int)<10080;decide),(()),(),(),(()),(zL 2),λl nl=>qq l _ _ _ nl (fm nl _) fk (ww ok c x)⟩
 refine⟨(),(()),⟨by decide,by decide⟩,x / 1440,rfl,λY y1 y2=>⟨(zL 0),λF nF=>?_⟩⟩;refine qC (λσ H2=>∃(b:Nat) (fs:List Int) (v6:Option V),σ=[some (.ref t),some (.int x),none,some (.int Y),some (.ref F),some (.int (b:Int)),v6]/\Same H H2/\H2 F=some (.lst (fs.map V.int))/\Bk q x Y b fs/\fs.length<=2) (λσ _=>(1000-(iv σ 5)).toNat) ⟨0,[],none,rfl,fm nF _,fk,uh q x Y,a9 _⟩ ?_;rintro σ H2 ⟨b,fs,v6,rfl,s2,hF,bk,hl⟩
 have ht2:=s2 _ _ ht;refine⟨(),F,(),.inl (SqL.of hF),(()),(),io (λc=>?_) (λc=>?_)⟩
 ·rw[aQ] at c;have hb:b<972:=by
   rcases bU b 972 with z | z
   ·exact z
   ·have:=Yp ok h3 y1 bk z;omega
  refine⟨_,λ_ _ h=>h,λσ' H'=>Same H2 H'/\σ'=[some (.ref t),some (.int x),none,some (.int Y),some (.ref F),some (.int (b:Int)),some (qe q (mB q Y b))],?c4,?_⟩
  case c4=>
   refine⟨(),t,_,(()),SqT.of ht2,rfl,rfl,(),gn (λc4=>?_) (λc4=>?_)⟩
   ·have e5:iI (qv q xs) none (some 5)=[.str xs,.int q.tm,.int q.s,.int q.n,.int q.w]:=rfl;have e6:iI (qv q xs) (some 6) none=[.int q.off]:=rfl;refine⟨(),(),t,(),SqT.of ht2,(λz=>absurd z.2 (by show ¬HT.sIx 7 7 (some 5)=7;decide)),λp1 n1=>?_⟩;rw[e5];have s3:=fm n1 (.tup [.str xs,.int q.tm,.int q.s,.int q.n,.int q.w]);refine⟨(),(()),(by show (0:Int)<12;decide),(()),(zL 1),λp2 n2=>?_⟩;have s4:=fm n2 (.tup [.int (12-(b:Int)%12)])
    refine⟨p1,p2,(()),SqT.of (s4 _ _ fk),SqT.of fk,⟨bZ _ _,bZ _ _⟩,(by rw[eJ];show 5+1<=16777216;decide),λp3 n3=>?_⟩;have s5:=fm n3 (.tup ([.str xs,.int q.tm,.int q.s,.int q.n,.int q.w]++[.int (12-(b:Int)%12)]));have s25:=s3.trans (s4.trans s5);refine⟨(),(),t,(),SqT.of (s25 _ _ ht2),(λz=>absurd z.1 (by show ¬HT.sIx 7 0 (some 6)=0;decide)),λp4 n4=>?_⟩;rw[e6];have s6:=fm n4 (.tup [.int q.off]);refine⟨p3,p4,(()),SqT.of (s6 _ _ fk),SqT.of fk,⟨bZ _ _,bZ _ _⟩,(by rw[eJ];show 6+1<=16777216;decide),λp5 n5=>?_⟩
    have s7:=s25.trans (s6.trans (fm n5 (.tup ([.str xs,.int q.tm,.int q.s,.int q.n,.int q.w]++[.int (12-(b:Int)%12)]++[.int q.off]))));refine⟨(),(),(()),⟨by decide,by decide⟩,(()),p5,xs,⟨q.s,q.n,q.w,12-(b:Int)%12,q.tm,q.off⟩,Y-(b:Int) / 12,rfl,fk,⟨⟨ok.s.1,ok.s.2,h3⟩,by show 1<=12-(b:Int)%12;omega,by show 12-(b:Int)%12<=12;omega⟩,λH' s'=>⟨s7.trans s',?_⟩⟩;have eM:mB q Y b=12*(Y-(b:Int) / 12)+(12-(b:Int)%12)-1:=by
     unfold mB;rw[if_pos c4];omega
    rw[eM];rfl
   ·refine⟨(),(),(),(()),t,xs,q,Y-b,rfl,ht2,⟨⟨ok.s.1,ok.s.2,h3⟩,ok.m h3 c4⟩,λH' s'=>⟨s',?_⟩⟩;have eM:mB q Y b=12*(Y-(b:Int))+q.m-1:=by
     unfold mB;rw[if_neg c4]
    rw[eM];rfl
  rintro σ' H3 ⟨s3,rfl⟩;have hF3:=s3 _ _ hF;by_cases cm:gq (mB q Y b)<jo q (mB q Y b)
  ·have e:qe q (mB q Y b)=.non:=if_pos cm;rw[e];refine⟨(),rfl,(),?_⟩;rw[eS rfl];refine gf ⟨(),(()),_,(by show (1000-((b:Int)+1)).toNat<(1000-(b:Int)).toNat;omega),rfl,b+1,fs,(),s2.trans s3,hF3,EV bk (λz=>by omega),hl⟩
  ·have e:qe q (mB q Y b)=.int (i9 q (mB q Y b)):=if_neg cm;rw[e];refine⟨(),rfl,(),?_⟩;rw[eV (λz=>by cases z)];refine gZ ⟨(),(),(()),(),io (λc2=>?_) (λc2=>?_)⟩
   ·refine⟨(),.inl ⟨rfl,_,SqL.of hF3⟩,(),F,(()),hF3,(by rw[eJ,aQ];omega),?_⟩;refine⟨(),(()),_,(by show (1000-((b:Int)+1)).toNat<(1000-(b:Int)).toNat;omega),rfl,b+1,fs++[i9 q (mB q Y b)],(),kB nF (s2.trans s3),(by rw[aY];exact fk),aH0 ok h3 bk ⋯ c2,(by rw[aV];show fs.length+1<=2;omega)⟩
   ·exact⟨(),(()),_,(by show (1000-((b:Int)+1)).toNat<(1000-(b:Int)).toNat;omega),rfl,b+1,fs,(),s2.trans s3,hF3,EV bk (λz=>c2 z.2),hl⟩
 ·rw[aQ] at c
  match fs,hl,(show 2<=fs.length by omega),hF,bk with
  |[u1,u0],_,_,hF,bk=>exact⟨(),qq F u1 u0 H2 nF s2 hF (Xz ok h3 y2 bk)⟩
theorem zx:Dx P w base ZZ.c4 4 (X7 K):=by
 refine ZZ.c4.dfs Ua (by trivial) ?_;rintro _ _ _ _ s H _ Q E hr⟨l,qs,x,rfl,hq,qq⟩;refine⟨_,(fj (fu 2 (gM aN) Ua.nd) (fj (iz (iV (K:=K) Y0) (gN 3 Ua.nd) (fh (fu 2 (fg tY Y2 (kj ["_law_put_here"] [3] (iV (K:=K) (eD (LX ZZ) hr (A2 Y3 Y1))) (λ_ _ _ _ _ _=>jV) (λ_ _ _ _ _ _=>(iH (A2 Y0 (fo (gg (K:=K)) Y1 eI)))))) Ua.nd)) PassesOwn.never) (fj (fu 2 (gy Nn ZZ.am PyProof.Rows.boot_sorted (A1 Y2)) Ua.nd) (fh (fq (iH (A3 (fo (gg (K:=K)) (fo (fO (K:=K)) Y2 (lV lK eI)) eI) (fo (gg (K:=K)) (fo (fO (K:=K)) Y2 (lV lK eI)) eI) (fo (gg (K:=K)) (fo (fO (K:=K)) Y2 (lV lK eI)) eI)))))))),?_⟩
 extract_lets;obtain⟨us,hl,hp,hf,l1,l4⟩:=hq;refine⟨(zL 0),λF nF=>?_⟩;refine⟨(),l,rfl,⟨_,SqL.of (fm nF _ _ _ hl)⟩,j8 (K:=K) (a:=l) (xs:=us) (λi σ H2=>∃(G:Addr) (gs:List V) (S:List (Int×Int)) (v3:Option V),σ=[some (.ref l),some (.int x),some (.ref G),v3]/\Same H H2/\H2 G=some (.lst gs)/\Paired (gI H2) gs S/\pJ x (qs.take i) S) ⟨F,[],[],(),fm nF _,fk,.nil,vH x⟩ (λi σ H2 _ ⟨_,_,_,_,_,z,_⟩=>SqL.of (z _ _ hl)) ?turn ?done⟩
 case done=>
  rintro σ H2 ⟨G,gs,S,v3,rfl,s2,hG,hS,ac⟩;rw[iF hp,bQ] at ac;have len:=ac.len;refine⟨(),G,gs,S,rfl,SqL.of hG,hS,⋯,ac.nd,λD us' ps' nD hp' pm pw=>?_⟩;have lp:=pm.length_eq;have lu:=iF hp';have two:2<=us'.length:=⋯;obtain⟨xA,hxA⟩:∃v,us'[us'.length-1]? =some v:=⟨_,bC ⋯⟩;obtain⟨xB,hxB⟩:∃v,us'[us'.length-2]? =some v:=⟨_,bC ⋯⟩;obtain⟨tA,pA,rfl,htA,hpA⟩:=k7 hp' hxA;obtain⟨tB,pB,rfl,htB,hpB⟩:=k7 hp' hxB
  have z1:hZ us' (-1)=some (.ref tA):=(vN two (a9 _)).1.trans hxA;have z2:hZ us' (-2)=some (.ref tB):=(vN two (a9 _)).2.trans hxB;rw[lu] at hpA hpB;have tw:=Rb ac hf pm pw hpA hpB ⋯;have sD:=fm nD (.lst us');refine⟨(),(),D,_,(()),SqL.of fk,z1,tA,_,(()),SqT.of (sD _ _ htA),rfl,(),(),D,_,(()),SqL.of fk,z2,tB,_,(()),SqT.of (sD _ _ htB),rfl,(),(),D,_,(()),SqL.of fk,z1,tA,_,(()),SqT.of (sD _ _ htA),rfl,(zL 3),λT nT=>?_⟩
  exact qq _ _ _ T _ (kf (s2.trans sD) nT) tw (s2.trans (sD.trans (fm nT _))) fk
 case turn=>
  rintro i v σ H2 hv ⟨G,gs,S,v3,rfl,s2,hG,hS,ac⟩;obtain⟨q,hqi,hqv⟩:=kX hp hv;obtain⟨t,xs,rfl,ht,tx,ok⟩:=id hqv;have hq2:=hqv.keep s2;refine⟨(),(),(),t,q,x,rfl,hq2,λm u1 u0 H3 nm s3 hm l2=>?_⟩;have hm:H3 m=some (.lst ([u1,u0].map V.int)):=hm;have ht3:=s3 _ _ (s2 _ _ ht);refine⟨m,rfl,⟨_,SqL.of hm⟩,sg (λD j w Hx=>Paired (gI (gK Hx D)) w (([u1,u0].take j).map λu=>(u,q.off))) (λD j w Hx l0 l1 hD nD h=>by rw[pV];exact h) (by rw[eJ];show 2<=16777216;decide) (λD nD=>.nil) (SqL.of hm) ?st ?dn⟩
  case st=>
   intro j v' w D H4 E' F' hv' hR nD s4 hD hE hF;rw[aX] at hv';obtain⟨u,hu,rfl⟩:=cJ.mp hv';refine⟨(),(),t,_,(()),SqT.of (s4 _ _ ht3),rfl,(zL 2),λT nT=>hE _ _ (fm nT _) ?_⟩;have ne:T≠D:=λe=>by rw[e,hD] at nT;cases nT
   rw[cB,hu,aY];exact mN (p:=(u,q.off)) ((ik ne).trans fk) (jK (pX (fm nT _)) hR)
  case dn=>
   intro D H4 w hR nD s4 hD;have hR:=jK (nh (a:=D)) hR;have s34:=s3.trans s4;have tk:qs.take (i+1)=qs.take i++[q]:=by rw[cB,hqi];rfl
   have lS:=ac.len;rw[cE] at lS;have lg:=iF hS;have lw:=iF hR;have lw:w.length=2:=lw;refine⟨G,D,(()),SqL.of (s34 _ _ hG),SqL.of hD,(by rw[eJ];omega),λp np=>?_⟩;have sp:=fm np (.lst (gs++w));refine⟨p,gs++w,S++[(u1,q.off),(u0,q.off)],(),s2.trans (s34.trans sp),fk,?_,by rw[tk];exact sS ac l2 (by rw[←tk];exact Vx hf _)⟩;cases hR with
   |cons x1 r=>cases r with
    |cons x0 r=>cases r with
     |nil=>
      obtain⟨t1,rfl,h1⟩:=x1;obtain⟨t0,rfl,h0⟩:=x0;have z:=mN (p:=(u0,q.off)) (sp _ _ h0) (mN (p:=(u1,q.off)) (sp _ _ h1) (jK (s34.trans sp) hS));rw[c7,c7] at z;exact z
theorem Qc:Dx P w base ZZ.d0 4 (Vq K):=by
 refine ZZ.d0.dfs Uf (by trivial) ?_;rintro _ _ _ _ s H _ Q E hr⟨c,l,qs,b,rfl,hq,qq⟩;refine⟨_,(fj (vB (eD (vO ZZ) hr (A3 Y0 (gM (qD [2,4001,4,3001])) Y2)) (Ci (gE (gN 3 Uf.nd) (gE (gN 4 Uf.nd) (gE (gN 5 Uf.nd) (gE (gN 6 Uf.nd) kW)))))) (fj (fR (fH gp Y3 eI) (fh (fq (fg f9 (fg gr (fg km Y0 eI) (fg fV (fg iu eI (fg qi eI eI)) eI)) (fg qi eI eI)))) fW) (fj (fu 7 (fo (fO (K:=K)) (eD (LX ZZ) hr (A2 (fo (fO (K:=K)) Y1 (fg gr Y5 (gy (jQ (K:=K)) ZZ.af PySem.boot_len (A1 Y1)))) (fg iu eI (eD (qz ZZ) hr (A1 (fg f9 Y4 eI)))))) eI) Uf.nd) (fh (fq (fg fV Y7 (fo (fO (K:=K)) (gM (A2 (fg f9 Y6 eI) (fg f9 (fg gr Y6 eI) eI))) (fg gr Y6 eI)))))))),?_⟩
 extract_lets;obtain⟨us,hl,hp,hf,l1,l4⟩:=hq;have e4:∀z∈([2,4001,4,3001]:List Int),0<z/\z<1073741824:=by decide +kernel
 refine⟨(),(zL 4),λls nls=>⟨(),c,ls,b,[2,4001,4,3001],rfl,SqL.of fk,e4,(by show 4<=63;decide),λds dp H1 s1 hdp hd=>?_⟩⟩;have s1:=(fm nls _).trans s1;obtain⟨g0,g1,g2,g3,rfl,b2,b3⟩:∃g0 g1 g2 g3:Int,ds=[g0,g1,g2,g3]/\(0<=g2/\g2<4)/\0<=g3/\g3<3001:=by
  cases hd with | cons a0 h=>cases h with | cons a1 h=>cases h with | cons a2 h=>cases h with | cons a3 h=>cases h with | nil=>exact⟨_,_,_,(),a2,a3⟩
 refine⟨dp,(),SqL.of hdp,rfl,_,(),_,(),_,(),(()),?_⟩;refine⟨(),rfl,(),gn (λc0=>?_) (λc0=>?_)⟩
 ·exact⟨(),(()),⟨by decide,by decide⟩,(()),⟨by decide,by decide,by decide⟩,(()),.inl ⟨by decide,by decide⟩,(()),(()),(by decide +kernel),(()),⟨by decide,by decide,by decide⟩,(()),qq _ _ s1⟩
 have hl1:=s1 _ _ hl;have lu:=iF hp;have u0:0<(us.length:Int):=⋯;have m0:=dI g2 (Int.ne_of_gt u0);have m1:=dX g2 u0;obtain⟨v,hv⟩:∃v,us[(g2%(us.length:Int)).toNat]? =some v:=⟨_,bC ⋯⟩;obtain⟨q,_,hqv⟩:=kX hp hv;obtain⟨t,xs,rfl,ht,tx,ok⟩:=id hqv;have hv:=mF hv;rw[bV m0] at hv;obtain⟨z,hz⟩:∃z,hZ [V.int (g3-1500),V.int (g3%5-2)] (g3%2)=some (.int z):=by
  rcases (show g3%2=0∨g3%2=1 by omega) with e | e<;>(rw[e];exact⟨()⟩)
 refine⟨(),(),(),l,(),.inl (SqL.of hl1),(()),u0,l,_,(()),SqL.of hl1,hv,(),(()),g1-1000,rfl,(()),.inl ⟨by decide,by decide⟩,t,q,(),hqv.keep s1,λm u1 u0 H2 nm s2 hm l2=>?_⟩;refine⟨m,_,(()),SqL.of hm,rfl,?_⟩;refine⟨(),(),(()),(),(()),(by show (0:Int)<5;decide),(()),(zL 2),λl2 n2=>⟨(),(()),(by show (0:Int)<2;decide),l2,_,(()),SqL.of fk,hz,(()),qq _ _ (s1.trans (s2.trans (fm n2 _)))⟩⟩
theorem P7:Dx P w base ZZ.df 5 (Vu K):=by
 refine ZZ.df.dfs WX (by trivial) ?_;rintro _ _ _ _ s H _ Q E hr⟨l,qs,x,rfl,hq,q⟩;refine⟨_,(fh (fq (fg fV Y1 (fo (gg (K:=K)) (eD (zx ZZ) hr (A2 Y0 Y1)) eI)))),?_⟩;exact⟨(),(),(),l,qs,x,rfl,hq,λa b c t H' nt two s' ht=>⟨t,_,(()),SqT.of ht,rfl,(()),q a b c H' two s'⟩⟩
theorem QI:Dx P w base ZZ.dg 12 (Sd K):=by
 refine ZZ.dg.dfs XY (by trivial) ?_;rintro _ _ _ _ s H _ Q E hr⟨l,qs,rfl,hq,q⟩;refine⟨_,(fh (fq (mf ZZ.ab (PN ZZ) hr (A1 (kj [] [] (iV (K:=K) Y0) (λ_ _ _ _ _ _=>jV) (λ_ _ _ _ _ _=>(iH (A2 (Yu (QL ZZ) hr (A1 (fo (gg (K:=K)) Y0 eI))) (fo (gg (K:=K)) Y0 eI))))))))),?_⟩;obtain⟨us,hl,hp,hf,n1,n4⟩:=hq;have lps:=iF hp;refine⟨(),l,rfl,⟨_,SqL.of hl⟩,sg (λD j w Hx=>∃Ps:List gz,Paired (PutX (gK Hx D)) w Ps/\Paired PQ Ps (qs.take j)) (λD j w Hx l0 l1 hD nD h=>by rw[pV];exact h) (by rw[eJ];omega) (λD nD=>⟨[],.nil,.nil⟩) (SqL.of hl) ?sr ?dr⟩
 case sr=>
  rintro j v w D H6 E' F' hv ⟨Ps,hPs,hPq⟩ nD s6 hD hE hF;obtain⟨q1,hq1,t,xt,rfl,ht,tx,ok⟩:=kX hp hv;have ne:l≠D:=λe=>by rw[←e,hl] at nD;cases nD
  have hl6:=s6 _ _ hl;have ht6:=s6 _ _ ht;obtain⟨w0,w1,w2,w3,w4,m0,m1,m3,kd,kw,rfl,f0,f1,f3,d2,d4,hb,etm,hbit⟩:=tx;refine⟨(),t,_,(()),SqT.of ht6,rfl,l,D,us,w,hl6,hD,ne,?_⟩;refine⟨w0,w1,w2,w3,w4,m0,m1,m3,kd,kw,rfl,f0,f1,f3,d2,d4,hb,λx dx dv wv tm H7 htm s7 hx hdv hwv nL7 nD7=>?_⟩;subst htm;have sl:=VP hl6 hD ne s7;refine⟨(),t,_,(()),SqT.of (sl _ _ ht6),rfl,(zL 2),λT nT=>hE _ _ (sl.trans (fm nT _)) ?_⟩
  have hR:RowR ij aA H7 x m0 m1 m3 (gO false kd) (gO true kw):=⟨dx,dv,wv,hx,⟨f0.nn,f1.nn,f3.nn⟩,⟨hb.2,hb.1⟩,hdv,hwv⟩;have neT:T≠D:=λe=>by
   rw[e,sl _ _ hD] at nT;cases nT
  have sR:Same H7 (gK (upd (kx H7 l D us w) T (.tup [.ref x,.int q1.off])) D):=λb o hb=>by
   rw[ik (λe=>by rw[e,nD7] at hb;cases hb)];exact ((Pa (xs:=us) (ys:=w) nL7 nD7).trans (fm nT (.tup [.ref x,.int q1.off]))) b o hb
  obtain⟨pq,nv⟩:=Tg (m0:=m0) (m1:=m1) ok d2 d4 hbit (qS hdv) (qS hwv);have sn:∀{xs:List gz} {ys:List LQ},Paired PQ xs ys->Paired PQ (xs++[⟨m0,m1,m3,gO false kd,gO true kw,q1.tm,q1.off⟩]) (ys++[q1]):=λh=>by
   induction h with
   |nil=>exact .cons pq .nil
   |cons x r ih=>exact .cons x ih
  refine⟨Ps++[⟨m0,m1,m3,gO false kd,gO true kw,q1.tm,q1.off⟩],?_,by rw[cB,hq1];exact sn hPq⟩;have h1:PutX (gK (upd (kx H7 l D us w) T (.tup [.ref x,.int q1.off])) D) (.ref T) ⟨m0,m1,m3,gO false kd,gO true kw,q1.tm,q1.off⟩:=⟨T,x,rfl,(ik neT).trans fk,RowR.keepN (om sR) hR,etm,nv,ok.off⟩;have h2:Paired (PutX (gK (upd (kx H7 l D us w) T (.tup [.ref x,.int q1.off])) D)) w Ps:=Paired.mapP hPs λ_ _ z=>PutX.keep (pX (sl.trans (fm nT _))) z
  exact wL h1 h2
 case dr=>
  rintro D H6 w ⟨Ps,hPs,hPq⟩ nD s6 hD;rw[lps,bQ] at hPq;have hX:Paired (PutX H6) w Ps:=Paired.mapP hPs λ_ _ z=>PutX.keep nh z;refine λp dx np ndx nex=>?_;have np2:upd H6 dx (.own p) p=none:=(fG nex.symm).trans np;have sd:Same H6 (upd (upd H6 dx (.own p)) p (.ins aB dx [])):=(fm ndx _).trans (fm np2 _);have hpi:=fk (H:=upd H6 dx (.own p)) (a:=p) (o:=.ins aB dx []);generalize upd (upd H6 dx (.own p)) p (.ins aB dx [])=H7 at sd hpi ⊢
  have sE:Same H6 (gK H7 p):=λb o hb=>by
   rw[ik (λe=>by rw[e,np] at hb;cases hb)];exact sd b o hb
  have hY:Paired (PutY (gK H7 p) H7) w Ps:=Paired.mapP hX λ_ _ ⟨t,x,e,ht,hR,z⟩=>⟨t,x,e,sd _ _ ht,RowR.keepN (om sE) hR,z⟩;have lPs:=iF hPq;refine⟨p,dx,D,w,Ps,qs,rfl,hpi,sd _ _ hD,hY,hPq,⟨⋯,⋯⟩,uZ hp,hf,λT H8 hck hev kp=>?_⟩;have s68:Same H6 H8:=λb o hb=>kp b o (sd b o hb) (λe=>by rw[e,np] at hb;cases hb);exact⟨rfl,q p _ (s6.trans s68) ⟨T,hck,hev⟩⟩
theorem XE:Dx P w base ZZ.ej 6 (ZX K):=by
 refine ZZ.ej.dfs U5 (by trivial) ?_;rintro _ _ _ _ s H _ Q E hr⟨l,qs,x,rfl,hq,q⟩;refine⟨_,(fj (fu 2 (gM aN) U5.nd) (fj (iz (iV (K:=K) (gy EO ZZ.am PyProof.Rows.boot_sorted (A1 (hU M4 ZZ.d7 PyProof.Rows.boot_set (A1 (kj [] [] (iV (K:=K) Y0) (λ_ _ _ _ _ _=>jV) (λ_ _ _ _ _ _=>(fo (gg (K:=K)) Y0 eI)))))))) (gN 3 U5.nd) (fh (fR (fH gp (eD (P7 ZZ) hr (A2 Y0 (fg f9 Y1 Y3))) Y1) (fh (kr (lI Y2 (fg f9 Y1 Y3)))) fW)) PassesOwn.never) (fh (fq (gy Vp ZZ.am PyProof.Rows.boot_sorted (A1 Y2)))))),?_⟩
 extract_lets;obtain⟨us,hl,hp,hf,n1,n4⟩:=hq;have lu:=iF hp;refine⟨(zL 0),λF nF=>?_⟩;have sF:=fm nF (.lst []);refine⟨(),l,rfl,⟨_,SqL.of (sF _ _ hl)⟩,qN (λi w=>w=((qs.take i).map (·.off)).map V.int) (by rw[eJ];omega) rfl (SqL.of (sF _ _ hl)) ?st ?dn⟩
 case st=>
  rintro i v w D H4 E' F' hv rfl nD s5 hD hE hF;obtain⟨q1,hq1,t,xt,rfl,ht,tx,ok⟩:=kX hp hv;exact⟨(),t,_,(()),SqT.of (s5 _ _ (sF _ _ ht)),rfl,hE _ _ (Same.refl _) (by rw[cB,hq1,aY,aY];rfl)⟩
 case dn=>
  rintro D H4 w rfl nD s5 hD;rw[lu,bQ] at hD;refine⟨D,qs.map (·.off),rfl,SqL.of hD,(by rw[aQ];omega),λsq nsq=>⟨sq,(),fk,(by rw[aQ];omega),λS zs nS hpw hm=>?_⟩⟩;have s0:=s5.trans ((fm nsq _).trans (fm nS (.lst (zs.map V.int))));have hF4:=s5 _ _ (fk (H:=H) (a:=F) (o:=.lst []));have nS4:=kf (fm nsq _) nS;have neFS:F≠S:=λe=>by
   rw[←e,hF4] at nS4;cases nS4
  have lz:zs.length<=4:=bK (m8 (hpw.imp λh=>by omega) λt ht=>(hm t).mp ht) (by rw[aQ];exact n4);refine⟨S,rfl,⟨_,SqL.of fk⟩,j8 (K:=K) (a:=S) (xs:=zs.map V.int) (λi σ H5=>∃(v3:Option V) (os:List Int),σ=[some (.ref l),some (.int x),some (.ref F),v3]/\Same H H5/\H5 S=some (.lst (zs.map V.int))/\H5 F=some (.lst ((os.map λo=>x-o).map V.int))/\mC (λo=>Rd (EQ qs) x (x-o)) (zs.take i) os) ⟨_,[],rfl,sF.trans s0,fk,s0 _ _ fk,I0 _⟩ (λi σ H5 _ ⟨_,_,_,_,z,_⟩=>SqL.of z) ?tn ?dn2⟩
  case tn=>
   rintro i v σ H5 hv ⟨v3,os,rfl,s6,hS5,hF5,fl⟩;rw[aX] at hv;obtain⟨o,ho,rfl⟩:=cJ.mp hv;have tk:zs.take (i+1)=zs.take i++[o]:=by rw[cB,ho];rfl
   have los:os.length<=4:=bK fl.sub.length_le (by rw[cE];omega);refine⟨(),(),(),(()),l,qs,x-o,rfl,PuA.keep s6 ⟨us,hl,hp,hf,n1,n4⟩,λa b c H6 two s7=>⟨(),rfl,(),gn (λe=>?_) (λn=>?_)⟩⟩
   ·have hF6:=s7 _ _ hF5;refine⟨(),.inl ⟨rfl,_,SqL.of hF6⟩,(),(),(()),F,(()),hF6,(by rw[eJ,aQ,aQ];omega),?_⟩;exact⟨_,os++[o],rfl,kB nF (s6.trans s7),by rw[fG neFS.symm];exact s7 _ _ hS5,by rw[aY,aY];exact fk,by rw[tk];exact Nq fl ⟨a,b,c,two,e⟩⟩
   ·exact⟨_,os,rfl,s6.trans s7,s7 _ _ hS5,s7 _ _ hF5,by rw[tk];exact KI fl (Oh two n)⟩
  case dn2=>
   rintro σ H5 ⟨v3,os,rfl,s6,hS5,hF5,fl⟩;rw[aQ,bQ] at fl;have los:os.length<=4:=bK fl.sub.length_le lz;exact⟨(),F,os.map λo=>x-o,rfl,SqL.of hF5,(by rw[aQ];omega),λD2 rs nD2 pm pw=>q D2 rs _ (kf s6 nD2) (s6.trans (fm nD2 _)) fk (Rq hpw hm fl pm pw)⟩
theorem Yh:Dx P w base ZZ.dh 7 (QZ K):=by
 refine ZZ.dh.dfs Ud (by trivial) ?_;rintro f _ _ _ s H _ Q E hr⟨p,l,qs,x,rfl,hc,hq,q⟩;refine⟨_,(fj (fu 3 (eD (vt ZZ) hr (A2 Y0 Y2)) Ud.nd) (fj (fu 4 (eD (XE ZZ) hr (A2 Y1 Y2)) Ud.nd) (fj (fR (tW (jY (jE (ix (gy mS ZZ.aa PyProof.Rows.boot_isinstance (A2 Y3 (lc ZZ.bf PyProof.Rows.boot_list))))) (ka (fH (G6 hr.units) Y3 Y4)))) (fh (fq eB)) fW) (fj (iz (iV (K:=K) Y3) (gN 5 Ud.nd) (fh (fR (jE (ix (eD (Wr ZZ) hr (A1 Y5)))) (fh (fq eB)) fW)) PassesOwn.never) (fj (kr (lI Y3 eI)) (fh (fq (jA (uI hr.units) (eD (vt ZZ) hr (A2 Y0 Y2)) Y4)))))))),?_⟩
 extract_lets;obtain⟨T,hT,eT⟩:=hc;have ok:=OD eT (VF hq.choose_spec.2.2.1 (uZ hq.choose_spec.2.1));refine⟨(),(),p,x,rfl,.inl ⟨T,hT,ok,λf ls H1 nf s1 hf hr1=>?_⟩⟩;refine⟨(),(),l,qs,x,rfl,hq.keep s1,λd ms H2 nd s2 hd hr2=>?_⟩;obtain rfl:=FF eT hr1 hr2;have hf2:=s2 _ _ hf;have s12:=s1.trans s2;refine⟨(),_,.list,.list,rfl,by decide,.inl ⟨rfl,_,SqL.of hf2⟩,(),gf ⟨(),(),f,d,false,ls,ls,rfl,rfl,SqL.of hf2,SqL.of hd,?_⟩⟩
 rw[eS rfl];refine⟨(),gf ?_⟩;have l4:ls.length<=4:=by
  obtain⟨us,_,_,_,_,n4⟩:=hq;refine bK (m8 (ys:=(qs.map (·.off)).map λo=>x-o) (hr2.1.imp λh=>by omega) λt ht=>?_) (by rw[aQ,aQ];exact n4);obtain⟨o,ho,e⟩:=Mq ((hr2.2 t).mp ht);exact bG.mpr ⟨o,ho,e.symm⟩
 refine⟨(),f,rfl,⟨_,SqL.of hf2⟩,j8 (K:=K) (a:=f) (xs:=ls.map V.int) (λi σ H3=>∃v5:Option V,σ=[some (.ref p),some (.ref l),some (.int x),some (.ref f),some (.ref d),v5]/\H3=H2) ⟨(),rfl⟩ (λi σ H3 _ ⟨_,_,z⟩=>by rw[z];exact SqL.of hf2) ?tn ?dn⟩
 case tn=>
  rintro j u σ H3 hu ⟨v5,rfl,rfl⟩;rw[aX] at hu;obtain⟨z,hz,rfl⟩:=cJ.mp hu;exact⟨(),z,rfl,(),gf ⟨(),rfl⟩⟩
 case dn=>
  rintro σ H3 ⟨v5,rfl,rfl⟩;have nfd:d≠f:=λe=>by rw[e,hf] at nd;cases nd
  have sU:Same H (upd H3 f (.lst (ls.map V.int++[.int 0]))):=kB nf s12;have hdU:upd H3 f (.lst (ls.map V.int++[.int 0])) d=some (.lst (ls.map V.int)):=(fG nfd).trans hd;refine⟨(),.inl ⟨rfl,_,SqL.of hf2⟩,f,(()),hf2,(by rw[eJ,aQ];omega),?_⟩;refine⟨(),(),p,x,rfl,.inl ⟨T,hT.keep sU,ok,λf2 ls2 H4 nf2 s4 hf4 hr3=>⟨(),f2,d,false,ls2,ls,rfl,rfl,SqL.of hf4,SqL.of (s4 _ _ hdU),?_⟩⟩⟩;obtain rfl:=FF (λ_ _=>Iff.rfl) hr3 hr1
  rw[eS rfl];exact q _ (sU.trans s4)
theorem Qe{fL:Addr}{fdL:FuncData}(F:Fun K "law" "law" (top 141) fL fdL):gk P w K mg base jj 13 fL fdL ["_law_script"] (ro K):=by
 refine F.oks Uo (by trivial) ?_;rintro _ _ _ s H _ Q E hr⟨a,ns,rfl,hS,hlen,q⟩;refine⟨_,(fj (fu 1 (jA gp (fg gr (eD (qO ZZ) hr (A2 Y0 eI)) eI) eI) Uo.nd) (fj (fu 2 (eD (Xx ZZ) hr (A2 (kj ["_law_script"] [0] (mR ZZ.ae (A1 eI)) (λ_ _ _ _ _ _=>jV) (λ_ _ _ _ _ _=>(eD (qO ZZ) hr (A2 Y1 (fg fV eI Y0))))) Y1)) Uo.nd) (fj (fu 3 (eD (QI ZZ) hr (A1 Y2)) Uo.nd) (fj (fu 4 (fg f9 (fg gr (eD (qO ZZ) hr (A2 Y0 eI)) eI) eI) Uo.nd) (fj (iz (mR ZZ.ae (A1 eI)) (gN 5 Uo.nd) (fj (fu 6 (eD (Qc ZZ) hr (A3 (eD (qO ZZ) hr (A2 Y0 (fg fV eI Y5))) Y2 Y1)) Uo.nd) (fj (fu 7 (eD (zx ZZ) hr (A2 Y2 Y6)) Uo.nd) (fj (iz (iV (K:=K) (gM (A2 (fg fV Y6 (fo (gg (K:=K)) Y7 eI)) (fg fV Y6 (fo (gg (K:=K)) Y7 eI))))) (gN 8 Uo.nd) (fh (fR (jE (ix (eD (Yh ZZ) hr (A3 Y3 Y2 Y8)))) (fh (fq eB)) fW)) PassesOwn.never) (fh (fR (fH (G6 hr.units) (eD (vt ZZ) hr (A2 (mf ZZ.ai (QF ZZ).dfm hr (A1 Y4)) Y6)) (gM (A1 (fg f9 Y6 Y4)))) (fh (fq eB)) fW))))) PassesOwn.never) (fh (fq eB))))))),?_⟩
 extract_lets;refine⟨(),a,(),⟨ns,hS⟩,⟨by decide,by decide⟩,λc0=>⟨(()),(by show (0:Int)<2;decide),rfl,?_⟩⟩;obtain⟨bm,ebm⟩:∃bm,bm=decide (V.int (c0%2)=V.int 1):=⟨()⟩;show jT 1 (V.bl (decide (V.int (c0%2)=V.int 1))) _ _ _;rw[←ebm];have sq:∀{H':Hp},Same H H'->∃ns:List Int,SqL K H' a (ns.map V.int):=λs=>⟨ns,s.seq hS⟩;refine⟨(),by decide,by decide,qR (λi z=>∃cs:List Int,cs.length=i/\z=cs.map V.int) (zL 5) ⟨[],rfl,rfl⟩ ?st ?dn⟩
 case st=>
  rintro j z D H3 E' F' hj ⟨cs,hl,rfl⟩ hD s3 hz hE hF;have hj':j<5:=hj;exact⟨(),(),(()),a,(),sq s3,⟨⋯,⋯⟩,λc=>hE _ _ (Same.refl _) ⟨cs++[c],by rw[aV,hl];rfl,by rw[aY];rfl⟩⟩
 case dn=>
  rintro C H3 z ⟨cs,hcl,rfl⟩ hC s3 hz;refine⟨(),C,cs,bm,rfl,hz,hcl,λt qs H4 s4 nt hpu=>?_⟩;refine⟨(),t,qs,rfl,hpu,λp H5 s5 hck=>?_⟩;have sA:=s3.trans (s4.trans s5);have hpu:=hpu.keep s5;refine⟨(),a,(),sq sA,⟨by decide,by decide⟩,λc1=>⟨(()),(by show (0:Int)<1441;decide),(()),?_⟩⟩;refine⟨(),by decide,by decide,sx (λi σ H6=>∃v5 v6 v7 v8:Option V,σ=[some (.ref a),some (.bl bm),some (.ref t),some (.ref p),some (.int (c1%1441-720)),v5,v6,v7,v8]/\Same H5 H6) ⟨_,_,_,(),Same.refl _⟩ ?tn ?dn2⟩
  case dn2=>
   rintro σ H6 ⟨v5,v6,v7,v8,rfl,s6⟩;exact q _
  case tn=>
   rintro i σ H6 hi ⟨v5,v6,v7,v8,rfl,s6⟩;have hi5:i<5:=hi;refine⟨(),(),(()),a,(),sq (sA.trans s6),⟨⋯,⋯⟩,λc2=>⟨(),(),c2,t,qs,bm,rfl,hpu.keep s6,λx H7 s7=>?_⟩⟩;have s57:=s6.trans s7;refine⟨(),(),t,qs,x,rfl,hpu.keep s57,λa1 b1 c1' t1 H8 nt1 two s8 ht1=>?_⟩;have s58:=s57.trans s8;refine⟨(),(),t1,_,(()),SqT.of ht1,rfl,(()),(),(),t1,_,(()),SqT.of ht1,rfl,(()),(zL 2),λl3 n3=>?_⟩;have s59:=s58.trans (fm n3 (.lst (([x+b1,x+c1']:List Int).map V.int)))
   have hl3:upd H8 l3 (.lst [V.int (x+b1),V.int (x+c1')]) l3=some (.lst (([x+b1,x+c1']:List Int).map V.int)):=fk;refine⟨l3,rfl,⟨_,SqL.of hl3⟩,j8 (K:=K) (a:=l3) (xs:=([x+b1,x+c1']:List Int).map V.int) (λj σ H10=>∃v8:Option V,σ=[some (.ref a),some (.bl bm),some (.ref t),some (.ref p),some (.int (c1%1441-720)),some (.int (0+(i:Int))),some (.int x),some (.ref t1),v8]/\Same (upd H8 l3 (.lst [V.int (x+b1),V.int (x+c1')])) H10) ⟨(),Same.refl _⟩ (λj σ H10 _ ⟨_,_,z⟩=>SqL.of (z _ _ hl3)) ?tk ?dk⟩
   case tk=>
    rintro j v σ H10 hv ⟨v8,rfl,s10⟩;rw[aX] at hv;obtain⟨z,_,rfl⟩:=cJ.mp hv;have s510:=s59.trans s10;exact⟨(),(),(),p,t,qs,z,rfl,hck.keep s510,hpu.keep s510,λH11 s11=>⟨(),gf ⟨(),s10.trans s11⟩⟩⟩
   case dk=>
    rintro σ H10 ⟨v8,rfl,s10⟩;have s510:=s59.trans s10;refine⟨(),λp2 dx2 np2 ndx2 ne2=>⟨p2,dx2,(),fk,⟨⋯,⋯⟩,rfl,(),p2,x,rfl,.inr ⟨dx2,_,fk,λrl H12 nrl s12 hrl=>?_⟩⟩⟩;have s512:=s510.trans ((kB np2 ((fm ndx2 _).trans (fm ((fG ne2.symm).trans np2) _))).trans s12);refine⟨(),(),(()),(zL 1),λl4 n4=>⟨rl,l4,false,[x-(c1%1441-720)],[x-(c1%1441-720)],rfl,rfl,SqL.of (fm n4 _ _ _ hrl),SqL.of fk,?_⟩⟩;rw[eS rfl]
    exact⟨(),gf ⟨_,_,_,(),s512.trans (fm n4 _)⟩⟩
end
theorem all_mk{l:PySem.W.OpenLaw}{w:World}{K:FG}{h:Heap}{mg:Str->Option Value}{fa f:Addr}{aL aK a_MONTH_LASTS a_BOUNDS a_BOUNDS_0 a_BOUNDS_1 a_BOUNDS_3:Addr}{t_ROUND_DAYS t_ROUND_YEARS t_LONG_PLACE t_DAY_MINUTES t_HOUR_MINUTES t_FIGURES t_MOST_STRIDE t_MOST_SIGNS t_MOST_ITEMS t_SATURDAY t_SUNDAY t_MOST_BACK t_MOST_DAY t_SUNDAY_TOO t_MOST_NTH t_MOST_MARKS t_ALL_WEEKDAYS t_LONG_LAST t_SHORT_YEAR t_MINUTE t_HOUR t_DAY t_MONTH t_WEEKDAY t_MOST_ROW_SIGNS t_NO_PLACE t_KINDS t_LEAST_BETWEEN t_ROUND t_MOST_OFFSET t_MOST_PUTS:Tok}{oc kV dc pm cd ct:Value}{od an:Option Addr}{sl:Array (Option Value)}(X:K.In h)(G:h.Ns mainGlobals mg)(hfa:mg "law"=some (.ref fa))(ZZ:Fs K mg aL aK a_MONTH_LASTS a_BOUNDS a_BOUNDS_0 a_BOUNDS_1 a_BOUNDS_3 t_ROUND_DAYS t_ROUND_YEARS t_LONG_PLACE t_DAY_MINUTES t_HOUR_MINUTES t_FIGURES t_MOST_STRIDE t_MOST_SIGNS t_MOST_ITEMS t_SATURDAY t_SUNDAY t_MOST_BACK t_MOST_DAY t_SUNDAY_TOO t_MOST_NTH t_MOST_MARKS t_ALL_WEEKDAYS t_LONG_LAST t_SHORT_YEAR t_MINUTE t_HOUR t_DAY t_MONTH t_WEEKDAY t_MOST_ROW_SIGNS t_NO_PLACE t_KINDS t_LEAST_BETWEEN t_ROUND t_MOST_OFFSET t_MOST_PUTS)
  (a:PySem.W.nsIn K mainGlobals "law"=some (some (.ref f))) (lk:K.lookup f=some ⟨oc,od,.func (PySem.W.fnOf "law" "law" (jx (top 141)) (i5 (top 141)) (ft (top 141)) .none kV dc pm an cd ct),sl⟩) (c:PySem.W.codeIn K cd "law"=true) (k:PySem.W.keepIn K (.ref f)=true):
  ∃fd:FuncData,(∀(s:Shared) (v:Value),BindsTo s fd ⟨[v],[]⟩ [("_law_script",v)])/\∀base:Heap,K.In base->base.Ns mainGlobals mg->gk l.prog w K mg base jj 13 fa fd ["_law_script"] (ro K):=by
 cases hfa.symm.trans (PySem.W.mg_of X G a);exact⟨_,λs v=>.of_eq rfl,λbase _ _=>Qe ZZ (wM (st:=(top 141)) lk c k)⟩
theorem walk{l:PySem.W.OpenLaw}{q:Program}{loose:List Str}{XP:(Str->Option Value)->Heap->Prop}{YP:World->Heap->Prop}{d:DefRec}{K:Params->FG}(hn:l.most=some 63)(hdf:d.params.defaults=[])
  (hY:∀(w:World) (h:Heap),YP w h->(K w.params).In h)
  (F:∀(w:World) (mg:Str->Option Value) (fa:Addr) (h:Heap),(K w.params).In h->h.Ns mainGlobals mg->mg d.name=some (.ref fa)->
   ∃fd:FuncData,(∀(s:Shared) (u:Value),BindsTo s fd ⟨[u],[]⟩ [("_law_script",u)])/\∀base:Heap,(K w.params).In base->base.Ns mainGlobals mg->gk l.prog w (K w.params) mg base jj 13 fa fd ["_law_script"] (ro (K w.params))):
  PySem.W.WalkO q loose XP YP l.row.toRowW d [] (λf vs=>PySem.call f vs):=
 L2.walk_of (n:=63) (k:=13) (x:="_law_script") (CX:=λ_=>jj) (sp:=λw=>ro (K w.params)) hn (by decide) hdf ⟨rfl,by decide,by decide⟩ hY F (λ_ _ a ns hl _ hS=>⟨a,ns,rfl,hS,hl,λ_=>rfl⟩) λ_ _ _ _ _ z=>z
end K83
open PySem PySem.W PyProof.Rows L2
set_option maxRecDepth 100000 in
set_option maxHeartbeats 0 in
theorem PySem.Challenge.cw_fivefields_k83_readings_holds : PySem.Challenge.rw_fivefields_k83_readings.Holds := by
 w_on;refine holds_law Hd.ws fun said=>?_;refine Hd.lst said ?hw ?hc;(case hw=>w_witness2)
 k_fill
 refine K83.walk (l:=PySem.Challenge.rw_fivefields_k83_readings) rfl Hd.h4 (fun w h Y=>PySem.W.kIn_of Y) ?F
 case F=>
  intro w mg fa h KX G hmg
  rw[Hd.h5] at hmg
  refine' K83.all_mk KX G hmg ⟨
   ⟨PySem.W.mg_of KX G ?_,⟨?_,?_,?_,?_⟩,?_,?_⟩,?_,⟨PySem.W.mg_of KX G ?_,⟨?_,?_,?_,?_⟩,?_,?_⟩,?_,⟨PySem.W.mg_of KX G ?_,⟨?_,?_,?_,?_⟩,?_,?_⟩,?_,⟨PySem.W.mg_of KX G ?_,⟨?_,?_,?_,?_⟩,?_,?_⟩,?_,⟨PySem.W.mg_of KX G ?_,⟨?_,?_,?_,?_⟩,?_,?_⟩,?_,⟨PySem.W.mg_of KX G ?_,⟨?_,?_,?_,?_⟩,?_,?_⟩,?_,⟨PySem.W.mg_of KX G ?_,⟨?_,?_,?_,?_⟩,?_,?_⟩,?_,?_,⟨PySem.W.mg_of KX G ?_,⟨?_,?_,?_,?_⟩,?_,?_⟩,?_,⟨PySem.W.mg_of KX G ?_,⟨?_,?_,?_,?_⟩,?_,?_⟩,?_,?_,?_,?_,?_,?_,⟨PySem.W.mg_of KX G ?_,⟨?_,?_,?_,?_⟩,?_,?_⟩,?_,⟨PySem.W.mg_of KX G ?_,⟨?_,?_,?_,?_⟩,?_,?_⟩,?_,?_,PySem.W.mg_of KX G ?_,PySem.W.mg_of KX G ?_,⟨?_,?_,?_,?_⟩,?rkr_Row,PySem.W.mg_of KX G ?_,K83.q_MONTH_LASTS ?_,PySem.W.mg_of KX G ?_,PySem.W.mg_of KX G ?_,PySem.W.mg_of KX G ?_,PySem.W.mg_of KX G ?_,PySem.W.mg_of KX G ?_,K83.mg_tx (x:="0123456789") KX G (by decide +kernel) ?_,PySem.W.mg_of KX G ?_,PySem.W.mg_of KX G ?_,PySem.W.mg_of KX G ?_,PySem.W.mg_of KX G ?_,PySem.W.mg_of KX G ?_,PySem.W.mg_of KX G ?_,PySem.W.mg_of KX G ?_,PySem.W.mg_of KX G ?_,PySem.W.mg_of KX G ?_,PySem.W.mg_of KX G ?_,PySem.W.mg_of KX G ?_,PySem.W.mg_of KX G ?_,PySem.W.mg_of KX G ?_,PySem.W.mg_of KX G ?_,PySem.W.mg_of KX G ?_,PySem.W.mg_of KX G ?_,PySem.W.mg_of KX G ?_,PySem.W.mg_of KX G ?_,PySem.W.mg_of KX G ?_,K83.q_BOUNDS ?_,K83.q_BOUNDS_0 ?_,K83.q_BOUNDS_1 ?_,K83.q_BOUNDS_3 ?_,PySem.W.mg_of KX G ?_,PySem.W.mg_of KX G ?_,PySem.W.mg_of KX G ?_,PySem.W.mg_of KX G ?_,PySem.W.mg_of KX G ?_,PySem.W.mg_of KX G ?_,PySem.W.mg_of KX G ?_,PySem.W.mg_none_of KX G ?_,PySem.W.mg_none_of KX G ?_,PySem.W.mg_none_of KX G ?_,PySem.W.mg_none_of KX G ?_,PySem.W.mg_none_of KX G ?_,PySem.W.mg_none_of KX G ?_,PySem.W.mg_none_of KX G ?_,PySem.W.mg_none_of KX G ?_,PySem.W.mg_none_of KX G ?_,PySem.W.mg_none_of KX G ?_,PySem.W.mg_none_of KX G ?_,PySem.W.mg_none_of KX G ?_,PySem.W.mg_none_of KX G ?_,PySem.W.mg_none_of KX G ?_,PySem.W.mg_none_of KX G ?_,fN KX G ?_ ?_ ?_ ?_ ?_,fN KX G ?_ ?_ ?_ ?_ ?_,fN KX G ?_ ?_ ?_ ?_ ?_,fN KX G ?_ ?_ ?_ ?_ ?_,fN KX G ?_ ?_ ?_ ?_ ?_,fN KX G ?_ ?_ ?_ ?_ ?_,fN KX G ?_ ?_ ?_ ?_ ?_,fN KX G ?_ ?_ ?_ ?_ ?_,fN KX G ?_ ?_ ?_ ?_ ?_,fN KX G ?_ ?_ ?_ ?_ ?_,fN KX G ?_ ?_ ?_ ?_ ?_,fN KX G ?_ ?_ ?_ ?_ ?_,fN KX G ?_ ?_ ?_ ?_ ?_,fN KX G ?_ ?_ ?_ ?_ ?_,fN KX G ?_ ?_ ?_ ?_ ?_,fN KX G ?_ ?_ ?_ ?_ ?_,fN KX G ?_ ?_ ?_ ?_ ?_,fN KX G ?_ ?_ ?_ ?_ ?_,fN KX G ?_ ?_ ?_ ?_ ?_,fN KX G ?_ ?_ ?_ ?_ ?_,fN KX G ?_ ?_ ?_ ?_ ?_,fN KX G ?_ ?_ ?_ ?_ ?_,fN KX G ?_ ?_ ?_ ?_ ?_,fN KX G ?_ ?_ ?_ ?_ ?_,fN KX G ?_ ?_ ?_ ?_ ?_,fN KX G ?_ ?_ ?_ ?_ ?_,fN KX G ?_ ?_ ?_ ?_ ?_,fN KX G ?_ ?_ ?_ ?_ ?_,ii ?_ ?_ ?_ ?_ ?_ ?_,ii ?_ ?_ ?_ ?_ ?_ ?_,ii ?_ ?_ ?_ ?_ ?_ ?_,K83.md_Last___init__ ?_ ?_ ?_ ?_ ?_ ?_,ii ?_ ?_ ?_ ?_ ?_ ?_,ii ?_ ?_ ?_ ?_ ?_ ?_,ii ?_ ?_ ?_ ?_ ?_ ?_,ii ?_ ?_ ?_ ?_ ?_ ?_,ii ?_ ?_ ?_ ?_ ?_ ?_,ii ?_ ?_ ?_ ?_ ?_ ?_,ii ?_ ?_ ?_ ?_ ?_ ?_,ii ?_ ?_ ?_ ?_ ?_ ?_,ii ?_ ?_ ?_ ?_ ?_ ?_,ii ?_ ?_ ?_ ?_ ?_ ?_,fN KX G ?_ ?_ ?_ ?_ ?_,fN KX G ?_ ?_ ?_ ?_ ?_,fN KX G ?_ ?_ ?_ ?_ ?_,fN KX G ?_ ?_ ?_ ?_ ?_,fN KX G ?_ ?_ ?_ ?_ ?_,fN KX G ?_ ?_ ?_ ?_ ?_,
   fN KX G ?_ ?_ ?_ ?_ ?_,fN KX G ?_ ?_ ?_ ?_ ?_,fN KX G ?_ ?_ ?_ ?_ ?_,fN KX G ?_ ?_ ?_ ?_ ?_,ii ?_ ?_ ?_ ?_ ?_ ?_,ii ?_ ?_ ?_ ?_ ?_ ?_,fN KX G ?_ ?_ ?_ ?_ ?_,fN KX G ?_ ?_ ?_ ?_ ?_,fN KX G ?_ ?_ ?_ ?_ ?_,ii ?_ ?_ ?_ ?_ ?_ ?_,fN KX G ?_ ?_ ?_ ?_ ?_,fN KX G ?_ ?_ ?_ ?_ ?_,fN KX G ?_ ?_ ?_ ?_ ?_,fN KX G ?_ ?_ ?_ ?_ ?_,fN KX G ?_ ?_ ?_ ?_ ?_,fN KX G ?_ ?_ ?_ ?_ ?_,fN KX G ?_ ?_ ?_ ?_ ?_,fN KX G ?_ ?_ ?_ ?_ ?_,fN KX G ?_ ?_ ?_ ?_ ?_,fN KX G ?_ ?_ ?_ ?_ ?_,fN KX G ?_ ?_ ?_ ?_ ?_,fN KX G ?_ ?_ ?_ ?_ ?_,fN KX G ?_ ?_ ?_ ?_ ?_,fN KX G ?_ ?_ ?_ ?_ ?_,K83.md_Clock___init__ ?_ ?_ ?_ ?_ ?_ ?_,ii ?_ ?_ ?_ ?_ ?_ ?_,ii ?_ ?_ ?_ ?_ ?_ ?_,ii ?_ ?_ ?_ ?_ ?_ ?_,ii ?_ ?_ ?_ ?_ ?_ ?_,ii ?_ ?_ ?_ ?_ ?_ ?_,ii ?_ ?_ ?_ ?_ ?_ ?_,ii ?_ ?_ ?_ ?_ ?_ ?_,fN KX G ?_ ?_ ?_ ?_ ?_,fN KX G ?_ ?_ ?_ ?_ ?_,fN KX G ?_ ?_ ?_ ?_ ?_,fN KX G ?_ ?_ ?_ ?_ ?_,fN KX G ?_ ?_ ?_ ?_ ?_,fN KX G ?_ ?_ ?_ ?_ ?_,fN KX G ?_ ?_ ?_ ?_ ?_,fN KX G ?_ ?_ ?_ ?_ ?_,fN KX G ?_ ?_ ?_ ?_ ?_,fN KX G ?_ ?_ ?_ ?_ ?_,fN KX G ?_ ?_ ?_ ?_ ?_,fN KX G ?_ ?_ ?_ ?_ ?_,fN KX G ?_ ?_ ?_ ?_ ?_,fN KX G ?_ ?_ ?_ ?_ ?_,fN KX G ?_ ?_ ?_ ?_ ?_,fN KX G ?_ ?_ ?_ ?_ ?_,fN KX G ?_ ?_ ?_ ?_ ?_⟩ ?_ ?_ ?_ ?_
  (case rkr_Row=>kernel_rfl)
  all_goals try (intro _ _ _ _ _ _ us hl;first | (obtain⟨rfl⟩:=xr hl;rfl) | (obtain⟨_,rfl⟩:=Gh hl;rfl) | (obtain⟨_,_,rfl⟩:=LO hl;rfl) | (obtain⟨_,_,_,rfl⟩:=LR hl;rfl) | (obtain⟨_,_,_,_,rfl⟩:=vv hl;rfl))
  all_goals try (as_aux_lemma=>k_is)
