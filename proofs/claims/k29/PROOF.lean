import PyProof.Rows.All
import Wide.All
import OpenK.AllK
import Wide.FinOn
import HandS.ForMost
import HandS.IsInst
import HandS.Wide
import HandS.Walk
import HandS.Flow
import HandS.AnyAll
import HandS.EndTab
import HandS.Deep
import HandS.Style
import HandS.Conv
import HandS.DictTup
import HandS.SortInts
import KE.DataCmp
import KE.SortData
import KE.BitLaws
import KE.DataFind
import PyProof.ReprRoads
import PyProof.Rows.ReprOcc
import HandS.FStr
import HandS.StrMore
import HandS.Exc
import HandS.ExcInit
import HandS.ExcIs
import HandS.ExcField
import HandS.WordsExc
import HandS.ExcValue
import HandS.SetFor
import HandS.RevRange
import HandS.GenList
import HandS.DictComp
import PyProof.SumAny
import HandS.Star
import HandS.WideBits
import KE.KeyNested
import KE.KDictKeyed
import HandS.Strs
import HandS.CallLocal
import HandS.More
import HandS.RaiseFrom
import HandS.SuiteRaise
import HandS.TryOnly
import HandS.Small
import HandS.ExcInitHot
import KE.GoesRaise
import KE.KExcIs
import PySem.Challenge.RW_packwants_k29_functions_refuse_shops
set_option Elab.async false
set_option linter.all false
set_option maxRecDepth 100000
set_option maxHeartbeats 4000000
namespace Pk
open PySem PySem.Spec PyProof.Rows L2
def topS (i : Nat) : Stmt := PySem.Challenge.pw_packwants_k29_functions_refuse_shops.main.body.getD i (.Pass ⟨0, 0, 0, 0⟩)
/-! ### heaps and plain data -/
theorem same_upd {H : Hp} {p : Addr} {o : HO} (h : H p = none) : Same H (upd H p o) := fun b x e => by
  rw [upd_ne (ne_of_none e h)]
  exact e
/-- all but a is as it was -/
def SameBut (a : Addr) (H H' : Hp) : Prop := ∀ b o, b ≠ a → H b = some o → H' b = some o
theorem SameBut.of {a : Addr} {H H' : Hp} (h : Same H H') : SameBut a H H' := fun b o _ e => h b o e
theorem SameBut.refl (a : Addr) (H : Hp) : SameBut a H H := fun _ _ _ e => e
theorem SameBut.trans {a : Addr} {H H1 H2 : Hp} (h : SameBut a H H1) (k : SameBut a H1 H2) : SameBut a H H2 := fun b o n e => k b o n (h b o n e)
theorem SameBut.upd {a : Addr} {H : Hp} {o : HO} : SameBut a H (upd H a o) := fun b x n e => by
  rw [upd_ne n]
  exact e
theorem SameBut.new {a p : Addr} {H H' : Hp} {o : HO} (h : SameBut a H H') (hp : H p = none) : SameBut a H (L2.upd H' p o) := fun b x n e => by
  rw [upd_ne (ne_of_none e hp)]
  exact h b x n e
/-- what was not there at the start may change -/
theorem sm_new {p : Addr} {H H' : Hp} {o : HO} (h : Same H H') (hp : H p = none) : Same H (L2.upd H' p o) := fun b x e => by
  rw [upd_ne (ne_of_none e hp)]
  exact h b x e
theorem SameBut.free {a p : Addr} {H H' : Hp} (h : SameBut a H H') (n : H' p = none) (ha : H' a ≠ none) : H p = none := by
  cases q : H p with
  | none => rfl
  | some o =>
    by_cases e : p = a
    · subst e
      exact absurd n ha
    · rw [h p o e q] at n
      cases n
/-- a list of ints -/
abbrev LI (ns : List Int) : HO := .lst (ns.map V.int)
theorem dpAll_ints {K : PySem.W.Frag} {H : Hp} : ∀ ns : List Int, DpAll K H (ns.map V.int) (ns.map PyData.int)
  | [] => .nil
  | n :: r => .cons (.int n) (dpAll_ints r)
theorem dp_ints {K : PySem.W.Frag} {H : Hp} {a : Addr} {ns : List Int} (h : SqL K H a (ns.map V.int)) : Dp K H (.ref a) (.list (ns.map PyData.int)) := .lst h (dpAll_ints ns)
theorem lay_ints : ∀ ns : List Int, PyData.canLayAll0 (ns.map PyData.int) = true
  | [] => by simp [PyData.canLayAll0]
  | n :: r => by
    have ih := lay_ints r
    simp [PyData.canLayAll0, PyData.canLay0, ih]
theorem depth_ints : ∀ ns : List Int, PyData.depthAll (ns.map PyData.int) = 0
  | [] => by simp [PyData.depthAll]
  | n :: r => by
    have ih := depth_ints r
    simp [PyData.depthAll, PyData.depth, ih]
theorem shaped_ints (ns : List Int) : SeqAt.shaped (.list (ns.map PyData.int)) = true := by
  unfold SeqAt.shaped
  have h1 : PyData.canLay0 (.list (ns.map PyData.int)) = true := by
    simp only [PyData.canLay0]
    exact lay_ints ns
  have h2 : PyData.depth (.list (ns.map PyData.int)) ≤ 64 := by
    simp only [PyData.depth]
    rw [depth_ints]
    omega
  rw [h1, decide_eq_true h2]
  rfl
theorem eqvAll_ints : ∀ ns ms : List Int, PyData.eqvAll (ns.map PyData.int) (ms.map PyData.int) = decide (ns = ms)
  | [], [] => by simp [PyData.eqvAll]
  | [], _ :: _ => by simp [PyData.eqvAll]
  | _ :: _, [] => by simp [PyData.eqvAll]
  | n :: r, m :: q => by
    have ih := eqvAll_ints r q
    simp only [List.map_cons, PyData.eqvAll, PyData.eqv, ih]
    by_cases h1 : n = m <;> by_cases h2 : r = q <;> simp [h1, h2]
theorem eqv_ints (ns ms : List Int) : PyData.eqv (.list (ns.map PyData.int)) (.list (ms.map PyData.int)) = decide (ns = ms) := by
  simp only [PyData.eqv]
  exact eqvAll_ints ns ms
theorem li_app (ls : List Int) (n : Int) : HO.lst (ls.map V.int ++ [.int n]) = LI (ls ++ [n]) := by
  show _ = HO.lst ((ls ++ [n]).map V.int)
  rw [List.map_append]
  rfl
theorem li_set (ls : List Int) (j : Nat) (n : Int) : HO.lst ((ls.map V.int).set j (.int n)) = LI (ls.set j n) := by
  show _ = HO.lst ((ls.set j n).map V.int)
  rw [List.map_set]
theorem at_app {H : Hp} {a : Addr} {ls : List Int} {n : Int} : upd H a (.lst (ls.map V.int ++ [.int n])) a = some (LI (ls ++ [n])) := by rw [upd_same, li_app]
theorem at_set {H : Hp} {a : Addr} {ls : List Int} {j : Nat} {n : Int} : upd H a (.lst ((ls.map V.int).set j (.int n))) a = some (LI (ls.set j n)) := by rw [upd_same, li_set]
theorem szL {n : Nat} (h : n ≤ 100000) : n ≤ sizeLine := Nat.le_trans h (by decide)
theorem szL' {n : Nat} (h : n ≤ 100000) : n < sizeLine := Nat.lt_of_le_of_lt h (by decide)
theorem get_ints {ns : List Int} {i : Nat} {n : Int} (h : ns[i]? = some n) : (ns.map V.int)[i]? = some (.int n) := by
  rw [List.getElem?_map, h]
  rfl
theorem getD_ints {ns : List Int} {i : Nat} (h : i < ns.length) : (ns.map V.int)[i]? = some (.int ns[i]) := get_ints (List.getElem?_eq_getElem h)
theorem of_get_ints {ns : List Int} {i : Nat} {v : V} (h : (ns.map V.int)[i]? = some v) : ∃ n, ns[i]? = some n ∧ v = .int n := by
  rw [List.getElem?_map] at h
  cases e : ns[i]? with
  | none => rw [e] at h; cases h
  | some n => rw [e] at h; exact ⟨n, rfl, (Option.some.inj h).symm⟩
/-- i % n as a place -/
theorem mod_at {i : Int} {n : Nat} (h : 0 < n) : ∃ j : Nat, j < n ∧ i % (n : Int) = (j : Int) := by
  have h1 : 0 ≤ i % (n : Int) := Int.emod_nonneg i (by omega)
  have h2 : i % (n : Int) < (n : Int) := Int.emod_lt_of_pos i (by omega)
  exact ⟨(i % (n : Int)).toNat, by omega, by omega⟩
theorem ixN_nat {n j : Nat} (h : j < n) : ixN n (j : Int) = some j := by
  unfold ixN
  rw [if_pos (by omega), if_pos (by omega), Int.toNat_natCast]
theorem take_succ_at {α : Type} {l : List α} {i : Nat} {x : α} (h : l[i]? = some x) : l.take (i + 1) = l.take i ++ [x] := by
  rw [List.take_add_one, h]
  rfl
/-- a def of the top: where it stands -/
structure Def (K : PySem.W.Frag) (mg : Str → Option Value) (x : Str) (st : Stmt) (ps : List Str) (f : Addr) (fd : FuncData) : Prop where
  F : Fun K x x st f fd
  g : mg x = some (.ref f)
  b : Binds K fd ps []
/-! ### rules at a written K (for a comprehension's block) -/
section
variable {X : Cx} {K : PySem.W.Frag}
theorem ix_listK (h : X.K = K) : IxR X (rIxL K) := by subst h; exact ix_list
theorem ix_tupK (h : X.K = K) : IxR X (rIxT K) := by subst h; exact ix_tup
theorem call_len_seqK (h : X.K = K) : CallR X (.builtin "len") (fun xs H Q => ∃ p ys, xs = [.ref p] ∧ (SqL K H p ys ∨ SqT K H p ys) ∧ Q (.int ys.length) H) := by subst h; exact call_len_seq
theorem op_eqDK (h : X.K = K) (hu : X.A.units + 64 < cLine) : OpR X (compareOp .Eq) (rEqD K) := by subst h; exact op_eqD hu
theorem op_neDK (h : X.K = K) (hu : X.A.units + 64 < cLine) : OpR X (compareOp .NotEq) (rNeD K) := by subst h; exact op_neD hu
theorem cr_maxK (h : X.K = K) (hc : X.calm = true) : CallR X (.builtin "max") (rMax K) := by subst h; exact cr_max hc
theorem cr_sumK (h : X.K = K) (hc : X.calm = true) : CallR X (.builtin "sum") (rSum K) := by subst h; exact cr_sum hc
theorem call_list_ofK (h : X.K = K) : CallR X (.type "list") (fun xs H Q => ∃ p ys, xs = [.ref p] ∧ (SqL K H p ys ∨ SqT K H p ys) ∧ ∀ l, H l = none → Q (.ref l) (upd H l (.lst ys))) := by subst h; exact call_list_of
theorem pi_listK {tg l : Expr} {tl : TE} (h : X.K = K) (hl : PE X l tl) : PI X tg l (iList K tl) := by subst h; exact pi_list hl
theorem pi_tupK {tg l : Expr} {tl : TE} (h : X.K = K) (hl : PE X l tl) : PI X tg l (iTup K tl) := by subst h; exact pi_tup hl
theorem pg_tupK {es : List Expr} {k : Nat} {t : TGs} {n : Nat} {pos : Pos} (hK : X.K = K) (hc : X.calm = true) (h : PGs X es t)
    (hn : (assignEach es X.env).length = n := by rfl) (hst : (assignEach es X.env).findIdx? (·.1) = none := by rfl) : PG X (.Tuple es k pos) (gTup K n t) := by subst hK; exact pg_tup hc h hn hst
end
/-! ### a statement whose ends are joined by what holds behind it -/
def tCutI (t u : TS) : TS := fun D σ H => ∃ I : L2.St → Hp → Prop, t { D with nx := I } σ H ∧ ∀ σ' H', I σ' H' → u D σ' H'
theorem pss_cutI {X : Cx} {st : Stmt} {rest : List Stmt} {t u : TS} (h1 : PS X st t) (h2 : PSs X rest u) : PSs X (st :: rest) (tCutI t u) := by
  refine ⟨fun pins s σ H D I h => ?_⟩
  obtain ⟨J, h, hJ⟩ := h
  refine wpAny_execs_cons (thn (h1.run pins s σ H { D with nx := J } I h) fun f s1 q => ?_)
  cases f with
  | next =>
    obtain ⟨σ', H', I', q⟩ := q
    exact h2.run pins s1 σ' H' D I' (hJ σ' H' q)
  | ret v => exact q
  | brk => exact q
  | cont => exact q
/-- data: lists of lists of ints -/
abbrev dRows (rs : List (List Int)) : PyData := .list (rs.map fun r => .list (r.map PyData.int))
theorem lay_rows : ∀ rs : List (List Int), PyData.canLayAll0 (rs.map fun r => .list (r.map PyData.int)) = true
  | [] => by simp [PyData.canLayAll0]
  | r :: q => by
    have ih := lay_rows q
    have h1 := lay_ints r
    simp [PyData.canLayAll0, PyData.canLay0, ih, h1]
theorem depth_rows : ∀ rs : List (List Int), PyData.depthAll (rs.map fun r => .list (r.map PyData.int)) ≤ 1
  | [] => by simp [PyData.depthAll]
  | r :: q => by
    have ih := depth_rows q
    have h1 := depth_ints r
    simp only [List.map_cons, PyData.depthAll, PyData.depth]
    omega
theorem shaped_rows (rs : List (List Int)) : SeqAt.shaped (dRows rs) = true := by
  unfold SeqAt.shaped
  have h1 : PyData.canLay0 (dRows rs) = true := by
    simp only [PyData.canLay0]
    exact lay_rows rs
  have h2 : PyData.depth (dRows rs) ≤ 64 := by
    have := depth_rows rs
    simp only [PyData.depth]
    omega
  rw [h1, decide_eq_true h2]
  rfl
theorem eqv_self {d : PyData} (h : SeqAt.shaped d = true) : PyData.eqv d d = true := SeqAt.eqv_refl d (SeqAt.canLay_of_shaped h)
/-- the built-in names that the top leaves alone, and its constants -/
structure Names (mg : Str → Option Value) : Prop where
  len : mg "len" = none
  range : mg "range" = none
  max : mg "max" = none
  list : mg "list" = none
  isinstance : mg "isinstance" = none
  int : mg "int" = none
  bool : mg "bool" = none
  enumerate : mg "enumerate" = none
  all : mg "all" = none
  zip : mg "zip" = none
  reversed : mg "reversed" = none
  sum : mg "sum" = none
  sorted : mg "sorted" = none
  tuple : mg "tuple" = none
  any : mg "any" = none
  min : mg "min" = none
  str : mg "str" = none
  abs : mg "abs" = none
  c_MOST_TIERS : ∃ t, mg "MOST_TIERS" = some (.int 4 t)
  c_MOST_PIECES : ∃ t, mg "MOST_PIECES" = some (.int 12 t)
/-! ### generator expressions whose element is quiet: the def's code table may grow, all else stands -/
/-- what is no bare record is not the table -/
theorem tab_ne {X : Cx} {pins : List (Addr × Obj)} {σ : L2.St} {H1 : Hp} {s1 : Shared} {P : Addr} (I : Inv X pins σ H1 s1) (h : GxR.TabG H1 P) {b : Addr} {o : Obj} (e : s1.heap.get? b = some o) (c : o.cls ≠ .none ∨ ∀ vs, o.data ≠ .fields vs) : b ≠ P := by
  rintro rfl
  obtain ⟨ps, isTab, _⟩ := h
  have q : s1.heap.get? b = some { cls := .none, data := .fields ps } := I.hok b _ isTab
  cases q.symm.trans e
  exact c.elim (fun z => z rfl) (fun z => z _ rfl)
/-- from h2 to h3 the table at P has grown by some entries, and all else stands -/
structure Longer (P : Addr) (h2 h3 : Heap) (ps more : Array Value) : Prop where
  rest : Heap.ExtBut P h2 h3
  size : h2.objs.size ≤ h3.objs.size
  table : h3.get? P = some { cls := .none, data := .fields (ps ++ more) }
  good : TriplesOk (ps ++ more).toList
/-- the expression's own scope: the walked thing at «.0», its names, and captured ones that are cells of the def; for two names -/
structure GenS2 (sc scope : Scope) (xa xb : Str) : Prop where
  kind : scope.kind = .function
  co : scope.isCoroutine = false
  cell : ∀ y ∈ scope.names, y.2 ≠ .cell
  dot : scope.names.lookup (".0" : Str) = some NameKind.local
  la : scope.names.lookup xa = some .local
  lb : scope.names.lookup xb = some .local
  ne : xa ≠ xb
  free : ∀ y ∈ scope.names, y.2 = .free → sc.names.lookup y.1 = some .cell
/-- for one -/
structure GenS1 (sc scope : Scope) (x : Str) : Prop where
  kind : scope.kind = .function
  co : scope.isCoroutine = false
  cell : ∀ y ∈ scope.names, y.2 ≠ .cell
  dot : scope.names.lookup (".0" : Str) = some NameKind.local
  la : scope.names.lookup x = some .local
  free : ∀ y ∈ scope.names, y.2 = .free → sc.names.lookup y.1 = some .cell
/-- what is said of the thing that is walked: it was made in s1, and stands in t -/
structure Walkee (X : Cx) (pins : List (Addr × Obj)) (σ : L2.St) (H1 : Hp) (P : Addr) (fp wr : List Addr) (s1 t : Shared) : Prop where
  inv : Inv X pins σ H1 s1
  tab : GxR.TabG H1 P
  same : ∃ h n, t = { s1 with heap := h, toks := n }
  keep : ∀ b o, s1.heap.get? b = some o → t.heap.get? b = some o
  size : s1.heap.objs.size ≤ t.heap.objs.size
  low : ∀ b ∈ fp, b < t.heap.objs.size ∧ b ≠ P
  new : ∀ b ∈ wr, s1.heap.objs.size ≤ b
/-- the generator g, ready to be walked, in the state s5; F: what each turn hands out -/
def Walked (X : Cx) (pins : List (Addr × Obj)) (σ : L2.St) (H1 : Hp) (P : Addr) (n : Nat) (F : Nat → Value → Prop) (g : Addr) (s5 : Shared) : Prop :=
  ∃ (fp wr : List Addr) (G : Array GenState → Array GenState → Prop) (F' : Nat → Value → Prop) (St : Nat → Shared → Prop),
    WalksS X.prog X.w X.A.in1 g fp wr G n F' St ∧ St 0 s5 ∧ (∀ b ∈ fp, b < s5.heap.objs.size) ∧ (∀ i v, F' i v → F i v) ∧ ∀ s', Moved wr G s5 s' → ∃ H2, GxR.Tabbed P H1 H2 ∧ Inv X pins σ H2 s'
/-- what the element may lean on: the frame cenv, the depth, and a heap in which all that stood in s1 stands but for the table -/
structure Turned (X : Cx) (P : Addr) (sc : Scope) (s1 : Shared) (cenv : Env) (A' : Around) (u : Shared) : Prop where
  own : cenv.scope = sc
  cells : cenv.cells = cloFrom X.env.cells sc.names []
  glob : cenv.globals = mainGlobals
  blt : cenv.builtins = builtinsNs
  calm : A'.handled = none
  deep : A'.depth ≤ X.A.depth + 1
  units : A'.units ≤ X.A.units + 8
  still : ∀ b o, b ≠ P → s1.heap.get? b = some o → u.heap.get? b = some o
section
variable {X : Cx} {pins : List (Addr × Obj)} {σ : L2.St} {H1 : Hp} {s1 t : Shared} {c P : Addr} {fp wr : List Addr} {h2 h3 : Heap} {ps more : Array Value}
/-- the code of the expression is looked up, or laid: then the table is longer -/
theorem tab_opens {gpos : Pos} {q : Str} {scope : Scope} {t2 : Nat} {R : Value → Addr → Shared → Prop} (TB : GxR.TabB X.base X.mg c P) (code : X.env.code = .ref c) (I : Inv X pins σ H1 s1) (isTab : H1 P = some (.tbl ps)) (good : TriplesOk ps.toList)
    (keep : ∀ b o, s1.heap.get? b = some o → h2.get? b = some o) (h : ∀ cv h3 n more, Longer P h2 h3 ps more → R cv builtinsNs { s1 with heap := h3, toks := n }) :
    wpAny (model X.prog X.w) X.A (genexprCode X.env gpos q scope) (fun cv t => wpAny (model X.prog X.w) X.A (builtinsFor X.env.globals X.env.builtins) (fun bi u => R cv bi u) X.xe t) X.xe { s1 with heap := h2, toks := t2 } := by
  have table : h2.get? P = some { cls := .none, data := .fields ps } := keep P _ (I.hok P _ isTab)
  have head : PySem.W.CodeHd h2 c P := TB.code.keeps fun b o e => keep b o (I.bk b o e)
  have go : ∀ cv h3 n more, Longer P h2 h3 ps more → wpAny (model X.prog X.w) X.A (builtinsFor X.env.globals X.env.builtins) (fun bi u => R cv bi u) X.xe { s1 with heap := h3, toks := n } := by
    intro cv h3 n more L
    obtain ⟨at_, ob, given, away, _, notTab, inBase, cls, dict, plain⟩ := TB.bm
    have globals : h3.Ns X.env.globals X.mg := I.ok.glob ▸ ((I.mod.glob.keeps I.bk).keeps keep).extBut L.rest TB.gP
    exact wpAny_builtinsFor globals given away (L.rest _ _ notTab (keep _ _ (I.bk _ _ inBase))) cls dict plain (h cv h3 n more L)
  cases found : codeAmong gpos ps.toList
  · refine wpAny_genexprCodeX code (head.code table good) (head.tab table) found fun c' h' n rest below above isCode _ isTable _ => go _ h' n _ ⟨rest, Nat.le_trans below (Nat.le_of_lt above), isTable.2, ?_⟩
    obtain ⟨_, _, _, _, _, _, _, _, _, _, _, _, _, _, _, _, _, _, _, triples, _⟩ := isCode
    exact triples
  · refine wpAny_genexprCode_hit code (head.code table good) found (go _ h2 t2 #[] ⟨Heap.ExtBut.refl _ _, Nat.le_refl _, ?_, ?_⟩)
    · rw [Array.append_empty]
      exact table
    · rw [Array.append_empty]
      exact good
/-- when it has been walked: what was held is held, but for the longer table -/
theorem tab_closes {h5 : Heap} {n : Nat} {gs : GenState} {j : Nat} {wr' : List Addr} {s' : Shared} (I : Inv X pins σ H1 s1) (isTab : H1 P = some (.tbl ps)) (keep : ∀ b o, s1.heap.get? b = some o → h2.get? b = some o) (L : Longer P h2 h3 ps more)
    (bare : gs.bare = true) (on : ∀ b o, h3.get? b = some o → h5.get? b = some o) (new : ∀ b ∈ wr', s1.heap.objs.size ≤ b) (mv : Moved wr' (GenOnlyQ j) { s1 with heap := h5, gens := s1.gens.push gs, toks := n } s') : ∃ H2, GxR.Tabbed P H1 H2 ∧ Inv X pins σ H2 s' := by
  have old : ∀ {b o}, s1.heap.get? b = some o → b ∉ wr' := fun e z => Nat.lt_irrefl _ (Nat.lt_of_lt_of_le (Heap.lt_size e) (new _ z))
  have J := GxR.inv_tab (h' := s'.heap) (g' := s'.gens) (d' := s'.drawn) (t' := s'.toks) I isTab (fun b o far e => mv.heap b o (old e) (on b o (L.rest b o far (keep b o e)))) (mv.heap P _ (old (I.hok P _ isTab)) (on P _ L.table)) (AllBare.movedS (I.bare.push bare) mv)
  exact ⟨upd H1 P (.tbl (ps ++ more)), ⟨⟨_, upd_same, L.good⟩, fun _ far => upd_ne far⟩, (GxR.sh_eta s1 s' mv.os) ▸ J⟩
theorem Walkee.statics (K : Walkee X pins σ H1 P fp wr s1 t) : cStatics ≠ P ∧ cStatics ∉ wr := by
  obtain ⟨_, names, _⟩ := K.inv.nolimit
  constructor
  · rintro rfl
    obtain ⟨ps, isTab, _⟩ := K.tab
    obtain ⟨ob, _, _, there, isNs, _⟩ := names
    have q : s1.heap.get? cStatics = some { cls := .none, data := .fields ps } := K.inv.hok _ _ isTab
    cases q.symm.trans there
    cases isNs
  · exact fun z => Nat.lt_irrefl _ (Nat.lt_of_lt_of_le names.lt (K.new _ z))
/-- all that stood in s1 stands where an element is reckoned -/
theorem Walkee.turned {scope : Scope} {code : Value} {href : Heap} {A' : Around} {u : Shared} (K : Walkee X pins σ H1 P fp wr s1 t) (L : Longer P t.heap h3 ps more) (on : ∀ b o, h3.get? b = some o → href.get? b = some o) (calm : A'.handled = none) (deep : A'.depth ≤ X.A.depth + 1) (units : A'.units ≤ X.A.units + 8)
    (still : ∀ b ∈ List.range h3.objs.size, b ∉ wr → ∀ o, href.get? b = some o → u.heap.get? b = some o) : Turned X P scope s1 (genEnv scope (cloFrom X.env.cells scope.names []) h3.objs.size code builtinsNs X.env) A' u where
  own := rfl
  cells := rfl
  glob := K.inv.ok.glob
  blt := rfl
  calm := calm
  deep := deep
  units := units
  still := fun b o far e =>
    have e3 := L.rest b o far (K.keep b o e)
    still b (List.mem_range.mpr (Heap.lt_size e3)) (fun z => Nat.lt_irrefl _ (Nat.lt_of_lt_of_le (Heap.lt_size e) (K.new b z))) o (on b o e3)
/-- the made generator is ready -/
theorem Walkee.ready {n : Nat} {F : Nat → Value → Prop} {g : Addr} {h5 : Heap} {n3 n5 : Nat} {gs : GenState} {j : Nat} {wr' fp' : List Addr} {St : Nat → Shared → Prop} (K : Walkee X pins σ H1 P fp wr s1 t) (isTab : H1 P = some (.tbl ps)) (L : Longer P t.heap h3 ps more)
    (bare : gs.bare = true) (above : h3.objs.size < g) (size : h5.objs.size = g + 1) (on : ∀ b o, h3.get? b = some o → h5.get? b = some o) (hf : ∀ b ∈ fp', b = g ∨ b = h3.objs.size ∨ b < h3.objs.size) (hw : ∀ b ∈ wr', b = h3.objs.size ∨ b ∈ wr)
    (W : WalksS X.prog X.w X.A.in4 g fp' wr' (GenOnlyQ j) (passing (fun _ => true) n 0).length (fun j y => ∃ i, (passing (fun _ => true) n 0)[j]? = some i ∧ F i y) St) (st : St 0 { ({ s1 with heap := h3, toks := n3 } : Shared) with gens := s1.gens.push gs, toks := n5, heap := h5 }) :
    Walked X pins σ H1 P n F g { ({ s1 with heap := h3, toks := n3 } : Shared) with gens := s1.gens.push gs, toks := n5, heap := h5 } := by
  rw [GxR.passing_true, List.length_range] at W
  refine ⟨_, _, _, _, _, W.in4_1, st, fun b hb => ?_, fun j y hy => ?_, fun s' mv => tab_closes K.inv isTab K.keep L bare on (fun b hb => ?_) mv⟩
  · show b < h5.objs.size
    rw [size]
    rcases hf b hb with rfl | rfl | z
    · exact Nat.lt_succ_self _
    · exact Nat.lt_succ_of_lt above
    · exact Nat.lt_succ_of_lt (Nat.lt_trans z above)
  · obtain ⟨i, at_, q⟩ := hy
    obtain ⟨_, e⟩ := List.getElem?_eq_some_iff.mp at_
    rw [List.getElem_range] at e
    exact e ▸ q
  · rcases hw b hb with rfl | z
    · exact Nat.le_trans K.size L.size
    · exact K.new b z
end
section
variable {X : Cx} {pins : List (Addr × Obj)} {σ : L2.St} {H : Hp} {s : Shared} {c P : Addr} {k : Nat} {Q' : Value → Shared → Prop}
/-- (element for a, b in iter): what is walked hands out pairs; the element gives what F says -/
theorem gen_pairs {elt iter : Expr} {xa xb : Str} {pa pb pt gpos : Pos} {kt : Nat} {scope : Scope} (hr : Room k X.A) (TB : GxR.TabB X.base X.mg c P) (hcode : X.env.code = .ref c) (S : GenS2 X.env.scope scope xa xb) (hs : ∀ v, genFold iter X.env v = pure v) (I : Inv X pins σ H s)
    (h : wpAny (model X.prog X.w) X.A (eval iter X.env) (fun xv t => wpAny (model X.prog X.w) X.A (pyIter xv) (fun it t2 => ∃ (Iad : Addr) (fp wr : List Addr) (n : Nat) (Pt : Nat → Array Value → Prop) (St : Nat → Heap → Prop) (Mid : Nat → Addr → Heap → Prop) (F : Nat → Value → Prop) (q : List (Addr × Obj)) (σ1 : L2.St) (H1 : Hp) (s1 : Shared),
      it = .ref Iad ∧ Walkee X q σ1 H1 P fp wr s1 t2 ∧ (∀ A' : Around, A'.handled = none → WalksU X.prog X.w A' Iad fp wr n Pt St Mid) ∧ (∀ i vals, Pt i vals → ∃ va vb, vals = #[va, vb]) ∧ St 0 t2.heap ∧
      (∀ (cenv : Env) (A' : Around) (E' : Value → Shared → Prop) (i : Nat) (va vb : Value) (u : Shared) (m : Str → Option Value), Turned X P scope s1 cenv A' u → Pt i #[va, vb] → u.heap.Ns cenv.locals m → m xa = some va → m xb = some vb →
        wpAny (model X.prog X.w) A' (eval elt cenv) (fun y u' => F i y ∧ Keeps u u') E' u) ∧
      ∀ g s5, Walked X q σ1 H1 P n F g s5 → Q' (.ref g) s5) X.xe t) X.xe s) :
    wpAny (model X.prog X.w) X.A (eval (.GeneratorExp elt [⟨.Tuple [.Name xa pa, .Name xb pb] kt pt, iter, [], 0⟩] scope gpos) X.env) Q' X.xe s := by
  have room := hr.dp
  refine wpAny_GeneratorExp_walksQTD hr.hd S.co (closure_ok fun y hy e => I.ok.has y.1 (.inl (S.free y hy e))) S.cell S.dot S.la S.lb S.ne S.kind (by omega) (wpAny_mono h (fun xv t h => wpAny_mono h (fun it t2 h => ?_) fun _ _ e => e) fun _ _ e => e) hs
  obtain ⟨Iad, fp, wr, n, Pt, St, Mid, F, q, σ1, H1, s1, rfl, K, W, two, st, turn, out⟩ := h
  obtain ⟨ps, isTab, good⟩ := K.tab
  obtain ⟨h2, n2, rfl⟩ := K.same
  have lim : h2.NoLimit := K.inv.nolimit.keeps K.keep
  refine ⟨lim, tab_opens TB hcode K.inv isTab good K.keep fun cv h3 n3 more L => ⟨Iad, fp, wr, n, Pt, St, Mid, fun _ => true, F, rfl, W, two, (W X.A hr.hd).frame _ _ _ st fun b hb o e => L.rest b o (K.low b hb).2 e, fun b hb => Nat.lt_of_lt_of_le (K.low b hb).1 L.size, lim.extBut L.rest K.statics.1, K.statics.2, fun href on => ⟨?_, ?_⟩, ?_⟩⟩
  · intro A' E' i va vb u m _ _ _ _ _ _ _ _
    exact wpAny_pure ⟨rfl, GxR.keeps_refl _⟩
  · intro A' E' i va vb u m calm deep units at_ _ ns ma mb still
    exact turn _ A' E' i va vb u m (K.turned L on calm deep units still) at_ ns ma mb
  · intro g h5 n5 gs bare above size on W5 st5
    refine out g _ (K.ready isTab L bare above size on (fun b hb => ?_) (fun b hb => List.mem_cons.mp hb) W5 st5)
    exact (List.mem_cons.mp hb).imp_right fun z => (List.mem_cons.mp z).imp_right List.mem_range.mp
/-- (element for a in iter) -/
theorem gen_ones {elt iter : Expr} {x : Str} {px gpos : Pos} {scope : Scope} (hr : Room k X.A) (TB : GxR.TabB X.base X.mg c P) (hcode : X.env.code = .ref c) (S : GenS1 X.env.scope scope x) (hs : ∀ v, genFold iter X.env v = pure v) (I : Inv X pins σ H s)
    (h : wpAny (model X.prog X.w) X.A (eval iter X.env) (fun xv t => wpAny (model X.prog X.w) X.A (pyIter xv) (fun it t2 => ∃ (Iad : Addr) (fp wr : List Addr) (n : Nat) (Pt : Nat → Value → Prop) (St : Nat → Heap → Prop) (F : Nat → Value → Prop) (q : List (Addr × Obj)) (σ1 : L2.St) (H1 : Hp) (s1 : Shared),
      it = .ref Iad ∧ Walkee X q σ1 H1 P fp wr s1 t2 ∧ (∀ A' : Around, A'.handled = none → Walks X.prog X.w A' Iad fp wr n Pt St) ∧ St 0 t2.heap ∧
      (∀ (cenv : Env) (A' : Around) (E' : Value → Shared → Prop) (i : Nat) (va : Value) (u : Shared) (m : Str → Option Value), Turned X P scope s1 cenv A' u → Pt i va → u.heap.Ns cenv.locals m → m x = some va →
        wpAny (model X.prog X.w) A' (eval elt cenv) (fun y u' => F i y ∧ Keeps u u') E' u) ∧
      ∀ g s5, Walked X q σ1 H1 P n F g s5 → Q' (.ref g) s5) X.xe t) X.xe s) :
    wpAny (model X.prog X.w) X.A (eval (.GeneratorExp elt [⟨.Name x px, iter, [], 0⟩] scope gpos) X.env) Q' X.xe s := by
  have room := hr.dp
  refine wpAny_GeneratorExp_walksQD hr.hd S.co (closure_ok fun y hy e => I.ok.has y.1 (.inl (S.free y hy e))) S.cell S.dot S.la S.kind (by omega) (wpAny_mono h (fun xv t h => wpAny_mono h (fun it t2 h => ?_) fun _ _ e => e) fun _ _ e => e) hs
  obtain ⟨Iad, fp, wr, n, Pt, St, F, q, σ1, H1, s1, rfl, K, W, st, turn, out⟩ := h
  obtain ⟨ps, isTab, good⟩ := K.tab
  obtain ⟨h2, n2, rfl⟩ := K.same
  have lim : h2.NoLimit := K.inv.nolimit.keeps K.keep
  refine ⟨lim, tab_opens TB hcode K.inv isTab good K.keep fun cv h3 n3 more L => ⟨Iad, fp, wr, n, Pt, St, fun _ => true, F, rfl, W, (W X.A hr.hd).frame _ _ _ st fun b hb o e => L.rest b o (K.low b hb).2 e, fun b hb => Nat.lt_of_lt_of_le (K.low b hb).1 L.size, lim.extBut L.rest K.statics.1, K.statics.2, fun href on => ⟨?_, ?_⟩, ?_⟩⟩
  · intro A' E' i va u m _ _ _ _ _ _ _
    exact wpAny_pure ⟨rfl, GxR.keeps_refl _⟩
  · intro A' E' i va u m calm deep units at_ _ ns ma still
    exact turn _ A' E' i va u m (K.turned L on calm deep units still) at_ ns ma
  · intro g h5 n5 gs bare above size on W5 st5
    refine out g _ (K.ready isTab L bare above size on (fun b hb => ?_) (fun b hb => List.mem_cons.mp hb) W5 st5)
    exact (List.mem_cons.mp hb).imp_right fun z => (List.mem_cons.mp z).imp_right List.mem_range.mp
/-- a built-in function of a generator expression alone -/
theorem call_gen {b : Str} {f : String} {ge : Expr} {p pos : Pos} {R : Value → Shared → Prop} (hg : Gl X b) (hm : X.mg b = none) (hb : bootBuiltins b = some (.builtin f)) (he : starEach [ge] X.env = (false, eval ge X.env) :: starEach [] X.env) (I : Inv X pins σ H s)
    (h : wpAny (model X.prog X.w) X.A (eval ge X.env) (fun v t => wpAny (model X.prog X.w) X.A (call (.builtin f) [v]) R X.xe t) X.xe s) (hd : (b == ("__debug__" : Str)) = false := by decide) (hn : b ≠ "__name__" := by decide) :
    wpAny (model X.prog X.w) X.A (eval (.Call (.Name b p) [ge] [] pos) X.env) R X.xe s := by
  refine wpAny_Call_Name_kw (ld_blt I hg hm hb (PyProof.Rows.callWith_builtin1 ?_ he (by rfl)) hn hd)
  rw [he]
  exact Calls.spliced_cons (wpAny_mono h (fun v t h => Calls.spliced_nil h) fun _ _ e => e)
theorem truth_of {A : Around} {F' : Nat → Value → Prop} {pb : Nat → Bool} (h : ∀ i v, F' i v → v = .bool (pb i)) : TruthOf X.prog X.w A F' pb := by
  intro i v t Q E at_ q
  cases h i v at_
  exact wpAny_truthy_bool q
end
/-! ### all(test for a, b in enumerate(list)) -/
def tAllE (K : PySem.W.Frag) (P : Addr) (R : L2.St → Hp → List V → (Nat → Bool) → Prop) (te : TE) : TE := fun σ H Q => te σ H fun v H1 => ∃ (a : Addr) (xs : List V) (pb : Nat → Bool), v = .ref a ∧ SqL K H1 a xs ∧ GxR.TabG H1 P ∧ R σ H1 xs pb ∧
  ∀ H2, GxR.Tabbed P H1 H2 → Q (.bl ((List.range xs.length).all pb)) H2
/-- what the element is to do at one pair -/
def EltE (X : Cx) (P : Addr) (scope : Scope) (xa xb : Str) (elt : Expr) (R : L2.St → Hp → List V → (Nat → Bool) → Prop) : Prop :=
  ∀ (pins : List (Addr × Obj)) (σ : L2.St) (H1 : Hp) (s1 : Shared) (xs : List V) (pb : Nat → Bool), Inv X pins σ H1 s1 → GxR.TabG H1 P → R σ H1 xs pb →
    ∀ (cenv : Env) (A' : Around) (E' : Value → Shared → Prop) (i : Nat) (v : V) (va vb : Value) (s₂ : Shared) (m₂ : Str → Option Value), cenv.scope = scope → cenv.cells = cloFrom X.env.cells scope.names [] → cenv.globals = mainGlobals → cenv.builtins = builtinsNs →
      A'.handled = none → A'.depth ≤ X.A.depth + 1 → A'.units ≤ X.A.units + 8 → xs[i]? = some v → (∃ t, va = .int (i : Nat) t) → RelV v vb → s₂.heap.Ns cenv.locals m₂ → m₂ xa = some va → m₂ xb = some vb → (∀ b o, b ≠ P → s1.heap.get? b = some o → s₂.heap.get? b = some o) →
      wpAny (model X.prog X.w) A' (eval elt cenv) (fun y s₃ => y = .bool (pb i) ∧ Keeps s₂ s₃) E' s₂
section
variable {X : Cx}
theorem pe_allEnum {c P : Addr} {elt e : Expr} {xa xb : Str} {pa pb' pt p pos gpos epos ep : Pos} {kt : Nat} {scope : Scope} {te : TE} {k : Nat} {R : L2.St → Hp → List V → (Nat → Bool) → Prop}
    (hr : Room k X.A) (hg : Gl X "all") (hm : X.mg "all" = none) (hb : bootBuiltins "all" = some (.builtin "all")) (hge : Gl X "enumerate") (hme : X.mg "enumerate" = none) (TB : GxR.TabB X.base X.mg c P) (hcode : X.env.code = .ref c) (S : GenS2 X.env.scope scope xa xb) (hi : PE X e te)
    (hel : EltE X P scope xa xb elt R)
    (hs : ∀ v, genFold (.Call (.Name "enumerate" ep) [e] [] epos) X.env v = pure v := by intro _; rfl)
    (hs1 : starEach [e] X.env = [(false, eval e X.env)] := by rfl)
    (he : starEach [.GeneratorExp elt [⟨.Tuple [.Name xa pa, .Name xb pb'] kt pt, .Call (.Name "enumerate" ep) [e] [] epos, [], 0⟩] scope gpos] X.env = (false, eval (.GeneratorExp elt [⟨.Tuple [.Name xa pa, .Name xb pb'] kt pt, .Call (.Name "enumerate" ep) [e] [] epos, [], 0⟩] scope gpos) X.env) :: starEach [] X.env := by rfl) :
    PE X (.Call (.Name "all" p) [.GeneratorExp elt [⟨.Tuple [.Name xa pa, .Name xb pb'] kt pt, .Call (.Name "enumerate" ep) [e] [] epos, [], 0⟩] scope gpos] [] pos) (tAllE X.K P R te) := by
  refine ⟨fun pins s σ H Q I h => call_gen hg hm hb he I (gen_pairs hr TB hcode S hs I (Call_ (ld_blt I hge hme boot_enumerate (PyProof.Rows.callWith_type1 ?_ hs1 rfl))))⟩
  rw [hs1]
  refine Calls.spliced_cons (thn (hi.run pins s σ H _ I h) fun u0 s1 r => Calls.spliced_nil ?_)
  obtain ⟨_, H1, J, isRef, a, xs, pb, rfl, sq, tab, hR, q⟩ := r
  cases isRef
  obtain ⟨its, rv, at_, _⟩ := J.list sq
  refine call_enumerate_list at_.isList fun h' isEn isIt size keep => wpAny_pyIter_enum isEn ?_
  have la : a < s1.heap.objs.size := at_.lt
  have below : s1.heap.objs.size < h'.objs.size := isIt.elim fun _ x => Heap.lt_size x.1
  obtain ⟨oa, ea, ca, _⟩ := id at_.isList
  have aP : a ≠ P := tab_ne J tab ea (.inl fun z => by rw [ca] at z; cases z)
  have lP : P < s1.heap.objs.size := tab.elim fun _ x => Heap.lt_size (show s1.heap.get? P = _ from J.hok P _ x.1)
  have W := fun (A' : Around) (calm : A'.handled = none) => (WalksT.enumerate (prog := X.prog) (w := X.w) calm (s1.heap.objs.size + 1) s1.heap.objs.size a (Nat.succ_ne_self _) (Nat.ne_of_lt (Nat.lt_succ_of_lt la)) (Nat.ne_of_lt la) its.toArray).toU
  refine ⟨_, _, _, _, _, _, _, fun i y => y = .bool (pb i), pins, σ, H1, s1, rfl, ⟨J, tab, ⟨_, _, rfl⟩, keep, Nat.le_of_lt below, fun b hb => ?_, fun b hb => ?_⟩, W, fun i vals x => ?_, ⟨⟨_, isEn⟩, isIt, at_.isList.at fun o x => keep a o x⟩, ?_, ?_⟩
  · simp only [List.mem_cons, List.not_mem_nil, or_false] at hb
    rcases hb with rfl | rfl | rfl
    · exact ⟨Heap.lt_size isEn, Nat.ne_of_gt (Nat.lt_succ_of_lt lP)⟩
    · exact ⟨below, Nat.ne_of_gt lP⟩
    · exact ⟨Nat.lt_trans la below, aP⟩
  · simp only [List.mem_cons, List.not_mem_nil, or_false] at hb
    rcases hb with rfl | rfl
    · exact Nat.le_succ _
    · exact Nat.le_refl _
  · exact x.elim fun _ x => x.elim fun _ x => ⟨_, _, x.2⟩
  · intro cenv A' E' i va vb u m T at_ ns ma mb
    obtain ⟨t, x, hx, e'⟩ := at_
    obtain ⟨rfl, rfl⟩ : va = .int i t ∧ vb = x := by simpa using congrArg Array.toList e'
    have there : its[i]? = some vb := by simpa using hx
    obtain ⟨v, hv⟩ : ∃ v, xs[i]? = some v := ⟨_, List.getElem?_eq_getElem (rv.length.symm ▸ (List.getElem?_eq_some_iff.mp there).1)⟩
    obtain ⟨w, hw, rw_⟩ := rv.get hv
    cases there.symm.trans hw
    exact hel pins σ H1 s1 xs pb J tab hR cenv A' E' i v _ _ u m T.own T.cells T.glob T.blt T.calm T.deep T.units hv ⟨t, rfl⟩ rw_ ns ma mb T.still
  · rintro g s5 ⟨fp, wr, G, F', St, W, st, _, say, held⟩
    refine call_all_walkS (W.self 0 _ _ _ st ⟨g, fp, wr, G, _, F', St, pb, rfl, W, st, truth_of say, fun s' mv => ?_⟩)
    obtain ⟨H2, grown, J2⟩ := held s' mv
    refine ⟨.bl _, H2, J2, rfl, ?_⟩
    rw [List.size_toArray, ← rv.length]
    exact q H2 grown
end
/-! ### (element for a, b in zip(list, list)), both lists of ints -/
section
variable {X : Cx} {pins : List (Addr × Obj)} {σ : L2.St} {H : Hp} {s : Shared}
theorem gen_zip {c P : Addr} {elt e1 e2 : Expr} {xa xb : Str} {pa pb pt gpos epos ep : Pos} {kt k : Nat} {scope : Scope} {t1 t2 : TE} {C : List Int → List Int → Hp → Prop} {F : List Int → List Int → Nat → Value → Prop} {Q' : Value → Shared → Prop}
    (hr : Room k X.A) (hge : Gl X "zip") (hme : X.mg "zip" = none) (TB : GxR.TabB X.base X.mg c P) (hcode : X.env.code = .ref c) (S : GenS2 X.env.scope scope xa xb) (h1 : PE X e1 t1) (h2 : PE X e2 t2)
    (hs : ∀ v, genFold (.Call (.Name "zip" ep) [e1, e2] [] epos) X.env v = pure v) (hs1 : starEach [e1, e2] X.env = (false, eval e1 X.env) :: starEach [e2] X.env) (hs2 : starEach [e2] X.env = (false, eval e2 X.env) :: starEach [] X.env)
    (hpl : (backTo epos (starEach [e2] X.env)).any (·.1) = false) (hem : starEach [] X.env = []) (I : Inv X pins σ H s)
    (h : t1 σ H fun v H1 => t2 σ H1 fun u H2 => ∃ (a b : Addr) (ns ms : List Int), v = .ref a ∧ u = .ref b ∧ SqL X.K H2 a (ns.map V.int) ∧ SqL X.K H2 b (ms.map V.int) ∧ GxR.TabG H2 P ∧ C ns ms H2)
    (turn : ∀ ns ms H2, C ns ms H2 → ∀ (cenv : Env) (A' : Around) (E' : Value → Shared → Prop) (i : Nat) (u : Shared) (m : Str → Option Value) (li : i < ns.length) (lj : i < ms.length) (t t' : Tok), cenv.scope = scope → u.heap.Ns cenv.locals m → m xa = some (.int ns[i] t) → m xb = some (.int ms[i] t') →
      wpAny (model X.prog X.w) A' (eval elt cenv) (fun y u' => F ns ms i y ∧ Keeps u u') E' u)
    (out : ∀ ns ms H2 g s5, C ns ms H2 → Walked X pins σ H2 P (min ns.length ms.length) (F ns ms) g s5 → Q' (.ref g) s5) :
    wpAny (model X.prog X.w) X.A (eval (.GeneratorExp elt [⟨.Tuple [.Name xa pa, .Name xb pb] kt pt, .Call (.Name "zip" ep) [e1, e2] [] epos, [], 0⟩] scope gpos) X.env) Q' X.xe s := by
  refine gen_pairs hr TB hcode S hs I (Call_ (ld_blt I hge hme PyProof.Rows.boot_zip (PyProof.Rows.callWith_type1 ?_ hs1 hpl)))
  rw [hs1, hs2, hem]
  refine Calls.spliced_cons (thn (h1.run pins s σ H _ I h) fun u0 s0 r0 => ?_)
  obtain ⟨v0, H0, J0, isA, q0⟩ := r0
  refine Calls.spliced_cons (thn (h2.run pins s0 σ H0 _ J0 q0) fun u1 s1 r1 => Calls.spliced_nil ?_)
  obtain ⟨v1, H1, J, isB, a, b, ns, ms, rfl, rfl, sqa, sqb, tab, hC⟩ := r1
  cases isA
  cases isB
  obtain ⟨its, rv, atA, _⟩ := J.list sqa
  obtain ⟨jts, rw_, atB, _⟩ := J.list sqb
  have lenA : ns.length = its.length := List.length_map (f := V.int) ▸ rv.length
  have lenB : ms.length = jts.length := List.length_map (f := V.int) ▸ rw_.length
  obtain ⟨oa, ea, ca, _⟩ := id atA.isList
  obtain ⟨ob, eb, cb, _⟩ := id atB.isList
  have aP : a ≠ P := tab_ne J tab ea (.inl fun z => by rw [ca] at z; cases z)
  have bP : b ≠ P := tab_ne J tab eb (.inl fun z => by rw [cb] at z; cases z)
  have lP : P < s1.heap.objs.size := tab.elim fun _ x => Heap.lt_size (show s1.heap.get? P = _ from J.hok P _ x.1)
  refine call_zip_2 atA.isList atB.isList fun h' isZ isT isO itA itB size keep => wpAny_pyIter_zip isZ ?_
  have up : ∀ j, j < 5 → s1.heap.objs.size + j < h'.objs.size ∧ s1.heap.objs.size + j ≠ P := fun j lj => ⟨size ▸ Nat.add_lt_add_left lj _, Nat.ne_of_gt (Nat.lt_of_lt_of_le lP (Nat.le_add_right _ j))⟩
  have W := fun (A' : Around) (calm : A'.handled = none) => (WalksT.zip2 (prog := X.prog) (w := X.w) calm (s1.heap.objs.size + 4) (s1.heap.objs.size + 2) (s1.heap.objs.size + 3) s1.heap.objs.size (s1.heap.objs.size + 1) a b (PySem.W.ktu_apart s1.heap.objs.size a b atA.lt atB.lt) its.toArray jts.toArray).toU
  have grown : s1.heap.objs.size ≤ h'.objs.size := Nat.le_of_lt (up 0 (by decide)).1
  refine ⟨_, _, _, _, _, _, _, F ns ms, pins, σ, H1, s1, rfl, ⟨J, tab, ⟨_, _, rfl⟩, keep, grown, fun d hd => ?_, fun d hd => ?_⟩, W, fun i vals x => ?_, ⟨isZ, isT, ⟨_, _, isO⟩, itA, itB, atA.isList.at fun o x => keep a o x, atB.isList.at fun o x => keep b o x⟩, ?_, ?_⟩
  · simp only [List.mem_cons, List.not_mem_nil, or_false] at hd
    rcases hd with rfl | rfl | rfl | rfl | rfl | rfl | rfl
    · exact up 4 (by decide)
    · exact up 2 (by decide)
    · exact up 3 (by decide)
    · exact up 0 (by decide)
    · exact up 1 (by decide)
    · exact ⟨Nat.lt_of_lt_of_le atA.lt grown, aP⟩
    · exact ⟨Nat.lt_of_lt_of_le atB.lt grown, bP⟩
  · simp only [List.mem_cons, List.not_mem_nil, or_false] at hd
    rcases hd with rfl | rfl | rfl | rfl
    · exact Nat.le_add_right _ _
    · exact Nat.le_add_right _ _
    · exact Nat.le_refl _
    · exact Nat.le_add_right _ _
  · exact x.elim fun _ x => x.elim fun _ x => ⟨_, _, x.2.2⟩
  · intro cenv A' E' i va vb u m T at_ nsm ma mb
    obtain ⟨x, y, hx, hy, e'⟩ := at_
    obtain ⟨rfl, rfl⟩ : va = x ∧ vb = y := by simpa using congrArg Array.toList e'
    have inA : its[i]? = some va := by simpa using hx
    have inB : jts[i]? = some vb := by simpa using hy
    have li : i < ns.length := lenA ▸ (List.getElem?_eq_some_iff.mp inA).1
    have lj : i < ms.length := lenB ▸ (List.getElem?_eq_some_iff.mp inB).1
    obtain ⟨w, hw, t, rfl⟩ := rv.get (getD_ints li)
    obtain ⟨w', hw', t', rfl⟩ := rw_.get (getD_ints lj)
    cases inA.symm.trans hw
    cases inB.symm.trans hw'
    exact turn ns ms H1 hC cenv A' E' i u m li lj t t' T.own nsm ma mb
  · intro g s5 x
    rw [List.size_toArray, List.size_toArray, ← lenA, ← lenB] at x
    exact out ns ms H1 g s5 hC x
/-- both names of such an expression are read from its frame -/
theorem read_two {sc scope : Scope} {cenv : Env} {A' : Around} {E' : Value → Shared → Prop} {u : Shared} {m : Str → Option Value} {xa xb : Str} {va vb : Value} {p q : Pos} {M : Model} (S : GenS2 sc scope xa xb) (own : cenv.scope = scope) (ns : u.heap.Ns cenv.locals m) (ma : m xa = some va) (mb : m xb = some vb)
    (hda : (xa == ("__debug__" : Str)) = false) (hdb : (xb == ("__debug__" : Str)) = false) :
    (∀ {Q : Value → Shared → Prop}, Q va u → wpAny M A' (eval (.Name xa p) cenv) Q E' u) ∧ ∀ {Q : Value → Shared → Prop}, Q vb u → wpAny M A' (eval (.Name xb q) cenv) Q E' u := by
  subst own
  exact ⟨fun h => wpAny_Name (wpAny_loadName_local S.kind S.la ns ma h) hda, fun h => wpAny_Name (wpAny_loadName_local S.kind S.lb ns mb h) hdb⟩
theorem at_getD {ns : List Int} {i : Nat} (li : i < ns.length) : ns.getD i 0 = ns[i] := by
  rw [List.getD_eq_getElem?_getD, List.getElem?_eq_getElem li]
  rfl
end
/-! ### all(a < b for a, b in zip(list, list)) -/
def tAllZ (K : PySem.W.Frag) (P : Addr) (t1 t2 : TE) : TE := fun σ H Q => t1 σ H fun v H1 => t2 σ H1 fun u H2 => ∃ (a b : Addr) (ns ms : List Int), v = .ref a ∧ u = .ref b ∧ SqL K H2 a (ns.map V.int) ∧ SqL K H2 b (ms.map V.int) ∧ GxR.TabG H2 P ∧
  ∀ H3, GxR.Tabbed P H2 H3 → Q (.bl ((List.range (min ns.length ms.length)).all fun i => decide (ns.getD i 0 < ms.getD i 0))) H3
section
variable {X : Cx}
theorem pe_allZip {c P : Addr} {e1 e2 : Expr} {xa xb : Str} {pa pb' pt p pos gpos epos ep q1 q2 q3 : Pos} {kt : Nat} {scope : Scope} {t1 t2 : TE} {k : Nat}
    (hr : Room k X.A) (hg : Gl X "all") (hm : X.mg "all" = none) (hb : bootBuiltins "all" = some (.builtin "all")) (hge : Gl X "zip") (hme : X.mg "zip" = none) (TB : GxR.TabB X.base X.mg c P) (hcode : X.env.code = .ref c) (S : GenS2 X.env.scope scope xa xb) (h1 : PE X e1 t1) (h2 : PE X e2 t2)
    (hda : (xa == ("__debug__" : Str)) = false) (hdb : (xb == ("__debug__" : Str)) = false)
    (hs : ∀ v, genFold (.Call (.Name "zip" ep) [e1, e2] [] epos) X.env v = pure v := by intro _; rfl)
    (hs1 : starEach [e1, e2] X.env = (false, eval e1 X.env) :: starEach [e2] X.env := by rfl) (hs2 : starEach [e2] X.env = (false, eval e2 X.env) :: starEach [] X.env := by rfl) (hpl : (backTo epos (starEach [e2] X.env)).any (·.1) = false := by rfl)
    (he : starEach [.GeneratorExp (.Compare (.Name xa q1) [.Lt] [.Name xb q2] q3) [⟨.Tuple [.Name xa pa, .Name xb pb'] kt pt, .Call (.Name "zip" ep) [e1, e2] [] epos, [], 0⟩] scope gpos] X.env = (false, eval (.GeneratorExp (.Compare (.Name xa q1) [.Lt] [.Name xb q2] q3) [⟨.Tuple [.Name xa pa, .Name xb pb'] kt pt, .Call (.Name "zip" ep) [e1, e2] [] epos, [], 0⟩] scope gpos) X.env) :: starEach [] X.env := by rfl) :
    PE X (.Call (.Name "all" p) [.GeneratorExp (.Compare (.Name xa q1) [.Lt] [.Name xb q2] q3) [⟨.Tuple [.Name xa pa, .Name xb pb'] kt pt, .Call (.Name "zip" ep) [e1, e2] [] epos, [], 0⟩] scope gpos] [] pos) (tAllZ X.K P t1 t2) := by
  refine ⟨fun pins s σ H Q I h => call_gen hg hm hb he I (gen_zip (C := fun ns ms H2 => ∀ H3, GxR.Tabbed P H2 H3 → Q (.bl ((List.range (min ns.length ms.length)).all fun i => decide (ns.getD i 0 < ms.getD i 0))) H3) (F := fun ns ms i y => y = .bool (decide (ns.getD i 0 < ms.getD i 0)))
    hr hge hme TB hcode S h1 h2 hs hs1 hs2 hpl (by rfl) I h ?_ ?_)⟩
  · intro ns ms H2 _ cenv A' E' i u m li lj t t' own nsm ma mb
    have two := read_two (M := model X.prog X.w) (A' := A') (E' := E') (p := q1) (q := q2) S own nsm ma mb hda hdb
    refine wpAny_Compare1 (two.1 (two.2 (lt_int ⟨?_, GxR.keeps_refl _⟩))) (nomark _)
    rw [at_getD li, at_getD lj]
  · rintro ns ms H2 g s5 q ⟨fp, wr, G, F', St, W, st, _, say, held⟩
    refine call_all_walkS (W.self 0 _ _ _ st ⟨g, fp, wr, G, _, F', St, _, rfl, W, st, truth_of say, fun s' mv => ?_⟩)
    obtain ⟨H3, grown, J⟩ := held s' mv
    exact ⟨.bl _, H3, J, rfl, q H3 grown⟩
end
/-! ### what stays where tables of code may grow -/
def Tb (T : List Addr) (H : Hp) : Prop := ∀ t ∈ T, GxR.TabG H t
structure Ext (T : List Addr) (H H' : Hp) : Prop where
  ext : ∀ b o, H b = some o → (∀ ps, o ≠ .tbl ps) → H' b = some o
  t0 : Tb T H
  t1 : Tb T H'
  free : ∀ b, H' b = none → H b = none
section
variable {T : List Addr} {H H1 H2 : Hp}
theorem Ext.refl (h : Tb T H) : Ext T H H := ⟨fun _ _ e _ => e, h, h, fun _ e => e⟩
theorem Ext.trans (a : Ext T H H1) (b : Ext T H1 H2) : Ext T H H2 := ⟨fun c o e n => b.ext c o (a.ext c o e n) n, a.t0, b.t1, fun c e => a.free c (b.free c e)⟩
theorem Ext.lst (a : Ext T H H1) {p : Addr} {xs : List V} (h : H p = some (.lst xs)) : H1 p = some (.lst xs) := a.ext _ _ h fun _ z => nomatch z
theorem Ext.tup (a : Ext T H H1) {p : Addr} {xs : List V} (h : H p = some (.tup xs)) : H1 p = some (.tup xs) := a.ext _ _ h fun _ z => nomatch z
theorem Ext.same (s : Same H H1) (h : Tb T H) : Ext T H H1 := ⟨fun b o e _ => s b o e, h, fun t ht => by
  obtain ⟨ps, h1, h2⟩ := h t ht
  exact ⟨ps, s _ _ h1, h2⟩, fun b e => s.free e⟩
theorem Ext.new (a : Ext T H H1) {p : Addr} {o : HO} (hp : H p = none) : Ext T H (upd H1 p o) := by
  refine ⟨fun b u e n => ?_, a.t0, fun t ht => ?_, fun b e => ?_⟩
  · rw [upd_ne (ne_of_none e hp)]
    exact a.ext b u e n
  · obtain ⟨ps, h1, h2⟩ := a.t1 t ht
    obtain ⟨qs, h3, _⟩ := a.t0 t ht
    exact ⟨ps, by rw [upd_ne (ne_of_none h3 hp)]; exact h1, h2⟩
  · by_cases z : b = p
    · subst z
      exact hp
    · rw [upd_ne z] at e
      exact a.free b e
theorem Ext.tabbed {t : Addr} (h : Tb T H) (x : GxR.Tabbed t H H1) (ht : t ∈ T) : Ext T H H1 := by
  refine ⟨fun b o e n => ?_, h, fun u hu => ?_, fun b e => ?_⟩
  · obtain ⟨ps, h1, _⟩ := h t ht
    rw [x.2 b (fun z => by rw [z, h1] at e; exact n ps (Option.some.inj e).symm)]
    exact e
  · by_cases z : u = t
    · rw [z]
      exact x.1
    · obtain ⟨ps, h1, h2⟩ := h u hu
      exact ⟨ps, by rw [x.2 u z]; exact h1, h2⟩
  · by_cases z : b = t
    · obtain ⟨ps, h1, _⟩ := x.1
      rw [z, h1] at e
      cases e
    · rw [x.2 b z] at e
      exact e
end
/-! ### shops -/
inductive Ofr where
  | pack (c : List Int) (p : Int)
  | many (c : List Int) (ts : List (Int × Int))
  | add (c : List Int) (p k : Int)
def Ofr.cont : Ofr → List Int
  | .pack c _ => c
  | .many c _ => c
  | .add c _ _ => c
def Ofr.word : Ofr → Str
  | .pack _ _ => "pack"
  | .many _ _ => "many"
  | .add _ _ _ => "add"
def TiersAt (H : Hp) (a : Addr) (ts : List (Int × Int)) : Prop := ∃ us : List Addr, H a = some (.lst (us.map V.ref)) ∧ us.length = ts.length ∧ ∀ (i : Nat) u (t : Int × Int), us[i]? = some u → ts[i]? = some t → H u = some (.tup [.int t.1, .int t.2])
def OfrAt (H : Hp) (a : Addr) : Ofr → Prop
  | .pack c p => ∃ b, H a = some (.tup [.str "pack", .ref b, .int p]) ∧ H b = some (LI c)
  | .many c ts => ∃ b t, H a = some (.tup [.str "many", .ref b, .ref t]) ∧ H b = some (LI c) ∧ TiersAt H t ts
  | .add c p k => ∃ b, H a = some (.tup [.str "add", .ref b, .int p, .int k]) ∧ H b = some (LI c)
def ShopAt (H : Hp) (a : Addr) (os : List Ofr) : Prop := ∃ vs : List Addr, H a = some (.lst (vs.map V.ref)) ∧ vs.length = os.length ∧ ∀ (i : Nat) v o, vs[i]? = some v → os[i]? = some o → OfrAt H v o
section
variable {T : List Addr} {H H1 : Hp} (e : Ext T H H1)
include e
theorem TiersAt.ext {a : Addr} {ts : List (Int × Int)} (h : TiersAt H a ts) : TiersAt H1 a ts := by
  obtain ⟨us, h1, h2, h3⟩ := h
  exact ⟨us, e.lst h1, h2, fun i u t a b => e.tup (h3 i u t a b)⟩
theorem OfrAt.ext {a : Addr} : ∀ {o : Ofr}, OfrAt H a o → OfrAt H1 a o
  | .pack c p, ⟨b, h1, h2⟩ => ⟨b, e.tup h1, e.lst h2⟩
  | .many c ts, ⟨b, t, h1, h2, h3⟩ => ⟨b, t, e.tup h1, e.lst h2, h3.ext e⟩
  | .add c p k, ⟨b, h1, h2⟩ => ⟨b, e.tup h1, e.lst h2⟩
theorem ShopAt.ext {a : Addr} {os : List Ofr} (h : ShopAt H a os) : ShopAt H1 a os := by
  obtain ⟨vs, h1, h2, h3⟩ := h
  exact ⟨vs, e.lst h1, h2, fun i v o a b => (h3 i v o a b).ext e⟩
end
/-- the offer's word and its content, whatever it is -/
theorem OfrAt.head {H : Hp} {a : Addr} : ∀ {o : Ofr}, OfrAt H a o → ∃ b r, H a = some (.tup (.str o.word :: .ref b :: r)) ∧ H b = some (LI o.cont)
  | .pack c p, ⟨b, h1, h2⟩ => ⟨b, _, h1, h2⟩
  | .many c ts, ⟨b, t, h1, h2, h3⟩ => ⟨b, _, h1, h2⟩
  | .add c p k, ⟨b, h1, h2⟩ => ⟨b, _, h1, h2⟩
theorem ShopAt.get {H : Hp} {a : Addr} {os : List Ofr} {vs : List Addr} (h : vs.length = os.length) {i : Nat} (hi : i < os.length) : ∃ v o, vs[i]? = some v ∧ os[i]? = some o ∧ (vs.map V.ref)[i]? = some (.ref v) := by
  refine ⟨vs[i]'(by omega), os[i], List.getElem?_eq_getElem (by omega), List.getElem?_eq_getElem hi, ?_⟩
  rw [List.getElem?_map, List.getElem?_eq_getElem (by omega)]
  rfl
structure GoodT (ts : List (Int × Int)) : Prop where
  pos : 1 ≤ ts.length
  few : ts.length ≤ 4
  one : ∀ t, ts[0]? = some t → t.1 = 1
  most : ∀ t ∈ ts, t.1 ≤ 12
  rise : ∀ (i : Nat) a b, ts[i]? = some a → ts[i + 1]? = some b → a.1 < b.1
def GoodO (os : List Ofr) (i : Nat) : Ofr → Prop
  | .pack _ _ => True
  | .many _ ts => GoodT ts
  | .add _ _ k => ∃ j : Nat, k = (j : Int) ∧ j < i ∧ ∃ c p, os[j]? = some (.pack c p)
def Good (os : List Ofr) : Prop := os.length ≤ 8 ∧ ∀ (i : Nat) o, os[i]? = some o → GoodO os i o
/-- F.ok with the code object told -/
theorem okc {P : Program} {w : World} {K : PySem.W.Frag} {mg : Str → Option Value} {base : Heap} {x qual : Str} {st : Stmt} {f c : Addr} {fd : FuncData} {N ps : List Str} {k : Nat} {sp : Sp} (F : Fun K x qual st f fd) (hc : fd.code = .ref c) (S : FnScope N ps (defScope st)) (len : ∀ vs H Q E, sp vs H Q E → vs.length = ps.length)
    (hbody : ∀ (cdv : Value) (A : Around) (outer : List Env) (s : Shared) (H : Hp) (vs : List V) (Q : VK) (E : XK), cdv = .ref c → Room k (A.deeper (envOfC qual (defScope st) s.heap.objs.size f cdv)) → sp vs H Q E →
      ∃ t, PSs (cxOf CX0 P w K mg base N qual (defScope st) f cdv A outer s H E).nox (defBody st) t ∧ t { nx := fun _ H' => Q .non H', rt := Q } (start N vs) H) : FnOk P w K mg base CX0 (k + 1) f fd ps sp := by
  obtain ⟨oc, od, kV, doc, pm, an, cdv, ct, osl, rfl, lk, hcd⟩ := F.ex
  refine fn_of lk hcd S len fun A outer s H vs Q E hr hsp => ?_
  obtain ⟨t, h, q⟩ := hbody cdv A outer s H vs Q E hc hr hsp
  exact ⟨t, h.nox, q⟩
/-- a list without its first -/
theorem cut1 (l : List V) : cutV l (some 1) none = l.drop 1 := by
  have a : HT.sIx l.length 0 (some ((1 : Nat) : Int)) = min 1 l.length := HT.sIx_nat _ _ _
  show (l.drop (HT.sIx l.length 0 (some ((1 : Nat) : Int)))).take (l.length - HT.sIx l.length 0 (some ((1 : Nat) : Int))) = l.drop 1
  rw [a]
  rcases Nat.eq_zero_or_pos l.length with z | z
  · rw [List.eq_nil_of_length_eq_zero z]
    rfl
  · rw [Nat.min_eq_left z]
    exact List.take_of_length_le (by rw [List.length_drop]; exact Nat.le_refl _)
/-! ### an exception that is kept behind its except suite -/
/-- at a: an exception of the class cls, its dict d -/
def exk (a : Addr) (cls : Value) (d : Option Addr) : HO := .ext fun h => ∃ (ob : Obj) (fs : Array Value), h.get? a = some ob ∧ Zc cls d ob ∧ ob.data = .fields fs
theorem exk_ok {P : Program} {w : World} {H : Hp} {h : Heap} {a : Addr} {cls : Value} {d : Option Addr} {ob : Obj} {fs : Array Value} (e : h.get? a = some ob) (z : Zc cls d ob) (k : ob.data = .fields fs) : ObjOk P w H h a (exk a cls d) :=
  ⟨⟨ob, fs, e, z, k⟩, ⟨ob, e⟩, fun _ _ ⟨u, gs, q, r⟩ m => ⟨u, gs, m u q, r⟩⟩
theorem exk_at {P : Program} {w : World} {H : Hp} {h : Heap} {a : Addr} {cls : Value} {d : Option Addr} (all : HOk P w H h) (e : H a = some (exk a cls d)) : ∃ (ob : Obj) (fs : Array Value), h.get? a = some ob ∧ Zc cls d ob ∧ ob.data = .fields fs := by
  have here := all a _ e
  exact (show ObjOk P w H h a (.ext fun h => ∃ (ob : Obj) (fs : Array Value), h.get? a = some ob ∧ Zc cls d ob ∧ ob.data = .fields fs) from here).1
/-- an object that nobody followed is followed from now on: what was followed stands elsewhere -/
theorem upd_far {H : Hp} {a b : Addr} {o u : HO} (na : H a = none) (e : H b = some u) : upd H a o b = some u := by
  have far : b ≠ a := fun z => Option.some_ne_none u (e.symm.trans ((congrArg H z).trans na))
  exact (upd_ne far).trans e
theorem Inv_track {X : Cx} {pins : List (Addr × Obj)} {σ : L2.St} {H : Hp} {s : Shared} {a : Addr} {ob : Obj} {fs : Array Value} {o : HO} (I : Inv X pins σ H s) (ha : s.heap.get? a = some ob) (hd : ob.data = .fields fs) (na : H a = none)
    (n0 : X.s_0.heap.get? a = none) (nL : a ≠ X.env.locals) (np : ∀ p ∈ X.pn ++ pins, p.1 ≠ a) (ok : ObjOk X.prog X.w (upd H a o) s.heap a o) : Inv X pins σ (upd H a o) s := by
  have all : HOk X.prog X.w (upd H a o) s.heap := by
    intro b u e
    by_cases far : b = a
    · cases far
      cases upd_same.symm.trans e
      exact ok
    · exact (I.hok b u ((upd_ne far).symm.trans e)).stay (fun _ _ _ r => r) (fun _ r => upd_far na r) (fun _ _ r => upd_far na r)
  have noCell : ∀ x c, X.env.cells.lookup x = some c → c ≠ a := by
    intro x c e z
    obtain ⟨v, u, hu, du⟩ := I.cell x c e
    cases (congrArg s.heap.get? z).symm.trans hu |>.symm.trans ha
    exact Data.noConfusion (hd.symm.trans du)
  exact
    { ok := I.ok, os := I.os, bare := I.bare, loc := I.loc, cell := I.cell, len := I.len, hok := all
      free := (upd_ne nL.symm).trans I.free
      freeC := fun x c e => (upd_ne (noCell x c e)).trans (I.freeC x c e)
      pin := fun p hp => ⟨(I.pin p hp).1, (upd_ne (np p hp)).trans (I.pin p hp).2.1, (I.pin p hp).2.2⟩
      base :=
        { keep := I.base.keep, slot := I.base.slot, there := I.base.there
          free := fun b u e n x => (upd_ne fun z => Option.some_ne_none u (e.symm.trans ((congrArg X.s_0.heap.get? z).trans n0))).trans (I.base.free b u e n x)
          tups := fun b xs e => upd_far na (I.base.tups b xs e)
          frzs := fun b u xs e => upd_far na (I.base.frzs b u xs e)
          tbls := fun b ps e => (I.base.tbls b ps e).elim fun m r => ⟨m, upd_far na r⟩ } }
section
variable {X : Cx} {pins pins' : List (Addr × Obj)} {σ : L2.St} {H : Hp} {s : Shared} {a : Addr}
/-- into an except suite with nothing kept aside, and out of it -/
theorem Inv_suiteK (I : Inv X pins σ H s) (a : Addr) : Inv (X.suite a (X.pn ++ pins)) [] σ H s :=
  { ok := I.ok.suite a _, os := I.os, bare := I.bare, base := I.base, loc := I.loc, cell := I.cell, free := I.free, freeC := I.freeC, hok := I.hok, len := I.len
    pin := fun p hp => I.pin p ((List.append_nil (X.pn ++ pins)) ▸ hp) }
theorem Inv_unsuiteK (I : Inv (X.suite a (X.pn ++ pins)) pins' σ H s) (ok : X.Ok) : Inv X pins σ H s :=
  { ok := ok, os := I.os, bare := I.bare, base := I.base, loc := I.loc, cell := I.cell, free := I.free, freeC := I.freeC, hok := I.hok, len := I.len
    pin := fun p hp => I.pin p (List.mem_append.mpr (.inl hp)) }
/-- an end stands in another context as well -/
theorem sp_map {Y : Cx} {q : List (Addr × Obj)} {D : Ends} {f : Flow} (g : ∀ {σ H}, Inv X pins σ H s → Inv Y q σ H s) (x : SP X pins D f s) : SP Y q D f s := by
  cases f
  case ret => exact x.elim fun v x => x.elim fun σ x => x.elim fun H x => ⟨v, σ, H, g x.1, x.2⟩
  all_goals exact x.elim fun σ x => x.elim fun H x => ⟨σ, H, g x.1, x.2⟩
end
/-! ### a try with one clause, whatever the clause does -/
/-- an exception, at a, has fallen out of a try's body in the state sI; s' is the state in which it is looked at -/
structure Fell (X : Cx) (pins : List (Addr × Obj)) (B : Heap) (a : Addr) (σ : L2.St) (H : Hp) (sI s' : Shared) : Prop where
  was : Inv X pins σ H sI
  kept : ∀ b o, sI.heap.get? b = some o → b ∉ frs X.stack → B.get? b = some o
  unseen : H a = none
  world : s'.os = sI.os
  bare : AllBare s'.gens
/-- it flies through h -/
abbrev Air (X : Cx) (B : Heap) (a : Addr) (cls : Value) (d : Option Addr) (h : Heap) : Prop := HandSPX.FlyingZ B (X.env :: X.outer) a (Zc cls d) h
section
variable {X : Cx} {pins : List (Addr × Obj)} {B h : Heap} {a : Addr} {cls : Value} {d : Option Addr} {σ : L2.St} {H : Hp} {sI s' : Shared}
theorem Fell.stands (F : Fell X pins B a σ H sI s') (up : sI.heap.UpToSlots h) (air : Air X B a cls d h) : Inv X pins σ H { s' with heap := h } := F.was.landed F.kept air.1 up F.world F.bare
theorem Air.noFrame (air : Air X B a cls d h) : a ∉ frs (X.env :: X.outer) := by
  intro isOne
  obtain ⟨ob, fs, at_, _, isEx⟩ := air.there
  obtain ⟨_, u, hu, no⟩ := air.2.2.1.mem isOne
  cases hu.symm.trans at_
  exact no fs isEx
theorem Air.noLocals (air : Air X B a cls d h) (hf : X.env.frame = some X.env.locals) : a ≠ X.env.locals := by
  intro z
  refine air.noFrame ?_
  unfold frs
  rw [List.filterMap_cons, hf, z]
  exact List.mem_cons_self
theorem Air.type (air : Air X B a cls d h) : PySem.W.Looks (model X.prog X.w) h (typeOf (.ref a)) cls := by
  obtain ⟨ob, fs, at_, z, _⟩ := air.there
  intro A Q E s more q
  exact wpAny_typeOf_ref (more _ _ at_) (z.1.symm ▸ q)
/-- it is none of what stood at the entry, and nothing that is kept aside -/
theorem Fell.since (F : Fell X pins B a σ H sI s') (hs : X.stack = X.env :: X.outer) (hex : X.ex = []) (air : Air X B a cls d h) : X.s_0.heap.get? a = none := by
  refine Option.eq_none_iff_forall_ne_some.mpr fun o e => ?_
  obtain ⟨u, hu⟩ := F.was.base.there a o e (hex ▸ List.not_mem_nil)
  exact Option.some_ne_none u ((F.kept a u hu (hs ▸ air.noFrame)).symm.trans air.2.1)
theorem Fell.aside (F : Fell X pins B a σ H sI s') (air : Air X B a cls d h) : ∀ p ∈ X.pn ++ pins, p.1 ≠ a := by
  intro p hp z
  have P := F.was.pin p hp
  have b := F.kept p.1 p.2 P.1 fun isOne => (List.mem_cons.mp (F.was.stkSub p.1 isOne)).elim P.2.2.1 P.2.2.2.1
  exact Option.some_ne_none p.2 (b.symm.trans (z ▸ air.2.1))
/-- a class's name, read where the exception is looked at -/
theorem Fell.name (F : Fell X pins B a σ H sI s') (up : sI.heap.UpToSlots h) (air : Air X B a cls d h) {x : Str} {c : Value} {p : Pos} {Q : Value → Shared → Prop} {E : Value → Shared → Prop} (n : L2.Names X x c)
    (q : Q c { s' with heap := h }) : wpAny (model X.prog X.w) (X.A.mark (some (.ref a))) (eval (.Name x p) X.env) Q E { s' with heap := h } := by
  have I := Inv_suiteK (F.stands up air) a
  rcases n.2.2 with own | given
  · exact ld_glob (X := X.suite a (X.pn ++ pins)) I n.1 own q n.2.1
  · exact ld_blt (X := X.suite a (X.pn ++ pins)) I n.1 given.1 given.2.1 q given.2.2 n.2.1
/-- no clause is left: it flies on -/
theorem Fell.passes {D : Ends} {W : WX} (F : Fell X pins B a σ H sI s') (up : sI.heap.UpToSlots h) (air : Air X B a cls d h) (hs : X.stack = X.env :: X.outer) (hf : X.env.frame = some X.env.locals) (tk : L2.Takes X W) (w : W cls d σ H) :
    wpAny (model X.prog X.w) X.A (handleBy (.ref a) X.env []) (SP X pins D) X.xe { s' with heap := h } := by
  obtain ⟨_, _, _, ob, fs, T, _, _, at_, _, isEx, trace, _⟩ := id air
  have out : wpAny (model X.prog X.w) X.A (setFlight (.ref a) X.env.frame) (fun _ t => wpAny (model X.prog X.w) X.A (throw (.ref a) : Sem Flow) (SP X pins D) X.xe t) X.xe { s' with heap := h } :=
    hf.symm ▸ HandSPX.setFlight_upZ air fun h4 air4 up4 => wpAny_throw (tk _ _ ⟨a, B, sI, pins, σ, H, cls, d, rfl, F.was, F.kept, up.trans up4, .inr (.inr (hs.symm ▸ air4)), F.unseen, F.world, F.bare, w⟩)
  have some_ : ¬ ((Value.ref T == Value.none) = true) := by simp
  refine wpAny_handleBy_nil ?_
  unfold PySem.passOn
  refine wpAny_bind (wpAny_field at_ isEx trace ?_)
  rw [if_neg some_]
  first
    | exact wpAny_bind out
    | exact wpAny_bind (wpAny_pure (wpAny_bind out))
end
section
variable {X : Cx} {body : List Stmt} {hd : ExceptHandler} {pos : Pos} {tb : WX → TS} {W : Ends → WX}
/-- the rule: what the body lets fall is handled by the clause -/
theorem ps_try_by (hs : X.stack = X.env :: X.outer) (hf : X.env.frame = some X.env.locals)
    (hb : ∀ (V : WX) (pn : List (Addr × Obj)) (E : Value → Shared → Prop), L2.Takes (X.tr pn E) V → PassesOwn (model X.prog X.w) X.A X.env E → PSs (X.tr pn E) body (tb V))
    (hh : ∀ (pins : List (Addr × Obj)) (D : Ends) (B h : Heap) (a : Addr) (cls : Value) (d : Option Addr) (σ : L2.St) (H : Hp) (sI s' : Shared), X.Ok → Fell X pins B a σ H sI s' → sI.heap.UpToSlots h → Air X B a cls d h → W D cls d σ H →
      wpAny (model X.prog X.w) X.A (handleBy (.ref a) X.env [hd]) (SP X pins D) X.xe { s' with heap := h }) :
    PS X (.Try body [hd] [] [] pos) (fun D σ H => tb (W D) D σ H) := by
  refine ⟨fun pins s σ H D I h => wpAny_Try_except ?_⟩
  have looked : L2.Takes (X.tr (X.pn ++ pins) fun e t => wpAny (model X.prog X.w) X.A (noteFrame e X.env) (fun _ t => wpAny (model X.prog X.w) X.A (setFlight e none) (fun _ t => wpAny (model X.prog X.w) X.A (handleBy e X.env [hd]) (SP X pins D) X.xe t) X.xe t) X.xe t) (W D) := by
    rintro u s' ⟨a, B, sI, q, σ1, H1, cls, d, rfl, J, kept, up, sky, unseen, world, bare, w⟩
    refine Sky.land Zc.steady (I.ok.frames.trans (congrArg some hs)) hf (hs ▸ sky) fun h3 air up3 => ?_
    exact hh pins D B h3 a cls d σ1 H1 sI s' I.ok ⟨J.ofTry I.ok, kept, unseen, world, bare⟩ (up.trans up3) air w
  refine wpAny_mono ((hb (W D) (X.pn ++ pins) _ looked PassesOwn.looking).run [] s σ H D (I.toTry _) h) (fun f t x => ?_) (fun _ _ x => x)
  have x : SP X pins D f t := sp_map (fun J => J.ofTry I.ok) x
  cases f
  case next => exact wpAny_execs_nil x
  all_goals exact x
end
/-- what the clause wishes: the exception is followed -/
def wAsK (K : PySem.W.Frag) (c : Value) (i : Nat) (ts : TS) (Wout : WX) (D : Ends) : WX := fun cls d σ H =>
  ∃ b, PySem.W.exmOne K cls c = some b ∧ (b = true → ∀ a, H a = none → ts { nx := fun σ' H' => D.nx (σ'.set i none) H', rt := D.rt, bk := fun σ' H' => D.bk (σ'.set i none) H', ct := fun σ' H' => D.ct (σ'.set i none) H' } (σ.set i (some (.ref a))) (upd H a (exk a cls d))) ∧
    (b = false → Wout cls d σ H)
section
variable {X : Cx} {x n : Str} {c : Value} {i : Nat} {body suite : List Stmt} {b₀ : Stmt} {np pos pos' : Pos} {tb : WX → TS} {ts : TS} {Wout : WX}
theorem ps_try_asK (hs : X.stack = X.env :: X.outer) (hf : X.env.frame = some X.env.locals) (hex : X.ex = []) (hN : X.N.Nodup) (hi : X.N[i]? = some n) (hln : X.env.kindOf n = some .local) (hc : L2.Names X x c) (tk : L2.Takes X Wout)
    (hb : ∀ (W : WX) (pn : List (Addr × Obj)) (xe : Value → Shared → Prop), L2.Takes (X.tr pn xe) W → PassesOwn (model X.prog X.w) X.A X.env xe → PSs (X.tr pn xe) body (tb W))
    (hsu : ∀ (a : Addr) (pn : List (Addr × Obj)), PSs (X.suite a pn) (b₀ :: suite) ts) :
    PS X (.Try body [.ExceptHandler (some (.Name x np)) (some n) (b₀ :: suite) pos'] [] [] pos) (fun D σ H => tb (wAsK X.K c i ts Wout D) D σ H) := by
  refine ps_try_by (W := wAsK X.K c i ts Wout) hs hf hb ?_
  intro pins D B h a cls d σ H sI s' ok F up air ⟨b, asked, yes, no⟩
  refine wpAny_handleBy_cons (codeAny_handlers_test (F.name up air hc ?_)) nofun
  refine (PySem.W.exm_one (M := model X.prog X.w) (F.stands up air).kIn air.type asked).here ?_
  cases b
  · exact F.passes up air hs hf tk (no rfl)
  · refine codeAny_handlers_suite_as (HandSPX.lands_againZ air fun h4 air4 up4 => ?_)
    have air4 : Air X B a cls d h4 := air4
    obtain ⟨ob, fs, at_, z, isEx⟩ := air4.there
    have J := Inv_track (F.stands (up.trans up4) air4) at_ isEx F.unseen (F.since hs hex air4) (air4.noLocals hf) (F.aside air4) (exk_ok at_ z isEx)
    refine store_ok (X := X.suite a (X.pn ++ pins)) (v := .ref a) (Inv_suiteK J a) hN hi (.inl hln) rfl (fun t S => ?_) (.inr hln)
    refine wpAny_mono ((hsu a (X.pn ++ pins)).run [] t _ _ _ S (yes rfl a F.unseen)) (fun f t x => ?_) (fun _ _ no => no.elim)
    have gone : ∀ {σ5 : L2.St} {H5 : Hp} {Q : Shared → Prop}, Inv (X.suite a (X.pn ++ pins)) [] σ5 H5 t → (∀ t', Inv X pins (σ5.set i none) H5 t' → Q t') → wpAny (model X.prog X.w) X.A (do bindName X.env n .none; unbindBehindTheSuite X.env n pos') (fun _ t' => Q t') X.xe t :=
      fun S5 q => gone_ok (Inv_unsuiteK S5 ok) hN hi hln q
    cases f
    case ret => exact x.elim fun v x => x.elim fun σ5 x => x.elim fun H5 x => gone x.1 fun t' J5 => ⟨v, _, H5, J5, x.2⟩
    all_goals exact x.elim fun σ5 x => x.elim fun H5 x => gone x.1 fun t' J5 => ⟨_, H5, J5, x.2⟩
end
/-! ### isinstance, fields of a kept exception -/
/-- a class that answers isinstance rightly does so for its instances with fields as well -/
theorem exc_asked {K : PySem.W.Frag} {D x : Addr} {ox : Obj} {od : Option Obj} (C : ExcC K D) : PySem.W.KitX K (.ref x) (.ref D) (fun h => PySem.W.InstAt h x ox D od) :=
  PySem.W.kitx_exc ((PySem.W.any_some C.hd).elim fun _ r => by rw [r.1]; rfl) C.hg C.hk C.hs C.ha C.hn C.ht C.hm
/-- isinstance(e, c), e an exception that is kept; its fields stand at d -/
def rIsK (K : PySem.W.Frag) : List V → Hp → VK → Prop := fun xs H Q => ∃ (a D d : Addr) (fs : List (Str × V)) (c : V) (cv : Value) (b : Bool), xs = [.ref a, c] ∧ H a = some (exk a (.ref D) (some d)) ∧ H d = some (.xd fs) ∧ ExcC K D ∧ (∀ u, RelV c u → u = cv) ∧ PySem.W.kitOne K (.ref D) cv = some b ∧ Q (.bl b) H
theorem inst_of {X : Cx} {pins : List (Addr × Obj)} {σ : L2.St} {H : Hp} {s : Shared} {a D d : Addr} {fs : List (Str × V)} (I : Inv X pins σ H s) (ha : H a = some (exk a (.ref D) (some d))) (hd : H d = some (.xd fs)) :
    ∃ oe od mA, PySem.W.InstAt s.heap a oe D (some od) ∧ s.heap.Ns1 d mA ∧ (∀ f, RelO (fs.lookup f) (mA f)) ∧ ∀ n, PySem.W.lookIn n od = some (mA n) := by
  obtain ⟨mA, there, same⟩ := show ObjOk X.prog X.w H s.heap d (.xd fs) from I.hok d _ hd
  obtain ⟨od, atD, looks⟩ := lookIn_ns there
  obtain ⟨ob, vs, atA, z, isEx⟩ := exk_at I.hok ha
  have noClass : PySem.W.notCls ob = true := by
    unfold PySem.W.notCls
    rw [isEx]
  exact ⟨ob, od, mA, ⟨atA, z.1, noClass, z.2 ▸ atD⟩, there, same, looks⟩
theorem call_isK {X : Cx} : CallR X (.builtin "isinstance") (rIsK X.K) := by
  rintro pins s σ H _ us Q I r ⟨a, D, d, fs, c, cv, b, rfl, ha, hd, C, only, e, q⟩
  obtain ⟨ob, od, mA, J, _⟩ := inst_of I ha hd
  match us, r with
  | [_, t], .cons rfl (.cons rt .nil) =>
    cases only t rt
    exact PySem.W.kia_one (exc_asked C) I.kIn J e nofun fun _ => ⟨.bl b, H, I.kept fun _ _ z => z, rfl, q⟩
/-- e.f -/
def tXk (K : PySem.W.Frag) (f : Str) (te : TE) : TE := fun σ H Q => te σ H fun x H1 => ∃ (a C d : Addr) (fs : List (Str × V)) (v : V), x = .ref a ∧ H1 a = some (exk a (.ref C) (some d)) ∧ H1 d = some (.xd fs) ∧ XfC K C ∧ PySem.W.findIn K (.ref C) f = some none ∧ fs.lookup f = some v ∧ Q v H1
theorem pe_xk {X : Cx} {e : Expr} {te : TE} {pos : Pos} {n : Str} (he : PE X e te) (hb : attributeBase e n X.env (eval e X.env) = eval e X.env := by rfl) : PE X (.Attribute e n pos) (tXk X.K n te) := by
  constructor
  intro pins s σ H Q I h
  refine attr_of hb (thn (he.run pins s σ H _ I h) ?_)
  rintro u t ⟨_, H1, J, isRef, a, C, d, fs, v, rfl, ha, hd, T, own, at_, q⟩
  cases (show u = Value.ref a from isRef)
  obtain ⟨ob, od, mA, inst, _, same, looks⟩ := inst_of J ha hd
  obtain ⟨w, hw, rw_⟩ := RelO.some_of (v := v) (o := mA n) (at_ ▸ same n)
  have found : PySem.W.lookIn n od = some (some w) := (looks n).trans (congrArg some hw)
  exact HandSPX.exc_get J.kIn inst T.ga T.gg T.exC (PySem.W.findObj_own T.hdC own rfl found) (handed_of rw_) ⟨v, H1, J.tok _, rw_, q⟩
/-! ### Base.__init__(self, ..), Base an own class over ValueError without __init__ -/
section
variable {X : Cx} {e : Expr} {es : List Expr} {ta : TA} {p1 p2 pos : Pos}
theorem pe_binit {pl : Sem Bool} {B : Str} {CB : Addr} {mc : Value} (hg : Gl X B) (hm : X.mg B = some (.ref CB)) (hr : PySem.W.readsIn X.K CB mc = true) (ga : PySem.W.specialIn X.K (.ref CB) "__getattribute__" = some (some (.builtin "type.__getattribute__"))) (vV : PySem.W.findCls X.K (.ref CB) mc "__init__" = some (.val (.builtin "ValueError.__init__"))) (ha : PA X (e :: es) ta)
    (hdb : (B == ("__debug__" : Str)) = false := by decide)
    (hc : eval (.Call (.Attribute (.Name B p1) "__init__" p2) (e :: es) [] pos) X.env = (eval (.Name B p1) X.env >>= fun owner => standAt p2.atName >>= fun _ =>
      holding [owner] (getMethod owner "__init__" pl) >>= fun m => callWith pos m.1 m.2 (backTo pos (starEach (e :: es) X.env)) (backToKw pos (keywordEach [] X.env))) := by rfl)
    (hse : starEach (e :: es) X.env = (false, eval e X.env) :: starEach es X.env := by rfl) (hpl : (backTo pos (starEach es X.env)).any (·.1) = false := by rfl) :
    PE X (.Call (.Attribute (.Name B p1) "__init__" p2) (e :: es) [] pos) (tVeI X.K ta) := by
  constructor
  intro pins s σ H Q I h
  refine PySem.W.methodCall_KW (ld_glob I hg hm ?_ hdb) hc
  refine PySem.W.method_cls I.kIn ga (PySem.W.cls_value I.kIn hr vV (by decide +kernel) ?_)
  refine PyProof.Rows.callWith_method1 (thn (ha.run pos pins _ σ H _ (I.tok _) h) ?_) hse hpl
  rintro us t ⟨_, H1, J, r, a, C, ws, rfl, few, T, at_, q⟩
  match us, r with
  | _ :: ur, .cons rfl rs =>
    have fits : ur.length ≤ sizeLine := Nat.le_trans (Nat.le_of_eq (Paired.length rs).symm) (Nat.le_trans few (by rw [sizeLine_eq]; decide))
    exact oinit_ok T J at_ fits fun t' J' => ⟨.non, H1, J', rfl, q⟩
end
/-! ### a new exception of an own class, whose own __init__ is told -/
/-- the heap in which its __init__ begins -/
def exNew (h : Heap) (C : Addr) (us : List Value) : Heap := (h.push (PySem.W.kdv_tup us)).push (PySem.HandSPX.excO C h.objs.size)
theorem exNew_keeps {h : Heap} {C : Addr} {us : List Value} : ∀ b o, h.get? b = some o → (exNew h C us).get? b = some o := fun _ _ e => Heap.get?_push_of_some _ (Heap.get?_push_of_some _ e)
theorem exNew_at {h : Heap} {C : Addr} {us : List Value} : (exNew h C us).get? (h.objs.size + 1) = some (PySem.HandSPX.excO C h.objs.size) := by
  unfold exNew
  heap_get
theorem made_new {X : Cx} {CX : CXT} {C fI : Addr} {k : Nat} {fd : FuncData} {ps : List Str} {sp : Sp} {pins : List (Addr × Obj)} {σ : L2.St} {H : Hp} {s : Shared} {vs : List V} {us : List Value} {Q : VK} {R E : Value → Shared → Prop}
    (T : OexC X.K C) (iC : PySem.W.findIn X.K (.ref C) "__init__" = some (some (.ref fI))) (tI : PySem.W.typeIn X.K (.ref fI) = some (.type "function")) (F1 : FnOk X.prog X.w X.K X.mg X.base CX k fI fd ps sp) (room : Room (k + 1) X.A) (binds : Binds X.K fd ps [])
    (I : Inv X pins σ H s) (r : Vals vs us) (few : vs.length ≤ 1000) (q : sp (.ref (s.heap.objs.size + 1) :: vs) (upd H (s.heap.objs.size + 1) (exo (s.heap.objs.size + 1) C none)) Q (fun _ _ _ => False))
    (bad : ∀ er s', Inv X pins σ (upd H (s.heap.objs.size + 1) (exo (s.heap.objs.size + 1) C none)) { s with heap := exNew s.heap C us } →
      CX X.stack (upd H (s.heap.objs.size + 1) (exo (s.heap.objs.size + 1) C none)) { s with heap := exNew s.heap C us } (fun _ _ _ => False) er s' → E er s')
    (good : ∀ u s', Inv X pins σ (upd H (s.heap.objs.size + 1) (exo (s.heap.objs.size + 1) C none)) { s with heap := exNew s.heap C us } →
      CE X.stack X.prog X.w (upd H (s.heap.objs.size + 1) (exo (s.heap.objs.size + 1) C none)) { s with heap := exNew s.heap C us } Q u s' → u = .none ∧ R (.ref (s.heap.objs.size + 1)) s') :
    wpAny (model X.prog X.w) X.A (call (.ref C) us) R E s := by
  obtain ⟨nm, q0, N, bs, bm, sn, sub, ab, col, dd, k0, k1, k2, k3, k5, isCls, likes⟩ := T.cls
  obtain ⟨hp, gs, dr, tk, os⟩ := s
  have J : Inv X pins σ (upd H (hp.objs.size + 1) (exo (hp.objs.size + 1) C none)) ⟨exNew hp C us, gs, dr, tk, os⟩ := I.laid (t' := tk) exNew_keeps (Nat.le_succ _) (exo_ok exNew_at)
  have all : Vals (V.ref (hp.objs.size + 1) :: vs) (Value.ref (hp.objs.size + 1) :: us) := .cons rfl r
  have many : (Value.ref (hp.objs.size + 1) :: us ++ []).length = ps.length := (congrArg List.length (List.append_nil _)).trans (all.length.symm.trans (F1.len _ _ _ _ q))
  have fits : us.length ≤ sizeLine := Nat.le_trans (Nat.le_of_eq (Paired.length r).symm) (Nat.le_trans few (by rw [sizeLine_eq]; decide))
  have told := binds ⟨exNew hp C us, gs, dr, tk, os⟩ (Value.ref (hp.objs.size + 1) :: us) J.kIn many
  rw [List.append_nil] at told
  have runs := F1.run _ X.stack _ _ ⟨Value.ref (hp.objs.size + 1) :: us, []⟩ _ _ Q (fun _ _ _ => False) (room.make C us []) (J.env0.make C us []) told all q
  refine wpAny_call (PySem.HandSPX.call_own F.excBase_ValueError (fun Y => PySem.HandSPX.refsVE_contains Y bm likes) (I.kIn _ _ isCls) (PySem.W.looks_findIn I.kIn iC) (fun self => PySem.W.bind_fn I.kIn self tI) fits (codeAny_mono runs ?_))
  rintro (er | fl) s' after
  · exact bad er s' J after
  · cases fl
    case ret u => exact good u s' J after
    all_goals exact after.elim
/-! ### NoOffer -/
def clsBody (s : Stmt) : List Stmt := match s with
  | .ClassDef _ _ _ b _ _ _ _ _ _ _ => b
  | _ => []
abbrev s_ninit : Stmt := (clsBody (topS 2)).getD 0 (.Pass ⟨0, 0, 0, 0⟩)
theorem sc_ninit : FnScope ["self", "place"] ["self", "place"] (defScope s_ninit) := ⟨rfl, rfl, rfl, by decide +kernel, rfl, by decide +kernel, by decide +kernel⟩
/-- what the written part says of the refusal's class, at C, of its base, at CP, and of its __init__, at fI -/
structure Exs (K : PySem.W.Frag) (mg : Str → Option Value) (C CP fI : Addr) (fdI : FuncData) : Prop where
  gN : mg "NoOffer" = some (.ref C)
  gP : mg "PackError" = some (.ref CP)
  oex : OexC K C
  rP : PySem.W.readsIn K CP (.type "type") = true
  gaP : PySem.W.specialIn K (.ref CP) "__getattribute__" = some (some (.builtin "type.__getattribute__"))
  vP : PySem.W.findCls K (.ref CP) (.type "type") "__init__" = some (.val (.builtin "ValueError.__init__"))
  np : PySem.W.findIn K (.ref C) "place" = some none
  iC : PySem.W.findIn K (.ref C) "__init__" = some (some (.ref fI))
  tI : PySem.W.typeIn K (.ref fI) = some (.type "function")
  F : Fun K "__init__" "NoOffer.__init__" s_ninit fI fdI
  b : Binds K fdI ["self", "place"] []
  exc : ExcC K C
  xf : XfC K C
theorem lt100_log {n : Nat} (h : n < 100) : ((n : Nat) : Int).natAbs.log2 < 1920 := by
  have h1 : n < 2 ^ 7 := Nat.lt_trans h (by decide)
  rw [Int.natAbs_natCast]
  by_cases z : n = 0
  · rw [z]
    decide
  · have := (Nat.log2_lt z).mpr h1
    omega
theorem lt100_len {n : Nat} (h : n < 100) : (Str.ofString (toString ((n : Nat) : Int))).length ≤ 2 := by
  have : ∀ n, n < 100 → (Str.ofString (toString ((n : Nat) : Int))).length ≤ 2 := by decide +kernel
  exact this n h
theorem strE_len (x y : Str) : (x ++ y).length = x.length + y.length := by
  show (x ++ y).cps.size = x.cps.size + y.cps.size
  rw [Str.cps_append, Array.size_append]
def tJoinedE (ts : List TE) : TE := fun σ H Q => tJs ts Str.empty σ H fun out H1 => Q (.str out) H1
theorem pe_joinedE {X : Cx} {v1 v2 : Expr} {rest : List Expr} {ts : List TE} {pos : Pos} (h : PJ X (v1 :: v2 :: rest) ts) : PE X (.JoinedStr (v1 :: v2 :: rest) pos) (tJoinedE ts) := pe_joined h
def sp_ninit (C : Addr) : Sp := fun vs H Q _ => ∃ (a : Addr) (n : Nat), vs = [.ref a, .int n] ∧ n < 100 ∧ H a = some (exo a C none) ∧ ∀ dx, H dx = none → dx ≠ a → Q .non (upd (upd H dx (exd dx [("place", .int n)])) a (exo a C (some dx)))
/-- a made refusal's heap -/
theorem made_heap {H : Hp} {a dx : Addr} {fs : List (Str × V)} {C : Addr} (ha : H a = none) (hd : H dx = none) (ne : dx ≠ a) : upd (del (upd (upd (upd H a (exo a C none)) dx (exd dx fs)) a (exo a C (some dx))) a) dx (.xd fs) = upd H dx (.xd fs) := by
  funext b
  by_cases h1 : b = dx
  · rw [h1, upd_same, upd_same]
  · rw [upd_ne h1, upd_ne h1]
    by_cases h2 : b = a
    · rw [h2, del_same, ha]
    · rw [del_ne h2, upd_ne h2, upd_ne h1, upd_ne h2]
section
variable {P : Program} {w : World} {K : PySem.W.Frag} {mg : Str → Option Value} {base : Heap} {T : List Addr} {C CP fI : Addr} {fdI : FuncData}
theorem ok_ninit {k : Nat} (X : Exs K mg C CP fI fdI) : FnOk P w K mg base CX0 (k + 1) fI fdI ["self", "place"] (sp_ninit C) := by
  refine X.F.ok sc_ninit (fun vs H Q E h => ?_) (fun cdv A outer s H vs Q E hr h => ?_)
  · obtain ⟨a, n, rfl, _⟩ := h
    rfl
  · obtain ⟨a, n, rfl, hn, ha, q⟩ := h
    refine ⟨_, pss_cons (ps_expr (pe_binit (by rfl) X.gP X.rP X.gaP X.vP (pa_cons (pv 0) (pa_cons (pe_joinedE (.cons pe_str (.cons (pe_fmt (pv 1)) (.cons pe_str .nil)))) pa_nil)))) (pss_one (ps_ost (pv 0) (pv 1))), ?_⟩
    have ln := lt100_len hn
    refine ⟨_, rfl, _, rfl, by decide +kernel, _, rfl, .inr ⟨_, rfl, lt100_log hn, _, rfl, ?_, _, rfl, ?_, ?_⟩⟩
    · rw [strE_len, strE_len]
      exact Nat.le_trans (Nat.add_le_add_left ln _) (by decide +kernel)
    · rw [strE_len, strE_len, strE_len]
      exact Nat.le_trans (Nat.add_le_add_right (Nat.add_le_add_left ln _) _) (by decide +kernel)
    · refine ⟨a, C, _, rfl, by show 1 ≤ 1000; decide, X.oex, ha, ?_⟩
      exact ⟨_, rfl, _, rfl, a, C, rfl, X.oex, X.np, .inl ⟨ha, fun dx nd ne => q dx nd ne⟩⟩
end
/-! ### names_pack, good_tiers, can_stand, look: of any shop -/
abbrev s_names_pack : Stmt := topS 10
abbrev N_names_pack : List Str := ["shop", "at", "place"]
theorem sc_names_pack : FnScope N_names_pack ["shop", "at"] (defScope s_names_pack) := ⟨rfl, rfl, rfl, by decide +kernel, rfl, by decide +kernel, by decide +kernel⟩

abbrev s_good_tiers : Stmt := topS 11
abbrev N_good_tiers : List Str := ["tiers", "begins", "begin", "price", "low", "high"]
theorem sc_good_tiers : FnScope N_good_tiers ["tiers"] (defScope s_good_tiers) := ⟨rfl, rfl, rfl, by decide +kernel, rfl, by decide +kernel, by decide +kernel⟩

abbrev s_can_stand : Stmt := topS 12
abbrev N_can_stand : List Str := ["shop", "at", "kind"]
theorem sc_can_stand : FnScope N_can_stand ["shop", "at"] (defScope s_can_stand) := ⟨rfl, rfl, rfl, by decide +kernel, rfl, by decide +kernel, by decide +kernel⟩

abbrev s_look : Stmt := topS 13
abbrev N_look : List Str := ["shop", "at"]
theorem sc_look : FnScope N_look ["shop"] (defScope s_look) := ⟨rfl, rfl, rfl, by decide +kernel, rfl, by decide +kernel, by decide +kernel⟩

def packB (os : List Ofr) (j : Nat) : Bool := match os[j]? with
  | some (.pack _ _) => true
  | _ => false
def namesB (os : List Ofr) (i : Nat) (k : Int) : Bool := decide (0 ≤ k) && decide (k < (i : Int)) && packB os k.toNat
def begs (ts : List (Int × Int)) : List Int := ts.map (·.1)
def riseB (bs : List Int) : Bool := (List.range (min bs.length (bs.drop 1).length)).all fun i => decide (bs.getD i 0 < (bs.drop 1).getD i 0)
def goodB (ts : List (Int × Int)) : Bool := decide (1 ≤ ts.length) && decide (ts.length ≤ 4) && decide ((begs ts).getD 0 0 = 1) && decide ((begs ts).getD (ts.length - 1) 0 ≤ 12) && riseB (begs ts)
def standO (os : List Ofr) (i : Nat) : Ofr → Bool
  | .add _ _ k => namesB os i k
  | .many _ ts => goodB ts
  | .pack _ _ => true
def standB (os : List Ofr) (i : Nat) : Bool := match os[i]? with
  | some o => standO os i o
  | none => true
def firstBad (os : List Ofr) : Option Nat := (List.range os.length).find? fun i => !standB os i
def SizeO (n : Nat) (os : List Ofr) : Prop := ∀ c ts, Ofr.many c ts ∈ os → ts.length ≤ n
theorem standB_at {os : List Ofr} {i : Nat} {o : Ofr} (h : os[i]? = some o) : standB os i = standO os i o := by
  unfold standB
  rw [h]
def sp_names_pack : Sp := fun vs H Q _ => ∃ (a : Addr) (os : List Ofr) (i : Nat) (c : List Int) (p k : Int), vs = [.ref a, .int i] ∧ ShopAt H a os ∧ os[i]? = some (.add c p k) ∧ Q (.bl (namesB os i k)) H
def sp_good_tiers (T : List Addr) : Sp := fun vs H Q _ => ∃ (a : Addr) (ts : List (Int × Int)), vs = [.ref a] ∧ TiersAt H a ts ∧ ts.length ≤ 1000 ∧ Tb T H ∧ ∀ H', Ext T H H' → Q (.bl (goodB ts)) H'
def sp_can_stand (T : List Addr) : Sp := fun vs H Q _ => ∃ (a : Addr) (os : List Ofr) (i : Nat), vs = [.ref a, .int i] ∧ ShopAt H a os ∧ SizeO 1000 os ∧ i < os.length ∧ Tb T H ∧ ∀ H', Ext T H H' → Q (.bl (standB os i)) H'
def sp_look (C : Addr) (T : List Addr) : Sp := fun vs H Q E => ∃ (a : Addr) (os : List Ofr), vs = [.ref a] ∧ ShopAt H a os ∧ SizeO 1000 os ∧ os.length ≤ 99 ∧ Tb T H ∧ (firstBad os = none → ∀ H', Ext T H H' → Q .non H') ∧
  ∀ n, firstBad os = some n → ∀ H' d, Ext T H H' → H d = none → H' d = some (.xd [("place", .int (n : Nat))]) → E (.ref C) (some d) H'
theorem find_range_none {p : Nat → Bool} {n : Nat} (h : ∀ i, i < n → p i = false) : (List.range n).find? p = none := by
  rw [List.find?_eq_none]
  intro i hi
  rw [h i (List.mem_range.mp hi)]
  decide
theorem find_range_some {p : Nat → Bool} : ∀ {n i : Nat}, i < n → (∀ j, j < i → p j = false) → p i = true → (List.range n).find? p = some i
  | n + 1, i, hi, h, hp => by
    rw [List.range_succ, List.find?_append]
    by_cases z : i < n
    · rw [find_range_some z h hp]
      rfl
    · have e : i = n := by omega
      subst e
      rw [find_range_none h]
      simp [hp]
section
variable {P : Program} {w : World} {K : PySem.W.Frag} {mg : Str → Option Value} {base : Heap} {T : List Addr}
theorem ok_names_pack {f : Addr} {fd : FuncData} {k : Nat} (D : Def K mg "names_pack" s_names_pack ["shop", "at"] f fd) : FnOk P w K mg base CX0 (k + 1) f fd ["shop", "at"] sp_names_pack := by
  refine D.F.ok sc_names_pack (fun vs H Q E h => ?_) (fun cdv A outer s H vs Q E hr h => ?_)
  · obtain ⟨a, os, i, c, p, k, rfl, _⟩ := h
    rfl
  · obtain ⟨a, os, i, c, p, k, rfl, ⟨vs, h1, h2, h3⟩, hi, q⟩ := h
    have li : i < os.length := (List.getElem?_eq_some_iff.mp hi).1
    obtain ⟨v, o, g1, g2, g3⟩ := ShopAt.get (H := H) (a := a) h2 li
    cases Option.some.inj (g2.symm.trans hi)
    obtain ⟨b, hb, _⟩ := h3 i v _ g1 g2
    refine ⟨_, (pss_cons (ps_set (i := 2) sc_names_pack.nd rfl (Or.inl rfl) (pe_ix ix_tup (pe_ix ix_list (pv 0) (pv 1) (fun _ _ => rfl)) pe_int (fun _ _ => rfl)))
  (pss_one (ps_ret (pe_and (pe_chain op_le op_lt pe_int (pv 2) (pv 1)) (pe_one (pe_cmpR op_eq (pe_ix ix_tup (pe_ix ix_list (pv 0) (pv 2) (fun _ _ => rfl)) pe_int (fun _ _ => rfl)) pe_str (nomark _))))))), ?_⟩
    refine ⟨_, rfl, _, rfl, a, _, _, _, rfl, rfl, SqL.of h1, atI_nat g3, v, _, _, _, rfl, rfl, SqT.of hb, atI_nat (j := 3) rfl, ?_⟩
    unfold namesB at q
    by_cases k0 : 0 ≤ k
    · rw [decide_eq_true k0, Bool.true_and] at q
      by_cases k1 : k < (i : Int)
      · rw [decide_eq_true k1, Bool.true_and] at q
        obtain ⟨j, rfl⟩ := Int.eq_ofNat_of_zero_le k0
        obtain ⟨v', o', g4, g5, g6⟩ := ShopAt.get (H := H) (a := a) h2 (show j < os.length by omega)
        obtain ⟨b', r', hb', _⟩ := (h3 j v' o' g4 g5).head
        refine ⟨_, rfl, _, _, rfl, rfl, true, (by show V.bl _ = V.bl _; rw [decide_eq_true k0]), _, rfl, _, _, rfl, rfl, true, (by show V.bl _ = V.bl _; rw [decide_eq_true k1]), ?_⟩
        refine ⟨_, rfl, _, rfl, a, _, _, _, rfl, rfl, SqL.of h1, atI_nat g6, v', _, _, _, rfl, rfl, SqT.of hb', atI_nat (j := 0) rfl, rfl, ?_⟩
        rw [Int.toNat_natCast] at q
        unfold packB at q
        rw [g5] at q
        cases o' with
        | pack c' p' => exact q
        | many c' ts' => exact q
        | add c' p' k' => exact q
      · rw [decide_eq_false k1, Bool.false_and] at q
        exact ⟨_, rfl, _, _, rfl, rfl, true, (by show V.bl _ = V.bl _; rw [decide_eq_true k0]), _, rfl, _, _, rfl, rfl, false, (by show V.bl _ = V.bl _; rw [decide_eq_false k1]), q⟩
    · rw [decide_eq_false k0, Bool.false_and, Bool.false_and] at q
      exact ⟨_, rfl, _, _, rfl, rfl, false, (by show V.bl _ = V.bl _; rw [decide_eq_false k0]), false, rfl, q⟩
theorem ok_good_tiers {f c t : Addr} {fd : FuncData} {k : Nat} (M : Names mg) (D : Def K mg "good_tiers" s_good_tiers ["tiers"] f fd) (hc : fd.code = .ref c) (TB : GxR.TabB base mg c t) (ht : t ∈ T) : FnOk P w K mg base CX0 (k + 1) f fd ["tiers"] (sp_good_tiers T) := by
  obtain ⟨t4, m_MOST_TIERS⟩ := M.c_MOST_TIERS
  obtain ⟨t12, m_MOST_PIECES⟩ := M.c_MOST_PIECES
  refine okc D.F hc sc_good_tiers (fun vs H Q E h => ?_) (fun cdv A outer s H vs Q E ec hr h => ?_)
  · obtain ⟨a, ts, rfl, _⟩ := h
    rfl
  · obtain ⟨a, ts, rfl, ⟨us, h1, h2, h3⟩, l1000, hT, q⟩ := h
    refine ⟨_, (pss_cons (ps_setLc (i := 1) (own := [("begin", 2), ("price", 3)]) (by rfl) sc_good_tiers.nd rfl rfl (sw_true rfl rfl rfl (by decide +kernel)) (pi_list (pv 0)) (blkOk_by (own := [("begin", 2), ("price", 3)]) (N := N_good_tiers) (sc := defScope s_good_tiers) (by decide +kernel)) (fun _ _ _ _ _ => (pg_tupK (K := K) (n := 2) rfl rfl (pgs_cons (pg_name (i := 2) sc_good_tiers.nd rfl (Or.inl rfl)) (pgs_cons (pg_name (i := 3) sc_good_tiers.nd rfl (Or.inl rfl)) pgs_nil)))) (fun _ _ _ _ _ => pts_nil) (fun _ _ _ _ _ => (pv 2)))
  (pss_cons (ps_if (pt_not (pt_chain op_le op_le pe_int (pe_callB call_len_seq (by rfl) M.len (by decide +kernel) (pa_cons (pv 1) pa_nil)) (pe_glob (v := .int 4) (by rfl) m_MOST_TIERS ⟨_, rfl⟩)))
   (pss_one (ps_ret pe_bl))
   pss_nil)
  (pss_cons (ps_if (PW.pt (pw_or (pt_cmpR op_ne (pe_ix ix_list (pv 1) pe_int (fun _ _ => rfl)) pe_int (nomark _)) (pw_or1 (pt_cmpR op_gt (pe_ix ix_list (pv 1) (pe_un un_neg pe_int) (fun _ _ => rfl)) (pe_glob (v := .int 12) (by rfl) m_MOST_PIECES ⟨_, rfl⟩) (nomark _)))))
   (pss_one (ps_ret pe_bl))
   pss_nil)
  (pss_one (ps_ret (pe_allZip hr (by rfl) M.all (by decide +kernel) (by rfl) M.zip TB ec ⟨rfl, rfl, by decide +kernel, rfl, rfl, rfl, by decide, (by show ∀ y : Str × NameKind, y ∈ _ → y.2 = .free → (defScope s_good_tiers).names.lookup y.1 = some .cell; decide +kernel)⟩ (pv 1) (pe_slice sl_list (pv 1) (po_some pe_int) po_none) (by decide) (by decide))))))), ?_⟩
    refine ⟨_, rfl, a, rfl, ⟨_, SqL.of h1⟩, fun B nB => lc_list (xs := us.map V.ref) (fun i H' => Same H H' ∧ H' B = some (LI ((ts.take i).map (·.1)))) ⟨same_upd nB, upd_same⟩ (fun i H' _ hp => SqL.of (hp.1 _ _ h1)) (fun i x H1 hx hp => ?_) (fun H1 hp => ?_)⟩
    · obtain ⟨s1, hB⟩ := hp
      rw [List.getElem?_map] at hx
      cases hu : us[i]? with
      | none => rw [hu] at hx; cases hx
      | some u =>
        rw [hu] at hx
        cases Option.some.inj hx
        have hi : i < ts.length := by
          have := (List.getElem?_eq_some_iff.mp hu).1
          omega
        have gt := List.getElem?_eq_getElem hi
        refine ⟨u, _, rfl, SqT.of (s1 _ _ (h3 i u _ hu gt)), rfl, _, _, rfl, _, _, rfl, rfl, rfl, _, rfl, _, hB, szL' (by rw [List.length_map, List.length_map, List.length_take]; omega), sm_new s1 nB, ?_⟩
        rw [take_succ_at gt, List.map_append]
        exact at_app
    · obtain ⟨s1, hB⟩ := hp
      rw [List.length_map, h2, List.take_length] at hB
      have hB : H1 B = some (LI (begs ts)) := hB
      have lbs : (begs ts).length = ts.length := List.length_map ..
      have hE : Ext T H H1 := .same s1 hT
      unfold goodB at q
      by_cases c1 : 1 ≤ ts.length
      · by_cases c2 : ts.length ≤ 4
        · rw [decide_eq_true c1, decide_eq_true c2, Bool.true_and, Bool.true_and] at q
          refine ⟨_, rfl, B, _, rfl, .inl (SqL.of hB), _, _, rfl, rfl, true, (by show V.bl _ = V.bl _; rw [decide_eq_true (by rw [List.length_map, lbs]; omega)]), _, _, rfl, rfl, true, (by show V.bl _ = V.bl _; rw [decide_eq_true (by rw [List.length_map, lbs]; omega)]), ?_⟩
          have k2 : (begs ts)[0]? = some ((begs ts).getD 0 0) := by rw [List.getD_eq_getElem?_getD, List.getElem?_eq_getElem (by omega)]; rfl
          have k4 : (begs ts)[ts.length - 1]? = some ((begs ts).getD (ts.length - 1) 0) := by rw [List.getD_eq_getElem?_getD, List.getElem?_eq_getElem (by omega)]; rfl
          generalize (begs ts).getD 0 0 = b0 at q k2
          generalize (begs ts).getD (ts.length - 1) 0 = b1 at q k4
          by_cases c3 : b0 = 1
          · rw [decide_eq_true c3, Bool.true_and] at q
            refine ⟨_, rfl, B, _, _, _, rfl, rfl, SqL.of hB, atI_nat (j := 0) (get_ints k2), rfl, _, rfl, iteNS (by rw [c3]) ?_⟩
            have hneg : atI ((begs ts).map V.int) (-1) = some (.int b1) := by
              have e : (begs ts).map V.int = ((begs ts).map V.int).take (ts.length - 1) ++ [.int b1] := by
                rw [← take_succ_at (get_ints k4), show ts.length - 1 + 1 = ts.length by omega]
                exact (List.take_of_length_le (by rw [List.length_map, lbs]; exact Nat.le_refl _)).symm
              rw [e]
              exact atI_last _ _
            refine ⟨_, rfl, 1, rfl, B, _, -1, _, rfl, rfl, SqL.of hB, hneg, _, _, rfl, rfl, _, rfl, ?_⟩
            by_cases c4 : b1 ≤ 12
            · rw [decide_eq_true c4, Bool.true_and] at q
              rw [decide_eq_false (by omega)]
              refine ⟨_, rfl, _, rfl, 1, rfl, B, _, rfl, SqL.of hB, fun z nz => ⟨B, z, begs ts, (begs ts).drop 1, rfl, rfl, SqL.of ((same_upd nz) _ _ hB), SqL.of (by rw [upd_same]; congr 2; rw [List.map_drop]; exact cut1 _), (hE.new (s1.free nz)).t1 t ht, fun H3 t3 => ?_⟩⟩
              exact q H3 ((hE.new (s1.free nz)).trans (.tabbed (hE.new (s1.free nz)).t1 t3 ht))
            · rw [decide_eq_false c4, Bool.false_and] at q
              rw [decide_eq_true (by omega)]
              exact q H1 hE
          · rw [decide_eq_false c3, Bool.false_and, Bool.false_and] at q
            refine ⟨_, rfl, B, _, _, _, rfl, rfl, SqL.of hB, atI_nat (j := 0) (get_ints k2), rfl, true, ?_, q H1 hE⟩
            show V.bl (!decide (V.int b0 = V.int 1)) = V.bl true
            rw [decide_eq_false (fun z => c3 (V.int.inj z))]
            rfl
        · rw [decide_eq_false c2, Bool.and_false, Bool.false_and, Bool.false_and, Bool.false_and] at q
          exact ⟨_, rfl, B, _, rfl, .inl (SqL.of hB), _, _, rfl, rfl, true, (by show V.bl _ = V.bl _; rw [decide_eq_true (by rw [List.length_map, lbs]; omega)]), _, _, rfl, rfl, false, (by show V.bl _ = V.bl _; rw [decide_eq_false (by rw [List.length_map, lbs]; omega)]), q H1 hE⟩
      · rw [decide_eq_false c1, Bool.false_and, Bool.false_and, Bool.false_and, Bool.false_and] at q
        exact ⟨_, rfl, B, _, rfl, .inl (SqL.of hB), _, _, rfl, rfl, false, (by show V.bl _ = V.bl _; rw [decide_eq_false (by rw [List.length_map, lbs]; omega)]), false, rfl, q H1 hE⟩
theorem ok_can_stand {f f1 f2 c t : Addr} {fd fd1 fd2 : FuncData} {k : Nat} (M : Names mg) (D : Def K mg "can_stand" s_can_stand ["shop", "at"] f fd) (D_names_pack : Def K mg "names_pack" s_names_pack ["shop", "at"] f1 fd1) (D_good_tiers : Def K mg "good_tiers" s_good_tiers ["tiers"] f2 fd2)
    (hc : fd2.code = .ref c) (TB : GxR.TabB base mg c t) (ht : t ∈ T) : FnOk P w K mg base CX0 (k + 2) f fd ["shop", "at"] (sp_can_stand T) := by
  have G_names_pack : FnOk P w K mg base CX0 (k + 1) f1 fd1 ["shop", "at"] sp_names_pack := ok_names_pack D_names_pack
  have G_good_tiers : FnOk P w K mg base CX0 (k + 1) f2 fd2 ["tiers"] (sp_good_tiers T) := ok_good_tiers M D_good_tiers hc TB ht
  refine D.F.ok sc_can_stand (fun vs H Q E h => ?_) (fun cdv A outer s H vs Q E hr h => ?_)
  · obtain ⟨a, os, i, rfl, _⟩ := h
    rfl
  · obtain ⟨a, os, i, rfl, ⟨vs, h1, h2, h3⟩, sz, hi, hT, q⟩ := h
    obtain ⟨v, o, g1, g2, g3⟩ := ShopAt.get (H := H) (a := a) h2 hi
    have ho := h3 i v o g1 g2
    rw [standB_at g2] at q
    refine ⟨_, (pss_cons (ps_set (i := 2) sc_can_stand.nd rfl (Or.inl rfl) (pe_ix ix_tup (pe_ix ix_list (pv 0) (pv 1) (fun _ _ => rfl)) pe_int (fun _ _ => rfl)))
  (pss_cons (ps_if (pt_cmpR op_eq (pv 2) pe_str (nomark _))
   (pss_one (ps_ret (pe_call G_names_pack hr (by rfl) D_names_pack.g D_names_pack.F.kp D_names_pack.b .nil pass0 (pa_cons (pv 0) (pa_cons (pv 1) pa_nil)))))
   pss_nil)
  (pss_cons (ps_if (pt_cmpR op_eq (pv 2) pe_str (nomark _))
   (pss_one (ps_ret (pe_call G_good_tiers hr (by rfl) D_good_tiers.g D_good_tiers.F.kp D_good_tiers.b .nil pass0 (pa_cons (pe_ix ix_tup (pe_ix ix_list (pv 0) (pv 1) (fun _ _ => rfl)) pe_int (fun _ _ => rfl)) pa_nil))))
   pss_nil)
  (pss_one (ps_ret pe_bl))))), ?_⟩
    cases o with
    | pack c p =>
      obtain ⟨b, hb, _⟩ := ho
      refine ⟨_, rfl, _, rfl, a, _, _, _, rfl, rfl, SqL.of h1, atI_nat g3, v, _, _, _, rfl, rfl, SqT.of hb, atI_nat (j := 0) rfl, ?_⟩
      refine ⟨_, rfl, rfl, false, rfl, ?_⟩
      refine ⟨_, rfl, rfl, false, rfl, ?_⟩
      exact q H (.refl hT)
    | many c ts =>
      obtain ⟨b, t', hb, _, hts⟩ := ho
      refine ⟨_, rfl, _, rfl, a, _, _, _, rfl, rfl, SqL.of h1, atI_nat g3, v, _, _, _, rfl, rfl, SqT.of hb, atI_nat (j := 0) rfl, ?_⟩
      refine ⟨_, rfl, rfl, false, rfl, ?_⟩
      refine ⟨_, rfl, rfl, true, rfl, ?_⟩
      exact ⟨_, rfl, _, rfl, a, _, _, _, rfl, rfl, SqL.of h1, atI_nat g3, v, _, _, _, rfl, rfl, SqT.of hb, atI_nat (j := 2) rfl, t', ts, rfl, hts, sz c ts (List.mem_of_getElem? g2), hT, q⟩
    | add c p kk =>
      obtain ⟨b, hb, _⟩ := ho
      refine ⟨_, rfl, _, rfl, a, _, _, _, rfl, rfl, SqL.of h1, atI_nat g3, v, _, _, _, rfl, rfl, SqT.of hb, atI_nat (j := 0) rfl, ?_⟩
      refine ⟨_, rfl, rfl, true, rfl, ?_⟩
      exact ⟨_, rfl, _, rfl, a, os, i, c, p, kk, rfl, ⟨vs, h1, h2, h3⟩, g2, q H (.refl hT)⟩
theorem ok_look {f f0 f1 f2 c t C CP fI : Addr} {fd fd0 fd1 fd2 fdI : FuncData} {k : Nat} (M : Names mg) (X : Exs K mg C CP fI fdI) (D : Def K mg "look" s_look ["shop"] f fd) (D_can_stand : Def K mg "can_stand" s_can_stand ["shop", "at"] f0 fd0) (D_names_pack : Def K mg "names_pack" s_names_pack ["shop", "at"] f1 fd1) (D_good_tiers : Def K mg "good_tiers" s_good_tiers ["tiers"] f2 fd2)
    (hc : fd2.code = .ref c) (TB : GxR.TabB base mg c t) (ht : t ∈ T) : FnOk P w K mg base (L2.CX P w) (k + 3) f fd ["shop"] (sp_look C T) := by
  have G_can_stand : FnOk P w K mg base CX0 (k + 2) f0 fd0 ["shop", "at"] (sp_can_stand T) := ok_can_stand M D_can_stand D_names_pack D_good_tiers hc TB ht
  have GI : FnOk P w K mg base CX0 (k + 1) fI fdI ["self", "place"] (sp_ninit C) := ok_ninit X
  refine D.F.okX sc_look (fun vs H Q E h => ?_) (fun cdv A outer s H vs Q E hr h => ?_)
  · obtain ⟨a, os, rfl, _⟩ := h
    rfl
  · obtain ⟨a, os, rfl, hS, sz, l99, hT, q, qE⟩ := h
    obtain ⟨vs, h1, h2, h3⟩ := id hS
    refine ⟨_, pss_one (ps_for (passes_of rfl) rfl (pi_range1 (by rfl) M.range (pa_cons (pe_callB call_len_seq (by rfl) M.len (by decide +kernel) (pa_cons (pv 0) pa_nil)) pa_nil)) (pg_name (i := 1) sc_look.nd rfl (Or.inl rfl))
      (pss_one (ps_if (pt_not (pt_val (pe_call G_can_stand hr (by rfl) D_can_stand.g D_can_stand.F.kp D_can_stand.b .nil pass0 (pa_cons (pv 0) (pa_cons (pv 1) pa_nil)))))
        (pss_one (ps_raise rfl (takes_of rfl rfl rfl rfl) (pmk_oex X.oex X.iC X.tI GI hr X.b .nil pass0 (by rfl) X.gN (pa_cons (pv 1) pa_nil))))
        pss_nil))), ?_⟩
    refine ⟨_, rfl, a, _, rfl, .inl (SqL.of h1), _, rfl, by omega, by rw [List.length_map]; omega, for_range (n := (((vs.map V.ref).length : Nat) : Int).toNat) (fun i σ H' => ∃ y1, σ = [some (.ref a), y1] ∧ Ext T H H' ∧ ∀ j, j < i → standB os j = true) ⟨none, rfl, .refl hT, fun j hj => absurd hj (Nat.not_lt_zero _)⟩ (fun i σ H1 hi hp => ?_) (fun σ H1 hp => ?_)⟩
    · obtain ⟨y1, rfl, e1, all⟩ := hp
      rw [Int.toNat_natCast, List.length_map, h2] at hi
      refine ⟨_, rfl, _, rfl, a, os, i, by show [V.ref a, V.int (0 + (i : Int))] = _; rw [Int.zero_add], hS.ext e1, sz, hi, e1.t1, fun H2 e2 => ?_⟩
      have E2 := e1.trans e2
      cases hb : standB os i with
      | true =>
        refine ⟨true, rfl, _, rfl, E2, fun j hj => ?_⟩
        by_cases z : j = i
        · rw [z]
          exact hb
        · exact all j (by omega)
      | false =>
        have fb : firstBad os = some i := find_range_some hi (fun j hj => by rw [all j hj]; rfl) (by rw [hb]; rfl)
        refine ⟨false, rfl, _, rfl, by show 1 ≤ 1000; decide, fun x nx => ?_⟩
        refine ⟨x, i, by show [V.ref x, V.int (0 + (i : Int))] = _; rw [Int.zero_add], by omega, upd_same, fun dx nd ne => ⟨rfl, dx, [("place", .int (i : Nat))], upd_same, ?_, ?_, ?_⟩⟩
        · rw [upd_ne ne, upd_same]
        · rw [upd_ne ne] at nd
          exact nd
        · rw [upd_ne ne] at nd
          rw [made_heap nx nd ne]
          exact qE i fb _ dx (E2.new (E2.free _ nd)) (E2.free _ nd) upd_same
    · obtain ⟨y1, rfl, e1, all⟩ := hp
      rw [Int.toNat_natCast, List.length_map, h2] at all
      exact q (find_range_none fun i hi => by rw [all i hi]; rfl) H1 e1
end
/-! ### defs that refuse a shop -/
section
variable {X : Cx}
/-- what is never reached -/
theorem pe_never {e : Expr} : PE X e (fun _ _ _ => False) := ⟨fun _ _ _ _ _ _ h => h.elim⟩
theorem pa_never {es : List Expr} : PA X es (fun _ _ _ => False) := ⟨fun _ _ _ _ _ _ _ h => h.elim⟩
/-- a statement that is not left but by a return or a refusal -/
theorem pss_dead {st : Stmt} {rest : List Stmt} {t : TS} (h1 : PS X st t) : PSs X (st :: rest) (fun D σ H => t { D with nx := fun _ _ => False } σ H) := by
  refine ⟨fun pins s σ H D I h => ?_⟩
  refine wpAny_execs_cons (thn (h1.run pins s σ H _ I h) fun f s1 q => ?_)
  cases f with
  | next =>
    obtain ⟨_, _, _, q⟩ := q
    exact q.elim
  | ret v => exact q
  | brk => exact q
  | cont => exact q
/-- f(e, ..), e refuses -/
theorem pe_callDead {x : Str} {f : Addr} {e : Expr} {es : List Expr} {ta : TA} {p pos : Pos} (hg : Gl X x) (hm : X.mg x = some (.ref f)) (hk : PySem.W.keepIn X.K (.ref f) = true) (ha : PA X (e :: es) ta)
    (hdb : (x == ("__debug__" : Str)) = false := by decide) (he : starEach (e :: es) X.env = (false, eval e X.env) :: starEach es X.env := by rfl) (hpl : (backTo pos (starEach es X.env)).any (·.1) = false := by rfl) :
    PE X (.Call (.Name x p) (e :: es) [] pos) (fun σ H _ => ta σ H fun _ _ => False) := by
  refine ⟨fun pins s σ H Q I h => ?_⟩
  refine wpAny_Call_Name_kw (ld_glob I hg hm ?_ hdb)
  refine PySem.W.callWith_K (h₀ := X.base) I.ok.mod.kin hk (thn (ha.run pos pins s σ H _ I h) fun us s1 ⟨vs, H1, I1, r, q⟩ => q.elim) he hpl
end
/-- the shop at place i of m arguments is refused -/
def sp_ref (C : Addr) (T : List Addr) (i m : Nat) : Sp := fun vs H _ E => ∃ (a : Addr) (os : List Ofr) (n : Nat), vs.length = m ∧ vs[i]? = some (.ref a) ∧ ShopAt H a os ∧ SizeO 1000 os ∧ os.length ≤ 99 ∧ firstBad os = some n ∧ Tb T H ∧
  ∀ H' d, Ext T H H' → H d = none → H' d = some (.xd [("place", .int (n : Nat))]) → E (.ref C) (some d) H'
theorem args1 {vs : List V} {x : V} (h : vs.length = 1) (g : vs[0]? = some x) : vs = [x] := by
  match vs, h with
  | [a], _ => cases Option.some.inj g; rfl
theorem args2 {vs : List V} {x : V} (h : vs.length = 2) (g : vs[0]? = some x) : ∃ y, vs = [x, y] := by
  match vs, h with
  | [a, b], _ => cases Option.some.inj g; exact ⟨b, rfl⟩
theorem args2' {vs : List V} {x : V} (h : vs.length = 2) (g : vs[1]? = some x) : ∃ y, vs = [y, x] := by
  match vs, h with
  | [a, b], _ => cases Option.some.inj g; exact ⟨a, rfl⟩
theorem args3 {vs : List V} {x : V} (h : vs.length = 3) (g : vs[0]? = some x) : ∃ y z, vs = [x, y, z] := by
  match vs, h with
  | [a, b, c], _ => cases Option.some.inj g; exact ⟨b, c, rfl⟩
section
variable {P : Program} {w : World} {K : PySem.W.Frag} {mg : Str → Option Value} {base : Heap} {T : List Addr} {C : Addr}
abbrev s_lines : Stmt := topS 17
abbrev N_lines : List Str := ["shop", "place", "line"]
theorem sc_lines : FnScope N_lines ["shop"] (defScope s_lines) := ⟨rfl, rfl, rfl, by decide +kernel, rfl, by decide +kernel, by decide +kernel⟩

theorem ref_lines {f f1 : Addr} {fd fd1 : FuncData} {k : Nat} (D : Def K mg "lines" s_lines ["shop"] f fd) (D_look : Def K mg "look" s_look ["shop"] f1 fd1) (G_look : FnOk P w K mg base (L2.CX P w) k f1 fd1 ["shop"] (sp_look C T)) : FnOk P w K mg base (L2.CX P w) (k + 1) f fd ["shop"] (sp_ref C T 0 1) := by
  refine D.F.okX sc_lines (fun vs H Q E h => ?_) (fun cdv A outer s H vs Q E hr h => ?_)
  · obtain ⟨a, os, n, hl, _⟩ := h
    exact hl
  · obtain ⟨a, os, n, hl, ha, hS, sz, l99, fb, hT, qE⟩ := h
    obtain rfl := args1 hl ha
    refine ⟨_, pss_dead (ps_expr (pe_callS G_look hr (by rfl) D_look.g D_look.F.kp D_look.b (fun σ => passAt (takes_of rfl rfl rfl rfl) σ) (pa_cons (pv 0) pa_nil))), ?_⟩
    refine ⟨_, rfl, a, os, rfl, hS, sz, l99, hT, fun z => ?_, fun n' z H' d E' nd hd => ?_⟩
    · rw [fb] at z
      cases z
    · rw [fb] at z
      cases Option.some.inj z
      exact qE H' d E' nd hd
abbrev s_priced_lines : Stmt := topS 22
abbrev N_priced_lines : List Str := ["shop", "line"]
theorem sc_priced_lines : FnScope N_priced_lines ["shop"] (defScope s_priced_lines) := ⟨rfl, rfl, rfl, by decide +kernel, rfl, by decide +kernel, by decide +kernel⟩

theorem ref_priced_lines {f f1 : Addr} {fd fd1 : FuncData} {k : Nat} (D : Def K mg "priced_lines" s_priced_lines ["shop"] f fd) (D_lines : Def K mg "lines" s_lines ["shop"] f1 fd1) (G_lines : FnOk P w K mg base (L2.CX P w) k f1 fd1 ["shop"] (sp_ref C T 0 1)) : FnOk P w K mg base (L2.CX P w) (k + 1) f fd ["shop"] (sp_ref C T 0 1) := by
  refine D.F.okX sc_priced_lines (fun vs H Q E h => ?_) (fun cdv A outer s H vs Q E hr h => ?_)
  · obtain ⟨a, os, n, hl, _⟩ := h
    exact hl
  · obtain ⟨a, os, n, hl, ha, hS, sz, l99, fb, hT, qE⟩ := h
    obtain rfl := args1 hl ha
    refine ⟨_, pss_one (ps_ret (pe_lc (own := [("line", 1)]) (by rfl) sc_priced_lines.nd (pi_list (pe_callS G_lines hr (by rfl) D_lines.g D_lines.F.kp D_lines.b (fun σ => passAt (takes_of rfl rfl rfl rfl) σ) (pa_cons (pv 0) pa_nil))) (blkOk_by (own := [("line", 1)]) (N := N_priced_lines) (sc := defScope s_priced_lines) (by decide +kernel)) (fun _ _ _ _ _ => (pg_name (i := 1) sc_priced_lines.nd rfl (Or.inl rfl))) (fun _ _ _ _ _ => pts_nil) (fun _ _ _ _ _ => pe_never))), ?_⟩
    exact ⟨_, rfl, a, os, n, rfl, rfl, hS, sz, l99, fb, hT, qE⟩
abbrev s_least : Stmt := topS 31
abbrev N_least : List Str := ["shop", "want"]
theorem sc_least : FnScope N_least ["shop", "want"] (defScope s_least) := ⟨rfl, rfl, rfl, by decide +kernel, rfl, by decide +kernel, by decide +kernel⟩

abbrev s_cheapest : Stmt := topS 30

theorem ref_least {f f1 f2 : Addr} {fd fd1 fd2 : FuncData} {k : Nat} (D : Def K mg "least" s_least ["shop", "want"] f fd) (D_priced_lines : Def K mg "priced_lines" s_priced_lines ["shop"] f1 fd1) (G_priced_lines : FnOk P w K mg base (L2.CX P w) k f1 fd1 ["shop"] (sp_ref C T 0 1)) (D_cheapest : Def K mg "cheapest" s_cheapest ["priced", "want"] f2 fd2) : FnOk P w K mg base (L2.CX P w) (k + 1) f fd ["shop", "want"] (sp_ref C T 0 2) := by
  refine D.F.okX sc_least (fun vs H Q E h => ?_) (fun cdv A outer s H vs Q E hr h => ?_)
  · obtain ⟨a, os, n, hl, _⟩ := h
    exact hl
  · obtain ⟨a, os, n, hl, ha, hS, sz, l99, fb, hT, qE⟩ := h
    obtain ⟨y, rfl⟩ := args2 hl ha
    refine ⟨_, pss_one (ps_ret (pe_callDead (by rfl) D_cheapest.g D_cheapest.F.kp (pa_cons (pe_callS G_priced_lines hr (by rfl) D_priced_lines.g D_priced_lines.F.kp D_priced_lines.b (fun σ => passAt (takes_of rfl rfl rfl rfl) σ) (pa_cons (pv 0) pa_nil)) pa_never))), ?_⟩
    exact ⟨_, rfl, a, os, n, rfl, rfl, hS, sz, l99, fb, hT, qE⟩
abbrev s_cases : Stmt := topS 32
abbrev N_cases : List Str := ["shop", "want", "steps", "less", "step"]
theorem sc_cases : FnScope N_cases ["shop", "want"] (defScope s_cases) := ⟨rfl, rfl, rfl, by decide +kernel, rfl, by decide +kernel, by decide +kernel⟩

abbrev s_all_steps : Stmt := topS 29

theorem ref_cases {f f1 f2 : Addr} {fd fd1 fd2 : FuncData} {k : Nat} (D : Def K mg "cases" s_cases ["shop", "want"] f fd) (D_priced_lines : Def K mg "priced_lines" s_priced_lines ["shop"] f1 fd1) (G_priced_lines : FnOk P w K mg base (L2.CX P w) k f1 fd1 ["shop"] (sp_ref C T 0 1)) (D_all_steps : Def K mg "all_steps" s_all_steps ["priced", "want"] f2 fd2) : FnOk P w K mg base (L2.CX P w) (k + 1) f fd ["shop", "want"] (sp_ref C T 0 2) := by
  refine D.F.okX sc_cases (fun vs H Q E h => ?_) (fun cdv A outer s H vs Q E hr h => ?_)
  · obtain ⟨a, os, n, hl, _⟩ := h
    exact hl
  · obtain ⟨a, os, n, hl, ha, hS, sz, l99, fb, hT, qE⟩ := h
    obtain ⟨y, rfl⟩ := args2 hl ha
    refine ⟨_, pss_dead (ps_set (i := 2) sc_cases.nd rfl (Or.inl rfl) (pe_callDead (by rfl) D_all_steps.g D_all_steps.F.kp (pa_cons (pe_callS G_priced_lines hr (by rfl) D_priced_lines.g D_priced_lines.F.kp D_priced_lines.b (fun σ => passAt (takes_of rfl rfl rfl rfl) σ) (pa_cons (pv 0) pa_nil)) pa_never))), ?_⟩
    exact ⟨_, rfl, a, os, n, rfl, rfl, hS, sz, l99, fb, hT, qE⟩
abbrev s_shows : Stmt := topS 34
abbrev N_shows : List Str := ["shop", "want", "table", "priced", "numbers", "start", "less", "number"]
theorem sc_shows : FnScope N_shows ["shop", "want", "table"] (defScope s_shows) := ⟨rfl, rfl, rfl, by decide +kernel, rfl, by decide +kernel, by decide +kernel⟩

theorem ref_shows {f f1 : Addr} {fd fd1 : FuncData} {k : Nat} (D : Def K mg "shows" s_shows ["shop", "want", "table"] f fd) (D_priced_lines : Def K mg "priced_lines" s_priced_lines ["shop"] f1 fd1) (G_priced_lines : FnOk P w K mg base (L2.CX P w) k f1 fd1 ["shop"] (sp_ref C T 0 1)) : FnOk P w K mg base (L2.CX P w) (k + 1) f fd ["shop", "want", "table"] (sp_ref C T 0 3) := by
  refine D.F.okX sc_shows (fun vs H Q E h => ?_) (fun cdv A outer s H vs Q E hr h => ?_)
  · obtain ⟨a, os, n, hl, _⟩ := h
    exact hl
  · obtain ⟨a, os, n, hl, ha, hS, sz, l99, fb, hT, qE⟩ := h
    obtain ⟨y, z, rfl⟩ := args3 hl ha
    refine ⟨_, pss_dead (ps_set (i := 3) sc_shows.nd rfl (Or.inr rfl) (pe_callS G_priced_lines hr (by rfl) D_priced_lines.g D_priced_lines.F.kp D_priced_lines.b (fun σ => passAt (takes_of rfl rfl rfl rfl) σ) (pa_cons (pv 0) pa_nil))), ?_⟩
    exact ⟨_, rfl, a, os, n, rfl, rfl, hS, sz, l99, fb, hT, qE⟩
abbrev s_fair : Stmt := topS 57
abbrev N_fair : List Str := ["shop", "prices", "priced", "tops", "bottom"]
theorem sc_fair : FnScope N_fair ["shop", "prices"] (defScope s_fair) := ⟨rfl, rfl, rfl, by decide +kernel, rfl, by decide +kernel, by decide +kernel⟩

theorem ref_fair {f f1 : Addr} {fd fd1 : FuncData} {k : Nat} (D : Def K mg "fair" s_fair ["shop", "prices"] f fd) (D_priced_lines : Def K mg "priced_lines" s_priced_lines ["shop"] f1 fd1) (G_priced_lines : FnOk P w K mg base (L2.CX P w) k f1 fd1 ["shop"] (sp_ref C T 0 1)) : FnOk P w K mg base (L2.CX P w) (k + 1) f fd ["shop", "prices"] (sp_ref C T 0 2) := by
  refine D.F.okX sc_fair (fun vs H Q E h => ?_) (fun cdv A outer s H vs Q E hr h => ?_)
  · obtain ⟨a, os, n, hl, _⟩ := h
    exact hl
  · obtain ⟨a, os, n, hl, ha, hS, sz, l99, fb, hT, qE⟩ := h
    obtain ⟨y, rfl⟩ := args2 hl ha
    refine ⟨_, pss_dead (ps_set (i := 2) sc_fair.nd rfl (Or.inl rfl) (pe_callS G_priced_lines hr (by rfl) D_priced_lines.g D_priced_lines.F.kp D_priced_lines.b (fun σ => passAt (takes_of rfl rfl rfl rfl) σ) (pa_cons (pv 0) pa_nil))), ?_⟩
    exact ⟨_, rfl, a, os, n, rfl, rfl, hS, sz, l99, fb, hT, qE⟩
abbrev s_single_prices : Stmt := topS 59
abbrev N_single_prices : List Str := ["shop", "want", "priced", "prices", "shares", "worth", "tops", "parts", "bottom", "top", "row", "part", "line", "content", "price"]
theorem sc_single_prices : FnScope N_single_prices ["shop", "want"] (defScope s_single_prices) := ⟨rfl, rfl, rfl, by decide +kernel, rfl, by decide +kernel, by decide +kernel⟩

theorem ref_single_prices {f f1 : Addr} {fd fd1 : FuncData} {k : Nat} (D : Def K mg "single_prices" s_single_prices ["shop", "want"] f fd) (D_priced_lines : Def K mg "priced_lines" s_priced_lines ["shop"] f1 fd1) (G_priced_lines : FnOk P w K mg base (L2.CX P w) k f1 fd1 ["shop"] (sp_ref C T 0 1)) : FnOk P w K mg base (L2.CX P w) (k + 1) f fd ["shop", "want"] (sp_ref C T 0 2) := by
  refine D.F.okX sc_single_prices (fun vs H Q E h => ?_) (fun cdv A outer s H vs Q E hr h => ?_)
  · obtain ⟨a, os, n, hl, _⟩ := h
    exact hl
  · obtain ⟨a, os, n, hl, ha, hS, sz, l99, fb, hT, qE⟩ := h
    obtain ⟨y, rfl⟩ := args2 hl ha
    refine ⟨_, pss_dead (ps_set (i := 2) sc_single_prices.nd rfl (Or.inl rfl) (pe_callS G_priced_lines hr (by rfl) D_priced_lines.g D_priced_lines.F.kp D_priced_lines.b (fun σ => passAt (takes_of rfl rfl rfl rfl) σ) (pa_cons (pv 0) pa_nil))), ?_⟩
    exact ⟨_, rfl, a, os, n, rfl, rfl, hS, sz, l99, fb, hT, qE⟩
abbrev s_hold_together : Stmt := topS 64
abbrev N_hold_together : List Str := ["shop", "want", "told", "priced", "fractions", "value", "prices", "shares", "line", "share", "top", "bottom"]
theorem sc_hold_together : FnScope N_hold_together ["shop", "want", "told"] (defScope s_hold_together) := ⟨rfl, rfl, rfl, by decide +kernel, rfl, by decide +kernel, by decide +kernel⟩

theorem ref_hold_together {f f1 : Addr} {fd fd1 : FuncData} {k : Nat} (D : Def K mg "hold_together" s_hold_together ["shop", "want", "told"] f fd) (D_priced_lines : Def K mg "priced_lines" s_priced_lines ["shop"] f1 fd1) (G_priced_lines : FnOk P w K mg base (L2.CX P w) k f1 fd1 ["shop"] (sp_ref C T 0 1)) : FnOk P w K mg base (L2.CX P w) (k + 1) f fd ["shop", "want", "told"] (sp_ref C T 0 3) := by
  refine D.F.okX sc_hold_together (fun vs H Q E h => ?_) (fun cdv A outer s H vs Q E hr h => ?_)
  · obtain ⟨a, os, n, hl, _⟩ := h
    exact hl
  · obtain ⟨a, os, n, hl, ha, hS, sz, l99, fb, hT, qE⟩ := h
    obtain ⟨y, z, rfl⟩ := args3 hl ha
    refine ⟨_, pss_dead (ps_set (i := 3) sc_hold_together.nd rfl (Or.inl rfl) (pe_callS G_priced_lines hr (by rfl) D_priced_lines.g D_priced_lines.F.kp D_priced_lines.b (fun σ => passAt (takes_of rfl rfl rfl rfl) σ) (pa_cons (pv 0) pa_nil))), ?_⟩
    exact ⟨_, rfl, a, os, n, rfl, rfl, hS, sz, l99, fb, hT, qE⟩
abbrev s_spared : Stmt := topS 42
abbrev N_spared : List Str := ["shop", "priced", "told", "place", "purchase"]
theorem sc_spared : FnScope N_spared ["shop"] (defScope s_spared) := ⟨rfl, rfl, rfl, by decide +kernel, rfl, by decide +kernel, by decide +kernel⟩

theorem ref_spared {f f1 : Addr} {fd fd1 : FuncData} {k : Nat} (D : Def K mg "spared" s_spared ["shop"] f fd) (D_priced_lines : Def K mg "priced_lines" s_priced_lines ["shop"] f1 fd1) (G_priced_lines : FnOk P w K mg base (L2.CX P w) k f1 fd1 ["shop"] (sp_ref C T 0 1)) : FnOk P w K mg base (L2.CX P w) (k + 1) f fd ["shop"] (sp_ref C T 0 1) := by
  refine D.F.okX sc_spared (fun vs H Q E h => ?_) (fun cdv A outer s H vs Q E hr h => ?_)
  · obtain ⟨a, os, n, hl, _⟩ := h
    exact hl
  · obtain ⟨a, os, n, hl, ha, hS, sz, l99, fb, hT, qE⟩ := h
    obtain rfl := args1 hl ha
    refine ⟨_, pss_dead (ps_set (i := 1) sc_spared.nd rfl (Or.inl rfl) (pe_callS G_priced_lines hr (by rfl) D_priced_lines.g D_priced_lines.F.kp D_priced_lines.b (fun σ => passAt (takes_of rfl rfl rfl rfl) σ) (pa_cons (pv 0) pa_nil))), ?_⟩
    exact ⟨_, rfl, a, os, n, rfl, rfl, hS, sz, l99, fb, hT, qE⟩
abbrev s_thinned : Stmt := topS 44
abbrev N_thinned : List Str := ["shop", "priced", "places", "place"]
theorem sc_thinned : FnScope N_thinned ["shop"] (defScope s_thinned) := ⟨rfl, rfl, rfl, by decide +kernel, rfl, by decide +kernel, by decide +kernel⟩

theorem ref_thinned {f f1 : Addr} {fd fd1 : FuncData} {k : Nat} (D : Def K mg "thinned" s_thinned ["shop"] f fd) (D_priced_lines : Def K mg "priced_lines" s_priced_lines ["shop"] f1 fd1) (G_priced_lines : FnOk P w K mg base (L2.CX P w) k f1 fd1 ["shop"] (sp_ref C T 0 1)) : FnOk P w K mg base (L2.CX P w) (k + 1) f fd ["shop"] (sp_ref C T 0 1) := by
  refine D.F.okX sc_thinned (fun vs H Q E h => ?_) (fun cdv A outer s H vs Q E hr h => ?_)
  · obtain ⟨a, os, n, hl, _⟩ := h
    exact hl
  · obtain ⟨a, os, n, hl, ha, hS, sz, l99, fb, hT, qE⟩ := h
    obtain rfl := args1 hl ha
    refine ⟨_, pss_dead (ps_set (i := 1) sc_thinned.nd rfl (Or.inl rfl) (pe_callS G_priced_lines hr (by rfl) D_priced_lines.g D_priced_lines.F.kp D_priced_lines.b (fun σ => passAt (takes_of rfl rfl rfl rfl) σ) (pa_cons (pv 0) pa_nil))), ?_⟩
    exact ⟨_, rfl, a, os, n, rfl, rfl, hS, sz, l99, fb, hT, qE⟩
abbrev s_moves : Stmt := topS 50
abbrev N_moves : List Str := ["shop", "want", "place", "priced", "prices", "start", "counts", "points", "following"]
theorem sc_moves : FnScope N_moves ["shop", "want", "place"] (defScope s_moves) := ⟨rfl, rfl, rfl, by decide +kernel, rfl, by decide +kernel, by decide +kernel⟩

abbrev s_without : Stmt := topS 40

theorem ref_moves {f f1 f2 : Addr} {fd fd1 fd2 : FuncData} {k : Nat} (D : Def K mg "moves" s_moves ["shop", "want", "place"] f fd) (D_priced_lines : Def K mg "priced_lines" s_priced_lines ["shop"] f1 fd1) (G_priced_lines : FnOk P w K mg base (L2.CX P w) k f1 fd1 ["shop"] (sp_ref C T 0 1)) (D_without : Def K mg "without" s_without ["priced", "place"] f2 fd2) : FnOk P w K mg base (L2.CX P w) (k + 1) f fd ["shop", "want", "place"] (sp_ref C T 0 3) := by
  refine D.F.okX sc_moves (fun vs H Q E h => ?_) (fun cdv A outer s H vs Q E hr h => ?_)
  · obtain ⟨a, os, n, hl, _⟩ := h
    exact hl
  · obtain ⟨a, os, n, hl, ha, hS, sz, l99, fb, hT, qE⟩ := h
    obtain ⟨y, z, rfl⟩ := args3 hl ha
    refine ⟨_, pss_dead (ps_set (i := 3) sc_moves.nd rfl (Or.inl rfl) (pe_callDead (by rfl) D_without.g D_without.F.kp (pa_cons (pe_callS G_priced_lines hr (by rfl) D_priced_lines.g D_priced_lines.F.kp D_priced_lines.b (fun σ => passAt (takes_of rfl rfl rfl rfl) σ) (pa_cons (pv 0) pa_nil)) pa_never))), ?_⟩
    exact ⟨_, rfl, a, os, n, rfl, rfl, hS, sz, l99, fb, hT, qE⟩
end
/-! ### refusals as values -/
section
variable {X : Cx}
/-- C(e, ..) with an own __init__, as a value -/
theorem pe_oex {e : Expr} {es : List Expr} {ta : TA} {p pos : Pos} {x : Str} {C fI : Addr} {k : Nat} {fd : FuncData} {ps : List Str} {sp : Sp} (T : OexC X.K C) (iC : PySem.W.findIn X.K (.ref C) "__init__" = some (some (.ref fI))) (tI : PySem.W.typeIn X.K (.ref fI) = some (.type "function"))
    (F1 : FnOk X.prog X.w X.K X.mg X.base CX0 k fI fd ps sp) (hr : Room (k + 1) X.A) (hb : Binds X.K fd ps []) (hg : Gl X x) (hm : X.mg x = some (.ref C)) (ha : PA X (e :: es) ta)
    (hdb : (x == ("__debug__" : Str)) = false := by decide) (he : starEach (e :: es) X.env = (false, eval e X.env) :: starEach es X.env := by rfl) (hpl : (backTo pos (starEach es X.env)).any (·.1) = false := by rfl) :
    PE X (.Call (.Name x p) (e :: es) [] pos) (fun σ H Q => ta σ H fun vs H1 => vs.length ≤ 1000 ∧ ∀ a, H1 a = none → sp (.ref a :: vs) (upd H1 a (exo a C none)) (fun v H2 => v = .non ∧ Q (.ref a) H2) (fun _ _ _ => False)) := by
  constructor
  intro pins s σ H Q I h
  refine wpAny_Call_Name_kw (ld_glob I hg hm ?_ hdb)
  refine PySem.W.callWith_K (h₀ := X.base) I.ok.mod.kin T.kC (thn (ha.run pos pins s σ H _ I h) ?_) he hpl
  rintro us t ⟨vs, H1, J, r, few, q⟩
  refine ⟨J.kIn, made_new T iC tI F1 hr hb J r few (q _ (J.hok.fresh (Nat.le_succ _))) (fun er t' J' x => (pass0 (X := X)) pins σ _ _ er t' J' x) fun u t' J' x => ?_⟩
  obtain ⟨v, H2, J2, rv, rfl, q2⟩ := J'.after x
  exact ⟨rv, .ref _, H2, J2, rfl, q2⟩
/-- its field -/
def tXo (K : PySem.W.Frag) (f : Str) (te : TE) : TE := fun σ H Q => te σ H fun x H1 => ∃ (a C d : Addr) (fs : List (Str × V)) (v : V), x = .ref a ∧ H1 a = some (exo a C (some d)) ∧ H1 d = some (exd d fs) ∧ XfC K C ∧ PySem.W.findIn K (.ref C) f = some none ∧ fs.lookup f = some v ∧ Q v H1
theorem pe_xo {e : Expr} {te : TE} {pos : Pos} {n : Str} (he : PE X e te) (hb : attributeBase e n X.env (eval e X.env) = eval e X.env := by rfl) : PE X (.Attribute e n pos) (tXo X.K n te) := by
  constructor
  intro pins s σ H Q I h
  refine attr_of hb (thn (he.run pins s σ H _ I h) ?_)
  rintro u t ⟨_, H1, J, isRef, a, C, d, fs, v, rfl, ha, hd, T, own, at_, q⟩
  cases (show u = Value.ref a from isRef)
  obtain ⟨_, atA⟩ := exo_at J.hok ha
  obtain ⟨mA, there, same⟩ := exd_at J.hok hd
  obtain ⟨od, atD, looks⟩ := lookIn_ns there
  obtain ⟨w, hw, rw_⟩ := RelO.some_of (v := v) (o := mA n) (at_ ▸ same n)
  have inst : PySem.W.InstAt t.heap a _ C od := ⟨atA, rfl, rfl, atD⟩
  have found : PySem.W.lookIn n od = some (some w) := (looks n).trans (congrArg some hw)
  exact HandSPX.exc_get J.kIn inst T.ga T.gg T.exC (PySem.W.findObj_own T.hdC own rfl found) (handed_of rw_) ⟨v, H1, J.tok _, rw_, q⟩
/-- isinstance(e, c), e a refusal without fields -/
def rIsO (K : PySem.W.Frag) : List V → Hp → VK → Prop := fun xs H Q => ∃ (a D : Addr) (c : V) (cv : Value) (b : Bool), xs = [.ref a, c] ∧ H a = some (ExO (.ref D) a) ∧ ExcC K D ∧ (∀ u, RelV c u → u = cv) ∧ PySem.W.kitOne K (.ref D) cv = some b ∧ Q (.bl b) H
theorem call_isO {K : PySem.W.Frag} (hK : X.K = K) : CallR X (.builtin "isinstance") (rIsO K) := by
  subst hK
  rintro pins s σ H _ us Q I r ⟨a, D, c, cv, b, rfl, ha, C, only, e, q⟩
  have here := I.hok a _ ha
  obtain ⟨ob, fs, atA, z, isEx, _⟩ := (show ObjOk X.prog X.w H s.heap a (.ext fun h => ∃ (ob : Obj) (fs : Array Value), h.get? a = some ob ∧ Zc (.ref D) none ob ∧ ob.data = .fields fs ∧ fs[1]? = some .none ∧ fs[2]? = some .none ∧ 4 < fs.size) from here).1
  have noClass : PySem.W.notCls ob = true := by
    unfold PySem.W.notCls
    rw [isEx]
  have inst : PySem.W.InstAt s.heap a ob D none := ⟨atA, z.1, noClass, z.2.symm ▸ trivial⟩
  match us, r with
  | [_, t], .cons rfl (.cons rt .nil) =>
    cases only t rt
    exact PySem.W.kia_one (exc_asked C) I.kIn inst e nofun fun _ => ⟨.bl b, H, I.kept fun _ _ z => z, rfl, q⟩
end
/-! ### lines, as lists -/
/-- place by place -/
def Al {α : Type} (R : Addr → α → Prop) : List Addr → List α → Prop
  | [], [] => True
  | a :: as, x :: xs => R a x ∧ Al R as xs
  | _, _ => False
section
variable {α : Type} {R R' : Addr → α → Prop}
theorem Al.len : ∀ {as : List Addr} {xs : List α}, Al R as xs → as.length = xs.length
  | [], [], _ => rfl
  | [], _ :: _, h => h.elim
  | _ :: _, [], h => h.elim
  | _ :: _, _ :: _, h => by rw [List.length_cons, List.length_cons, Al.len h.2]
theorem Al.app : ∀ {as bs : List Addr} {xs ys : List α}, Al R as xs → Al R bs ys → Al R (as ++ bs) (xs ++ ys)
  | [], _, [], _, _, k => k
  | [], _, _ :: _, _, h, _ => h.elim
  | _ :: _, _, [], _, h, _ => h.elim
  | _ :: _, _, _ :: _, _, h, k => ⟨h.1, Al.app h.2 k⟩
theorem Al.imp (f : ∀ a x, R a x → R' a x) : ∀ {as : List Addr} {xs : List α}, Al R as xs → Al R' as xs
  | [], [], _ => True.intro
  | [], _ :: _, h => h.elim
  | _ :: _, [], h => h.elim
  | _ :: _, _ :: _, h => ⟨f _ _ h.1, Al.imp f h.2⟩
theorem Al.impM : ∀ {as : List Addr} {xs : List α}, (∀ a x, a ∈ as → R a x → R' a x) → Al R as xs → Al R' as xs
  | [], [], _, _ => True.intro
  | [], _ :: _, _, h => h.elim
  | _ :: _, [], _, h => h.elim
  | _ :: _, _ :: _, f, h => ⟨f _ _ List.mem_cons_self h.1, Al.impM (fun a x m => f a x (List.mem_cons_of_mem _ m)) h.2⟩
theorem Al.get : ∀ {as : List Addr} {xs : List α} {i : Nat} {a : Addr}, Al R as xs → as[i]? = some a → ∃ x, xs[i]? = some x ∧ R a x
  | [], [], _, _, _, e => by simp at e
  | [], _ :: _, _, _, h, _ => h.elim
  | _ :: _, [], _, _, h, _ => h.elim
  | _ :: _, x :: _, 0, _, h, e => by cases Option.some.inj e; exact ⟨x, rfl, h.1⟩
  | _ :: _, _ :: _, i + 1, _, h, e => Al.get (i := i) h.2 e
theorem Al.drop1 : ∀ {as : List Addr} {xs : List α}, Al R as xs → Al R (as.drop 1) xs.tail
  | [], [], _ => True.intro
  | [], _ :: _, h => h.elim
  | _ :: _, [], h => h.elim
  | _ :: _, _ :: _, h => h.2
theorem Al.one {a : Addr} {x : α} (h : R a x) : Al R [a] [x] := ⟨h, True.intro⟩
end
/-- a new list of ints, apart from C -/
def RowB (H0 H : Hp) (C : Addr) (a : Addr) (r : List Int) : Prop := H a = some (LI r) ∧ H0 a = none ∧ a ≠ C
def RowF (H0 H : Hp) (a : Addr) (r : List Int) : Prop := H a = some (LI r) ∧ H0 a = none
theorem RowB.keep {H0 H H' : Hp} {C a : Addr} {r : List Int} (s : SameBut C H H') (h : RowB H0 H C a r) : RowB H0 H' C a r := ⟨s _ _ h.2.2 h.1, h.2⟩
theorem RowF.keep {H0 H H' : Hp} {a : Addr} {r : List Int} (s : Same H H') (h : RowF H0 H a r) : RowF H0 H' a r := ⟨s _ _ h.1, h.2⟩
theorem RowB.toF {H0 H : Hp} {C a : Addr} {r : List Int} (h : RowB H0 H C a r) : RowF H0 H a r := ⟨h.1, h.2.1⟩
structure Ln where
  p : Int
  c : Int
  as : List Int
/-- a line, its tuple and its list new -/
def LineF (H0 H : Hp) (a : Addr) (l : Ln) : Prop := ∃ b, H a = some (.tup [.int l.p, .int l.c, .ref b]) ∧ H b = some (LI l.as) ∧ H0 a = none ∧ H0 b = none
def LineB (H0 H : Hp) (B : Addr) (a : Addr) (l : Ln) : Prop := ∃ b, H a = some (.tup [.int l.p, .int l.c, .ref b]) ∧ H b = some (LI l.as) ∧ H0 a = none ∧ H0 b = none ∧ a ≠ B ∧ b ≠ B
theorem LineB.keep {H0 H H' : Hp} {B a : Addr} {l : Ln} (s : SameBut B H H') (h : LineB H0 H B a l) : LineB H0 H' B a l := by
  obtain ⟨b, h1, h2, h3, h4, h5, h6⟩ := h
  exact ⟨b, s _ _ h5 h1, s _ _ h6 h2, h3, h4, h5, h6⟩
theorem LineB.toF {H0 H : Hp} {B a : Addr} {l : Ln} (h : LineB H0 H B a l) : LineF H0 H a l := by
  obtain ⟨b, h1, h2, h3, h4, _⟩ := h
  exact ⟨b, h1, h2, h3, h4⟩
theorem LineF.toB {H0 H1 H : Hp} {B a : Addr} {l : Ln} (h : LineF H1 H a l) (f : ∀ b, H1 b = none → H0 b = none) (hB : H1 B ≠ none) : LineB H0 H B a l := by
  obtain ⟨b, h1, h2, h3, h4⟩ := h
  exact ⟨b, h1, h2, f _ h3, f _ h4, fun z => hB (by rw [← z]; exact h3), fun z => hB (by rw [← z]; exact h4)⟩
def LinesF (H0 H : Hp) (q : Addr) (ls : List Ln) : Prop := ∃ as : List Addr, H q = some (.lst (as.map V.ref)) ∧ Al (LineF H0 H) as ls
def isAdd (os : List Ofr) (p : Int) (i : Nat) : Bool := match os[i]? with
  | some (.add _ _ k) => decide (k = p)
  | _ => false
def addsN (os : List Ofr) (p : Int) (n : Nat) : List Int := ((List.range n).filter (isAdd os p)).map fun (i : Nat) => (i : Int)
def addsM (os : List Ofr) (p : Int) : List Int := addsN os p os.length
theorem addsN_len (os : List Ofr) (p : Int) (n : Nat) : (addsN os p n).length ≤ n := by
  unfold addsN
  rw [List.length_map]
  exact Nat.le_trans (List.length_filter_le _ _) (by rw [List.length_range]; exact Nat.le_refl _)
theorem addsN_yes {os : List Ofr} {p : Int} {n : Nat} (h : isAdd os p n = true) : addsN os p (n + 1) = addsN os p n ++ [(n : Int)] := by
  unfold addsN
  rw [List.range_succ, List.filter_append, List.map_append]
  simp [h]
theorem addsN_no {os : List Ofr} {p : Int} {n : Nat} (h : isAdd os p n = false) : addsN os p (n + 1) = addsN os p n := by
  unfold addsN
  rw [List.range_succ, List.filter_append, List.map_append]
  simp [h]
def choicesM : List Int → List (List Int)
  | [] => [[]]
  | p :: ps => ([[]] ++ (choicesM ps).map (p :: ·)) ++ (choicesM ps).tail
theorem choicesM_len : ∀ ps : List Int, (choicesM ps).length = 2 ^ ps.length
  | [] => rfl
  | p :: ps => by
    have ih := choicesM_len ps
    have pos : 0 < 2 ^ ps.length := Nat.pow_pos (by decide)
    show (([[]] ++ (choicesM ps).map (p :: ·)) ++ (choicesM ps).tail).length = 2 ^ (ps.length + 1)
    rw [List.length_append, List.length_append, List.length_map, List.length_tail, ih, Nat.pow_succ]
    show 1 + 2 ^ ps.length + (2 ^ ps.length - 1) = _
    omega
theorem choicesM_le {ps : List Int} (h : ps.length ≤ 8) : (choicesM ps).length ≤ 256 := by
  rw [choicesM_len]
  exact Nat.le_trans (Nat.pow_le_pow_right (by decide) h) (by decide)
def linesAtM (os : List Ofr) (p : Nat) : List Ln := match os[p]? with
  | some (.pack _ _) => (choicesM (addsM os p)).map fun c => ⟨p, 1, c⟩
  | some (.many _ _) => (List.range 12).map fun i => ⟨p, 1 + (i : Nat), []⟩
  | _ => []
def linesM (os : List Ofr) : List Ln := (List.range os.length).flatMap (linesAtM os)
theorem linesAtM_len {os : List Ofr} (h : os.length ≤ 8) (p : Nat) : (linesAtM os p).length ≤ 256 := by
  unfold linesAtM
  split
  · rw [List.length_map]
    exact choicesM_le (Nat.le_trans (addsN_len _ _ _) h)
  · rw [List.length_map, List.length_range]
    decide
  · decide
theorem linesN_len {os : List Ofr} (h : os.length ≤ 8) : ∀ n : Nat, ((List.range n).flatMap (linesAtM os)).length ≤ n * 256
  | 0 => by simp
  | n + 1 => by
    have ih := linesN_len h n
    have := linesAtM_len h n
    rw [List.range_succ, List.flatMap_append, List.length_append, List.flatMap_singleton]
    omega
theorem OfrAt.same {H H' : Hp} (s : Same H H') {a : Addr} : ∀ {o : Ofr}, OfrAt H a o → OfrAt H' a o
  | .pack c p, ⟨b, h1, h2⟩ => ⟨b, s _ _ h1, s _ _ h2⟩
  | .many c ts, ⟨b, t, h1, h2, us, h3, h4, h5⟩ => ⟨b, t, s _ _ h1, s _ _ h2, us, s _ _ h3, h4, fun i u t a b => s _ _ (h5 i u t a b)⟩
  | .add c p k, ⟨b, h1, h2⟩ => ⟨b, s _ _ h1, s _ _ h2⟩
theorem ShopAt.same {H H' : Hp} (s : Same H H') {a : Addr} {os : List Ofr} (h : ShopAt H a os) : ShopAt H' a os := by
  obtain ⟨vs, h1, h2, h3⟩ := h
  exact ⟨vs, s _ _ h1, h2, fun i v o a b => (h3 i v o a b).same s⟩
/-! ### lines: what they hold and cost, as lists -/
def togM (a b : List Int) : List Int := List.zipWith (· + ·) a b
theorem togM_get {a b : List Int} {i : Nat} {x y : Int} (h : a[i]? = some x) (h2 : b[i]? = some y) : (togM a b)[i]? = some (x + y) := by
  unfold togM
  rw [List.getElem?_zipWith, h, h2]
theorem togM_len (a b : List Int) : (togM a b).length = min a.length b.length := by
  unfold togM
  rw [List.length_zipWith]
def contAt (os : List Ofr) (x : Int) : List Int := match os[x.toNat]? with
  | some o => o.cont
  | none => []
def contM (os : List Ofr) (l : Ln) : List Int := l.as.foldl (fun acc x => togM acc (contAt os x)) ((contAt os l.p).map (l.c * ·))
def pieceL (ts : List (Int × Int)) (c : Int) : List Int := (ts.filter fun t => decide (t.1 ≤ c)).map (·.2)
def pieceM (ts : List (Int × Int)) (c : Int) : Int := (pieceL ts c).getLastD 0
def addPr (os : List Ofr) (x : Int) : Int := match os[x.toNat]? with
  | some (.add _ p _) => p
  | some (.pack _ p) => p
  | _ => 0
def priceM (os : List Ofr) (l : Ln) : Int := match os[l.p.toNat]? with
  | some (.many _ ts) => l.c * pieceM ts l.c
  | some (.pack _ p) => p + (l.as.map (addPr os)).sum
  | _ => 0
/-- l is a line of os -/
def LineOk (os : List Ofr) (l : Ln) : Prop := ∃ p : Nat, l.p = (p : Int) ∧ ((∃ c ts, os[p]? = some (.many c ts) ∧ GoodT ts ∧ 1 ≤ l.c ∧ l.c ≤ 12 ∧ l.as = []) ∨
  (∃ c pr, os[p]? = some (.pack c pr) ∧ l.c = 1 ∧ l.as.length ≤ 8 ∧ ∀ x ∈ l.as, ∃ j : Nat, x = (j : Int) ∧ ∃ c' pr' k, os[j]? = some (.add c' pr' k)))
/-- contents are short, prices of adds within bounds -/
def Fit (os : List Ofr) : Prop := ∀ o ∈ os, o.cont.length ≤ 1000 ∧ ∀ c p k, o = .add c p k → -10000000000000000 ≤ p ∧ p ≤ 10000000000000000
def LineAt (H : Hp) (a : Addr) (l : Ln) : Prop := ∃ b, H a = some (.tup [.int l.p, .int l.c, .ref b]) ∧ H b = some (LI l.as)
theorem LineF.at {H0 H : Hp} {a : Addr} {l : Ln} (h : LineF H0 H a l) : LineAt H a l := by
  obtain ⟨b, h1, h2, _⟩ := h
  exact ⟨b, h1, h2⟩
theorem LineAt.ext {T : List Addr} {H H' : Hp} {a : Addr} {l : Ln} (e : Ext T H H') (h : LineAt H a l) : LineAt H' a l := by
  obtain ⟨b, h1, h2⟩ := h
  exact ⟨b, e.tup h1, e.lst h2⟩
theorem contAt_get {os : List Ofr} {j : Nat} {o : Ofr} (h : os[j]? = some o) : contAt os (j : Int) = o.cont := by
  unfold contAt
  rw [Int.toNat_natCast, h]
theorem pieceL_take {ts : List (Int × Int)} {c : Int} {i : Nat} {t : Int × Int} (h : ts[i]? = some t) : pieceL (ts.take (i + 1)) c = if t.1 ≤ c then pieceL (ts.take i) c ++ [t.2] else pieceL (ts.take i) c := by
  unfold pieceL
  rw [take_succ_at h, List.filter_append, List.map_append]
  by_cases z : t.1 ≤ c
  · rw [if_pos z]
    simp [z]
  · rw [if_neg z]
    simp [z]
/-! ### small numbers -/
def casesM (ws : List Int) : Int := ws.foldl (fun p w => p * (w + 1)) 1
theorem casesM_take {ws : List Int} {i : Nat} {x : Int} (h : ws[i]? = some x) : casesM (ws.take (i + 1)) = casesM (ws.take i) * (x + 1) := by
  unfold casesM
  rw [take_succ_at h, List.foldl_append]
  rfl
theorem first_at : ∀ {l : List Int} {x : Int}, x ∈ l → ∃ j : Nat, l[j]? = some x ∧ ∀ (m : Nat) y, m < j → l[m]? = some y → y ≠ x
  | a :: r, x, h => by
    by_cases e : a = x
    · subst e
      exact ⟨0, rfl, fun m y hm => absurd hm (Nat.not_lt_zero _)⟩
    · obtain ⟨j, h1, h2⟩ := first_at (l := r) ((List.mem_cons.mp h).resolve_left fun z => e z.symm)
      refine ⟨j + 1, h1, fun m y hm hy => ?_⟩
      cases m with
      | zero =>
        have : a = y := Option.some.inj hy
        rw [← this]
        exact e
      | succ m => exact h2 m y (by omega) hy
theorem casesM_zero : ∀ (ws : List Int) (p : Int), (∀ w ∈ ws, w = 0) → ws.foldl (fun p w => p * (w + 1)) p = p
  | [], _, _ => rfl
  | a :: r, p, h => by
    have e : a = 0 := h a List.mem_cons_self
    subst e
    show r.foldl (fun p w => p * (w + 1)) (p * (0 + 1)) = p
    rw [casesM_zero r _ fun w hw => h w (List.mem_cons_of_mem _ hw)]
    omega
theorem sum_nonneg : ∀ {ws : List Int}, (∀ w ∈ ws, 0 ≤ w) → 0 ≤ ws.sum
  | [], _ => by decide
  | a :: r, h => by
    have h1 := h a List.mem_cons_self
    have h2 := sum_nonneg (ws := r) fun w hw => h w (List.mem_cons_of_mem _ hw)
    rw [List.sum_cons]
    omega
theorem sum_get : ∀ {ws : List Int} {j : Nat} {x : Int}, (∀ w ∈ ws, 0 ≤ w) → ws[j]? = some x → x ≤ ws.sum
  | [], j, x, _, h => by simp at h
  | a :: r, 0, x, hh, h => by
    have e : a = x := Option.some.inj h
    have := sum_nonneg (ws := r) fun w hw => hh w (List.mem_cons_of_mem _ hw)
    rw [List.sum_cons]
    omega
  | a :: r, j + 1, x, hh, h => by
    have h1 := hh a List.mem_cons_self
    have h2 := sum_get (ws := r) (j := j) (x := x) (fun w hw => hh w (List.mem_cons_of_mem _ hw)) h
    rw [List.sum_cons]
    omega
def Small (ws : List Int) : Prop := ∀ w ∈ ws, 0 ≤ w ∧ w ≤ 9
theorem Small.app {ws : List Int} {n : Int} (h : Small ws) (h1 : 0 ≤ n) (h2 : n ≤ 9) : Small (ws ++ [n]) := fun w hw => by
  rcases List.mem_append.mp hw with z | z
  · exact h w z
  · rw [List.mem_singleton.mp z]
    exact ⟨h1, h2⟩
theorem Small.big {ws : List Int} (h : Small ws) : ∀ w ∈ ws, -1000000 ≤ w ∧ w ≤ 1000000 := fun w hw => by
  have := h w hw
  omega
/-! ### lesser wants, and sums -/
def LeW : List Int → List Int → Prop
  | [], [] => True
  | a :: r, b :: w => 0 ≤ a ∧ a ≤ b ∧ LeW r w
  | _, _ => False
theorem LeW.len : ∀ {r w : List Int}, LeW r w → r.length = w.length
  | [], [], _ => rfl
  | [], _ :: _, h => h.elim
  | _ :: _, [], h => h.elim
  | _ :: _, _ :: _, h => by rw [List.length_cons, List.length_cons, LeW.len h.2.2]
theorem LeW.nonneg : ∀ {r w : List Int}, LeW r w → ∀ x ∈ r, 0 ≤ x
  | [], [], _, _, hx => nomatch hx
  | [], _ :: _, h, _, _ => h.elim
  | _ :: _, [], h, _, _ => h.elim
  | a :: r, _ :: _, h, x, hx => by
    rcases List.mem_cons.mp hx with rfl | hx
    · exact h.1
    · exact LeW.nonneg h.2.2 x hx
theorem LeW.trans : ∀ {a b c : List Int}, LeW a b → LeW b c → LeW a c
  | [], [], [], _, _ => True.intro
  | [], [], _ :: _, _, h => h.elim
  | [], _ :: _, _, h, _ => h.elim
  | _ :: _, [], _, h, _ => h.elim
  | _ :: _, _ :: _, [], _, h => h.elim
  | _ :: _, _ :: _, _ :: _, h, k => ⟨h.1, Int.le_trans h.2.1 k.2.1, LeW.trans h.2.2 k.2.2⟩
theorem LeW.refl : ∀ {w : List Int}, (∀ x ∈ w, 0 ≤ x) → LeW w w
  | [], _ => True.intro
  | a :: r, h => ⟨h a List.mem_cons_self, Int.le_refl _, LeW.refl fun x hx => h x (List.mem_cons_of_mem _ hx)⟩
theorem LeW.small : ∀ {r w : List Int}, LeW r w → Small w → Small r
  | [], [], _, _ => fun x hx => nomatch hx
  | [], _ :: _, h, _ => h.elim
  | _ :: _, [], h, _ => h.elim
  | a :: r, b :: w, h, sm => fun x hx => by
    have hb := sm b List.mem_cons_self
    rcases List.mem_cons.mp hx with rfl | hx
    · exact ⟨h.1, by have := h.2.1; omega⟩
    · exact LeW.small h.2.2 (fun y hy => sm y (List.mem_cons_of_mem _ hy)) x hx
theorem sumI_nonneg : ∀ {ws : List Int}, (∀ w ∈ ws, 0 ≤ w) → 0 ≤ ws.sum
  | [], _ => by decide
  | a :: r, h => by
    have h1 := h a List.mem_cons_self
    have h2 := sumI_nonneg (ws := r) fun w hw => h w (List.mem_cons_of_mem _ hw)
    rw [List.sum_cons]
    omega
/-! ### tables through calls -/
theorem tabG_same {H H' : Hp} {T : Addr} (s : Same H H') (h : GxR.TabG H T) : GxR.TabG H' T := by
  obtain ⟨ps, h1, h2⟩ := h
  exact ⟨ps, s _ _ h1, h2⟩
theorem tabG_but {H H' : Hp} {T d : Addr} {xs : List V} (s : SameBut d H H') (hd : H d = some (.lst xs)) (h : GxR.TabG H T) : GxR.TabG H' T := by
  obtain ⟨ps, h1, h2⟩ := h
  exact ⟨ps, s _ _ (ne_of h1 hd (fun z => nomatch z)) h1, h2⟩
theorem tabbed_lst {H H' : Hp} {T a : Addr} {xs : List V} (t : GxR.Tabbed T H H') (hT : GxR.TabG H T) (h : H a = some (.lst xs)) : H' a = some (.lst xs) := by
  obtain ⟨ps, h1, h2⟩ := hT
  rw [t.2 a (ne_of h h1 (fun z => nomatch z))]
  exact h
theorem draw4 (x : Int) : ∃ m : Nat, 1 ≤ m ∧ m ≤ 4 ∧ 1 + x % 4 = (m : Int) := ⟨(1 + x % 4).toNat, by omega, by omega, by omega⟩
/-! ### a heap without one address; what is kept apart from tables -/
def cutH (d : Addr) (H : Hp) : Hp := fun b => if b = d then none else H b
section
variable {d : Addr} {H H' : Hp}
theorem cut_at {b : Addr} (h : b ≠ d) : cutH d H b = H b := if_neg h
theorem cut_put {b : Addr} {o : HO} (h : b ≠ d) (e : H b = some o) : cutH d H b = some o := by rw [cut_at h]; exact e
theorem cut_some {b : Addr} {o : HO} (h : cutH d H b = some o) : b ≠ d ∧ H b = some o := by
  unfold cutH at h
  by_cases e : b = d
  · rw [if_pos e] at h
    cases h
  · rw [if_neg e] at h
    exact ⟨e, h⟩
theorem cut_same (s : SameBut d H H') : Same (cutH d H) (cutH d H') := fun b o h => by
  obtain ⟨n, e⟩ := cut_some h
  exact cut_put n (s b o n e)
theorem cut_le : Same (cutH d H) H := fun _ _ h => (cut_some h).2
theorem cut_upd {u : Addr} {o : HO} (h : u ≠ d) : cutH d (upd H u o) = upd (cutH d H) u o := by
  funext b
  by_cases e : b = d
  · rw [e, upd_ne (fun z => h z.symm)]
    unfold cutH
    rw [if_pos rfl, if_pos rfl]
  · rw [cut_at e]
    by_cases e2 : b = u
    · rw [e2, upd_same, upd_same]
    · rw [upd_ne e2, upd_ne e2, cut_at e]
/-- all but tables stay -/
def Ke (H H' : Hp) : Prop := ∀ b o, H b = some o → (∀ ps, o ≠ .tbl ps) → H' b = some o
theorem Ke.refl (H : Hp) : Ke H H := fun _ _ e _ => e
theorem Ke.trans {H1 H2 : Hp} (a : Ke H H1) (b : Ke H1 H2) : Ke H H2 := fun c o e n => b c o (a c o e n) n
theorem Ke.of (s : Same H H') : Ke H H' := fun b o e _ => s b o e
theorem Ke.cut (a : Ke H H') : Ke (cutH d H) (cutH d H') := fun b o e n => by
  obtain ⟨n1, e1⟩ := cut_some e
  exact cut_put n1 (a b o e1 n)
theorem Ke.lst (a : Ke H H') {p : Addr} {xs : List V} (h : H p = some (.lst xs)) : H' p = some (.lst xs) := a _ _ h fun _ z => nomatch z
theorem Ke.tup (a : Ke H H') {p : Addr} {xs : List V} (h : H p = some (.tup xs)) : H' p = some (.tup xs) := a _ _ h fun _ z => nomatch z
theorem Ext.ke {T : List Addr} (e : Ext T H H') : Ke H H' := e.ext
theorem tb_same {T : List Addr} (s : Same H H') (h : Tb T H) : Tb T H' := fun t ht => tabG_same s (h t ht)
theorem tb_but {T : List Addr} {xs : List V} (s : SameBut d H H') (hd : H d = some (.lst xs)) (h : Tb T H) : Tb T H' := fun t ht => tabG_but s hd (h t ht)
theorem TiersAt.ke (e : Ke H H') {a : Addr} {ts : List (Int × Int)} (h : TiersAt H a ts) : TiersAt H' a ts := by
  obtain ⟨us, h1, h2, h3⟩ := h
  exact ⟨us, e.lst h1, h2, fun i u t a b => e.tup (h3 i u t a b)⟩
theorem OfrAt.ke (e : Ke H H') {a : Addr} : ∀ {o : Ofr}, OfrAt H a o → OfrAt H' a o
  | .pack c p, ⟨b, h1, h2⟩ => ⟨b, e.tup h1, e.lst h2⟩
  | .many c ts, ⟨b, t, h1, h2, h3⟩ => ⟨b, t, e.tup h1, e.lst h2, h3.ke e⟩
  | .add c p k, ⟨b, h1, h2⟩ => ⟨b, e.tup h1, e.lst h2⟩
theorem ShopAt.ke (e : Ke H H') {a : Addr} {os : List Ofr} (h : ShopAt H a os) : ShopAt H' a os := by
  obtain ⟨vs, h1, h2, h3⟩ := h
  exact ⟨vs, e.lst h1, h2, fun i v o a b => (h3 i v o a b).ke e⟩
theorem TiersAt.same (s : Same H H') {a : Addr} {ts : List (Int × Int)} (h : TiersAt H a ts) : TiersAt H' a ts := h.ke (.of s)
/-- a tier more -/
theorem TiersAt.push {F u : Addr} {ts : List (Int × Int)} {t : Int × Int} (h : TiersAt H F ts) (nu : H u = none) : ∃ xs, H F = some (.lst xs) ∧ xs.length = ts.length ∧ TiersAt (upd (upd H u (.tup [.int t.1, .int t.2])) F (.lst (xs ++ [.ref u]))) F (ts ++ [t]) := by
  obtain ⟨us, h1, h2, h3⟩ := h
  refine ⟨_, h1, by rw [List.length_map]; exact h2, us ++ [u], ?_, by rw [List.length_append, List.length_append, h2]; rfl, fun i v t' hv ht => ?_⟩
  · rw [upd_same, List.map_append]
    rfl
  · by_cases z : i < us.length
    · rw [List.getElem?_append_left z] at hv
      rw [List.getElem?_append_left (by omega)] at ht
      have e := h3 i v t' hv ht
      rw [upd_ne (ne_of e h1 (fun z => nomatch z)), upd_ne (ne_of_none e nu)]
      exact e
    · rw [List.getElem?_append_right (by omega)] at hv
      rw [List.getElem?_append_right (by omega)] at ht
      rw [← h2] at ht
      have ei : i - us.length = 0 := by
        rcases Nat.eq_zero_or_pos (i - us.length) with z | z
        · exact z
        · rw [List.getElem?_eq_none (by rw [List.length_singleton]; omega)] at hv
          cases hv
      rw [ei] at hv ht
      cases Option.some.inj hv
      cases Option.some.inj ht
      rw [upd_ne (fun z => by rw [z, h1] at nu; cases nu), upd_same]
end
/-! ### offers within bounds -/
def PriceT (ts : List (Int × Int)) : Prop := ∀ t ∈ ts, 0 ≤ t.2 ∧ t.2 < 1000000000000
theorem cut_off {d : Addr} {H : Hp} {o : HO} : cutH d (upd H d o) = cutH d H := by
  funext b
  by_cases e : b = d
  · unfold cutH
    rw [if_pos e, if_pos e]
  · rw [cut_at e, cut_at e, upd_ne e]
theorem cut_mono {d : Addr} {H H' : Hp} (s : Same H H') : Same (cutH d H) (cutH d H') := cut_same (.of s)
theorem TiersAt.cut {H : Hp} {S t : Addr} {ts : List (Int × Int)} {xs : List V} (h : TiersAt H t ts) (n : t ≠ S) (hS : H S = some (.lst xs)) : TiersAt (cutH S H) t ts := by
  obtain ⟨us, h1, h2, h3⟩ := h
  refine ⟨us, cut_put n h1, h2, fun i u t a b => ?_⟩
  have e := h3 i u t a b
  exact cut_put (ne_of e hS (fun z => nomatch z)) e
def FitO (m : Nat) : Ofr → Prop
  | .pack c p => c.length = m ∧ Small c ∧ 0 ≤ p ∧ p < 1000000000000
  | .many c ts => c.length = m ∧ Small c ∧ PriceT ts
  | .add c p _ => c.length = m ∧ Small c ∧ 0 ≤ p ∧ p < 1000000000000
def FitS (m : Nat) (os : List Ofr) : Prop := ∀ o ∈ os, FitO m o
theorem FitO.cont {m : Nat} : ∀ {o : Ofr}, FitO m o → o.cont.length = m ∧ Small o.cont
  | .pack _ _, h => ⟨h.1, h.2.1⟩
  | .many _ _, h => ⟨h.1, h.2.1⟩
  | .add _ _ _, h => ⟨h.1, h.2.1⟩
theorem FitS.fit {m : Nat} {os : List Ofr} (hm : m ≤ 4) (h : FitS m os) : Fit os := fun o ho => by
  refine ⟨?_, fun c p k e => ?_⟩
  · have := (h o ho).cont.1
    omega
  · subst e
    have := h _ ho
    exact ⟨by have := this.2.2.1; omega, by have := this.2.2.2; omega⟩
theorem FitS.push {m : Nat} {os : List Ofr} {o : Ofr} (h : FitS m os) (ho : FitO m o) : FitS m (os ++ [o]) := fun x hx => by
  rcases List.mem_append.mp hx with z | z
  · exact h x z
  · rw [List.mem_singleton.mp z]
    exact ho
theorem GoodO.mono {os : List Ofr} {i : Nat} {x : Ofr} : ∀ {o : Ofr}, GoodO os i o → GoodO (os ++ [x]) i o
  | .pack _ _, _ => True.intro
  | .many _ _, h => h
  | .add _ _ _, ⟨j, e, hj, c, p, h⟩ => ⟨j, e, hj, c, p, by rw [List.getElem?_append_left (List.getElem?_eq_some_iff.mp h).1]; exact h⟩
theorem Good.push {os : List Ofr} {o : Ofr} (h : Good os) (h8 : os.length < 8) (ho : GoodO os os.length o) : Good (os ++ [o]) := by
  refine ⟨by rw [List.length_append, List.length_singleton]; omega, fun i x hx => ?_⟩
  by_cases z : i < os.length
  · rw [List.getElem?_append_left z] at hx
    exact (h.2 i x hx).mono
  · have hi := (List.getElem?_eq_some_iff.mp hx).1
    rw [List.length_append, List.length_singleton] at hi
    have ei : i = os.length := by omega
    rw [List.getElem?_append_right (by omega), ei, Nat.sub_self] at hx
    cases Option.some.inj hx
    rw [ei]
    exact ho.mono
/-! ### lines as data -/
abbrev dInts (ns : List Int) : PyData := .list (ns.map PyData.int)
def dLine (l : Ln) : PyData := .tuple [.int l.p, .int l.c, dInts l.as]
abbrev dLines (ls : List Ln) : PyData := .list (ls.map dLine)
theorem LineAt.dp {K : PySem.W.Frag} {H : Hp} {a : Addr} {l : Ln} (h : LineAt H a l) : Dp K H (.ref a) (dLine l) := by
  obtain ⟨b, h1, h2⟩ := h
  exact .tup (SqT.of h1) (.cons (.int _) (.cons (.int _) (.cons (dp_ints (SqL.of h2)) .nil)))
theorem LineAt.same {H H' : Hp} (s : Same H H') {a : Addr} {l : Ln} (h : LineAt H a l) : LineAt H' a l := by
  obtain ⟨b, h1, h2⟩ := h
  exact ⟨b, s _ _ h1, s _ _ h2⟩
theorem LineAt.ke {H H' : Hp} (s : Ke H H') {a : Addr} {l : Ln} (h : LineAt H a l) : LineAt H' a l := by
  obtain ⟨b, h1, h2⟩ := h
  exact ⟨b, s.tup h1, s.lst h2⟩
theorem dp_lines {K : PySem.W.Frag} {H : Hp} : ∀ {as : List Addr} {ls : List Ln}, Al (LineAt H) as ls → DpAll K H (as.map V.ref) (ls.map dLine)
  | [], [], _ => .nil
  | [], _ :: _, h => h.elim
  | _ :: _, [], h => h.elim
  | _ :: _, _ :: _, h => .cons h.1.dp (dp_lines h.2)
theorem lay_line (l : Ln) : PyData.canLay0 (dLine l) = true := by
  have := lay_ints l.as
  simp [dLine, PyData.canLayAll0, PyData.canLay0, this]
theorem depth_line (l : Ln) : PyData.depth (dLine l) ≤ 2 := by
  have := depth_ints l.as
  simp only [dLine, PyData.depth, PyData.depthAll, this]
  decide
theorem lay_lines : ∀ ls : List Ln, PyData.canLayAll0 (ls.map dLine) = true
  | [] => by simp [PyData.canLayAll0]
  | l :: r => by
    have ih := lay_lines r
    have h1 := lay_line l
    simp [PyData.canLayAll0, ih, h1]
theorem depth_lines : ∀ ls : List Ln, PyData.depthAll (ls.map dLine) ≤ 2
  | [] => by simp [PyData.depthAll]
  | l :: r => by
    have ih := depth_lines r
    have h1 := depth_line l
    simp only [List.map_cons, PyData.depthAll]
    omega
theorem shaped_lines (ls : List Ln) : SeqAt.shaped (dLines ls) = true := by
  unfold SeqAt.shaped
  have h1 : PyData.canLay0 (dLines ls) = true := by
    simp only [PyData.canLay0]
    exact lay_lines ls
  have h2 : PyData.depth (dLines ls) ≤ 64 := by
    have := depth_lines ls
    simp only [PyData.depth]
    omega
  rw [h1, decide_eq_true h2]
  rfl
theorem shaped_line (l : Ln) : SeqAt.shaped (dLine l) = true := by
  unfold SeqAt.shaped
  have h2 : PyData.depth (dLine l) ≤ 64 := Nat.le_trans (depth_line l) (by decide)
  rw [lay_line l, decide_eq_true h2]
  rfl
theorem linesAtM_p {os : List Ofr} {i : Nat} {l : Ln} (h : l ∈ linesAtM os i) : l.p = (i : Int) := by
  unfold linesAtM at h
  split at h
  · obtain ⟨c, _, rfl⟩ := List.mem_map.mp h
    rfl
  · obtain ⟨c, _, rfl⟩ := List.mem_map.mp h
    rfl
  · cases h
theorem flat_one {α : Type} (X : List α) (p : Nat) : ∀ n : Nat, (List.range n).flatMap (fun i => if i = p then X else []) = if p < n then X else []
  | 0 => by simp
  | n + 1 => by
    rw [List.range_succ, List.flatMap_append, flat_one X p n, List.flatMap_singleton]
    by_cases h1 : p < n
    · rw [if_pos h1, if_neg (by omega), if_pos (by omega), List.append_nil]
    · rw [if_neg h1, List.nil_append]
      by_cases h2 : n = p
      · rw [if_pos h2, if_pos (by omega)]
      · rw [if_neg h2, if_neg (by omega)]
theorem lines_filter {os : List Ofr} {p : Nat} (h : p < os.length) : (linesM os).filter (fun l => decide (l.p = (p : Int))) = linesAtM os p := by
  unfold linesM
  rw [List.filter_flatMap]
  have e : ∀ i : Nat, (linesAtM os i).filter (fun l => decide (l.p = (p : Int))) = if i = p then linesAtM os p else [] := fun i => by
    by_cases z : i = p
    · rw [if_pos z, z, List.filter_eq_self]
      exact fun l hl => decide_eq_true (linesAtM_p hl)
    · rw [if_neg z, List.filter_eq_nil_iff]
      intro l hl
      have := linesAtM_p hl
      rw [decide_eq_true_eq]
      omega
  rw [show (fun i => (linesAtM os i).filter (fun l => decide (l.p = (p : Int)))) = fun i => if i = p then linesAtM os p else [] from funext e, flat_one, if_pos h]
/-! ### the tier of a count -/
def stepT (q : Int → Prop) [DecidablePred q] (ts : List (Int × Int)) (e : Int) : Int := ts.foldl (fun e t => if q t.1 then t.2 else e) e
theorem stepT_none {q : Int → Prop} [DecidablePred q] : ∀ {ts : List (Int × Int)} {e : Int}, (∀ t ∈ ts, ¬ q t.1) → stepT q ts e = e
  | [], _, _ => rfl
  | t :: r, e, h => by
    show stepT q r (if q t.1 then t.2 else e) = e
    rw [if_neg (h t List.mem_cons_self)]
    exact stepT_none fun t ht => h t (List.mem_cons_of_mem _ ht)
theorem stepT_split (c : Int) : ∀ (ts : List (Int × Int)) (e : Int), ts.Pairwise (fun a b => a.1 < b.1) → stepT (· = c) ts (stepT (· ≤ c - 1) ts e) = stepT (· ≤ c) ts e
  | [], _, _ => rfl
  | t :: r, e, h => by
    obtain ⟨h1, h2⟩ := List.pairwise_cons.mp h
    show stepT (· = c) r (if t.1 = c then t.2 else stepT (· ≤ c - 1) r (if t.1 ≤ c - 1 then t.2 else e)) = stepT (· ≤ c) r (if t.1 ≤ c then t.2 else e)
    by_cases z1 : t.1 ≤ c - 1
    · rw [if_pos z1, if_neg (by omega), if_pos (by omega)]
      exact stepT_split c r t.2 h2
    · rw [if_neg z1]
      by_cases z2 : t.1 = c
      · rw [if_pos z2, if_pos (by omega), stepT_none (q := (· = c)) fun x hx => by have := h1 x hx; omega, stepT_none (q := (· ≤ c)) fun x hx => by have := h1 x hx; omega]
      · rw [if_neg z2, if_neg (by omega)]
        exact stepT_split c r e h2
theorem pieceM_step (c : Int) : ∀ (ts : List (Int × Int)) (e : Int), (pieceL ts c).getLastD e = stepT (· ≤ c) ts e
  | [], _ => rfl
  | t :: r, e => by
    show _ = stepT (· ≤ c) r (if t.1 ≤ c then t.2 else e)
    rw [← pieceM_step c r]
    unfold pieceL
    by_cases z : t.1 ≤ c
    · rw [if_pos z, List.filter_cons_of_pos (p := fun t : Int × Int => decide (t.1 ≤ c)) (decide_eq_true z), List.map_cons, List.getLastD_cons]
    · rw [if_neg z, List.filter_cons_of_neg (by rw [decide_eq_true_eq]; exact z)]
theorem GoodT.pair {ts : List (Int × Int)} (h : GoodT ts) : ts.Pairwise (fun a b => a.1 < b.1) := by
  have step : ∀ (n i : Nat) (a b : Int × Int), ts[i]? = some a → ts[i + (n + 1)]? = some b → a.1 < b.1 := by
    intro n
    induction n with
    | zero => exact fun i a b ha hb => h.rise i a b ha hb
    | succ n ih =>
      intro i a b ha hb
      have hl := (List.getElem?_eq_some_iff.mp hb).1
      have g := List.getElem?_eq_getElem (show i + (n + 1) < ts.length by omega)
      have h1 := ih i a _ ha g
      have h2 := h.rise (i + (n + 1)) _ b g hb
      omega
  rw [List.pairwise_iff_getElem]
  intro i j hi hj hij
  have := step (j - i - 1) i ts[i] ts[j] (List.getElem?_eq_getElem hi) (by rw [show i + (j - i - 1 + 1) = j by omega]; exact List.getElem?_eq_getElem hj)
  exact this
theorem GoodT.ge1 {ts : List (Int × Int)} (h : GoodT ts) : ∀ t ∈ ts, 1 ≤ t.1 := fun t ht => by
  obtain ⟨i, hi, rfl⟩ := List.getElem_of_mem ht
  have e0 := h.one _ (List.getElem?_eq_getElem (show 0 < ts.length by omega))
  rcases Nat.eq_zero_or_pos i with z | z
  · subst z
    omega
  · have := List.pairwise_iff_getElem.mp h.pair 0 i (by omega) hi z
    omega
theorem pieceM_zero {ts : List (Int × Int)} (h : GoodT ts) : pieceM ts 0 = 0 := by
  unfold pieceM
  rw [pieceM_step]
  exact stepT_none fun t ht => by have := h.ge1 t ht; omega
theorem pieceM_succ {ts : List (Int × Int)} (h : GoodT ts) (c : Int) : stepT (· = c) ts (pieceM ts (c - 1)) = pieceM ts c := by
  unfold pieceM
  rw [pieceM_step, pieceM_step]
  exact stepT_split c ts 0 h.pair
theorem stepT_take {q : Int → Prop} [DecidablePred q] {ts : List (Int × Int)} {i : Nat} {t : Int × Int} {e : Int} (h : ts[i]? = some t) : stepT q (ts.take (i + 1)) e = if q t.1 then t.2 else stepT q (ts.take i) e := by
  unfold stepT
  rw [take_succ_at h, List.foldl_append]
  rfl
/-! ### shops made of offers -/
theorem ShopAt.of_al {H : Hp} {a : Addr} {vs : List Addr} {os : List Ofr} (h : H a = some (.lst (vs.map V.ref))) (al : Al (OfrAt H) vs os) : ShopAt H a os := by
  refine ⟨vs, h, al.len, fun i v o hv ho => ?_⟩
  obtain ⟨x, hx, r⟩ := al.get hv
  rw [ho] at hx
  cases Option.some.inj hx
  exact r
theorem TiersAt.of_al {H : Hp} {a : Addr} {us : List Addr} {ts : List (Int × Int)} (h : H a = some (.lst (us.map V.ref))) (al : Al (fun u (t : Int × Int) => H u = some (.tup [.int t.1, .int t.2])) us ts) : TiersAt H a ts := by
  refine ⟨us, h, al.len, fun i v o hv ho => ?_⟩
  obtain ⟨x, hx, r⟩ := al.get hv
  rw [ho] at hx
  cases Option.some.inj hx
  exact r
theorem ShopAt.al {H : Hp} {a : Addr} {os : List Ofr} (h : ShopAt H a os) : ∃ vs : List Addr, H a = some (.lst (vs.map V.ref)) ∧ Al (OfrAt H) vs os := by
  obtain ⟨vs, h1, h2, h3⟩ := h
  refine ⟨vs, h1, ?_⟩
  clear h1
  induction vs generalizing os with
  | nil =>
    cases os with
    | nil => exact True.intro
    | cons o r => simp at h2
  | cons v vr ih =>
    cases os with
    | nil => simp at h2
    | cons o r => exact ⟨h3 0 v o rfl rfl, ih (by simpa using h2) fun i v o hv ho => h3 (i + 1) v o hv ho⟩
theorem goodT_one (p : Int) : GoodT [(1, p)] := by
  refine ⟨by show 1 ≤ 1; decide, by show 1 ≤ 4; decide, fun t e => ?_, fun t ht => ?_, fun i a b ha hb => by simp at hb⟩
  · cases Option.some.inj e
    rfl
  · rw [List.mem_singleton.mp ht]
    show (1 : Int) ≤ 12
    decide
/-! ### shops as data -/
def dTier (t : Int × Int) : PyData := .tuple [.int t.1, .int t.2]
def dOfr : Ofr → PyData
  | .pack c p => .tuple [.str "pack", dInts c, .int p]
  | .many c ts => .tuple [.str "many", dInts c, .list (ts.map dTier)]
  | .add c p k => .tuple [.str "add", dInts c, .int p, .int k]
abbrev dShop (os : List Ofr) : PyData := .list (os.map dOfr)
theorem dp_tiers {K : PySem.W.Frag} {H : Hp} : ∀ {us : List Addr} {ts : List (Int × Int)}, us.length = ts.length → (∀ (i : Nat) u (t : Int × Int), us[i]? = some u → ts[i]? = some t → H u = some (.tup [.int t.1, .int t.2])) → DpAll K H (us.map V.ref) (ts.map dTier)
  | [], [], _, _ => .nil
  | [], _ :: _, h, _ => by simp at h
  | _ :: _, [], h, _ => by simp at h
  | u :: us, t :: ts, hl, h => .cons (.tup (SqT.of (h 0 u t rfl rfl)) (.cons (.int _) (.cons (.int _) .nil))) (dp_tiers (by simpa using hl) fun i u' t' a b => h (i + 1) u' t' a b)
theorem TiersAt.dp {K : PySem.W.Frag} {H : Hp} {a : Addr} {ts : List (Int × Int)} (h : TiersAt H a ts) : Dp K H (.ref a) (.list (ts.map dTier)) := by
  obtain ⟨us, h1, h2, h3⟩ := h
  exact .lst (SqL.of h1) (dp_tiers h2 h3)
theorem OfrAt.dp {K : PySem.W.Frag} {H : Hp} {a : Addr} : ∀ {o : Ofr}, OfrAt H a o → Dp K H (.ref a) (dOfr o)
  | .pack c p, ⟨b, h1, h2⟩ => .tup (SqT.of h1) (.cons (.str _) (.cons (dp_ints (SqL.of h2)) (.cons (.int _) .nil)))
  | .many c ts, ⟨b, t, h1, h2, h3⟩ => .tup (SqT.of h1) (.cons (.str _) (.cons (dp_ints (SqL.of h2)) (.cons h3.dp .nil)))
  | .add c p k, ⟨b, h1, h2⟩ => .tup (SqT.of h1) (.cons (.str _) (.cons (dp_ints (SqL.of h2)) (.cons (.int _) (.cons (.int _) .nil))))
theorem dp_ofrs {K : PySem.W.Frag} {H : Hp} : ∀ {vs : List Addr} {os : List Ofr}, Al (OfrAt H) vs os → DpAll K H (vs.map V.ref) (os.map dOfr)
  | [], [], _ => .nil
  | [], _ :: _, h => h.elim
  | _ :: _, [], h => h.elim
  | _ :: _, _ :: _, h => .cons h.1.dp (dp_ofrs h.2)
theorem ShopAt.dp {K : PySem.W.Frag} {H : Hp} {a : Addr} {os : List Ofr} (h : ShopAt H a os) : Dp K H (.ref a) (dShop os) := by
  obtain ⟨vs, h1, al⟩ := h.al
  exact .lst (SqL.of h1) (dp_ofrs al)
theorem lay_tiers : ∀ ts : List (Int × Int), PyData.canLayAll0 (ts.map dTier) = true
  | [] => by simp [PyData.canLayAll0]
  | t :: r => by
    have ih := lay_tiers r
    simp [PyData.canLayAll0, PyData.canLay0, dTier, ih]
theorem depth_tiers : ∀ ts : List (Int × Int), PyData.depthAll (ts.map dTier) ≤ 1
  | [] => by simp [PyData.depthAll]
  | t :: r => by
    have ih := depth_tiers r
    simp only [List.map_cons, PyData.depthAll, PyData.depth, dTier]
    omega
theorem lay_ofr (o : Ofr) : PyData.canLay0 (dOfr o) = true := by
  cases o with
  | pack c p =>
    have := lay_ints c
    simp [dOfr, PyData.canLayAll0, PyData.canLay0, this]
    decide +kernel
  | many c ts =>
    have := lay_ints c
    have h2 := lay_tiers ts
    simp [dOfr, PyData.canLayAll0, PyData.canLay0, this, h2]
    decide +kernel
  | add c p k =>
    have := lay_ints c
    simp [dOfr, PyData.canLayAll0, PyData.canLay0, this]
    decide +kernel
theorem depth_ofr (o : Ofr) : PyData.depth (dOfr o) ≤ 4 := by
  cases o with
  | pack c p =>
    have := depth_ints c
    simp only [dOfr, PyData.depth, PyData.depthAll, this]
    omega
  | many c ts =>
    have := depth_ints c
    have h2 := depth_tiers ts
    simp only [dOfr, PyData.depth, PyData.depthAll, this]
    omega
  | add c p k =>
    have := depth_ints c
    simp only [dOfr, PyData.depth, PyData.depthAll, this]
    omega
theorem lay_ofrs : ∀ os : List Ofr, PyData.canLayAll0 (os.map dOfr) = true
  | [] => by simp [PyData.canLayAll0]
  | o :: r => by
    have ih := lay_ofrs r
    have h1 := lay_ofr o
    simp [PyData.canLayAll0, ih, h1]
theorem depth_ofrs : ∀ os : List Ofr, PyData.depthAll (os.map dOfr) ≤ 4
  | [] => by simp [PyData.depthAll]
  | o :: r => by
    have ih := depth_ofrs r
    have h1 := depth_ofr o
    simp only [List.map_cons, PyData.depthAll]
    omega
theorem shaped_shop (os : List Ofr) : SeqAt.shaped (dShop os) = true := by
  unfold SeqAt.shaped
  have h1 : PyData.canLay0 (dShop os) = true := by
    simp only [PyData.canLay0]
    exact lay_ofrs os
  have h2 : PyData.depth (dShop os) ≤ 64 := by
    have := depth_ofrs os
    simp only [PyData.depth]
    omega
  rw [h1, decide_eq_true h2]
  rfl
/-! ### _law_pop -/
abbrev s_law_pop : Stmt := topS 68
abbrev N_law_pop : List Str := ["_law_draws_here"]
theorem sc_law_pop : FnScope N_law_pop ["_law_draws_here"] (defScope s_law_pop) := ⟨rfl, rfl, rfl, by decide +kernel, rfl, by decide +kernel, by decide +kernel⟩

def sp_pop : Sp := fun vs H Q _ => ∃ (a : Addr) (ns : List Int), vs = [.ref a] ∧ H a = some (LI ns) ∧ ∀ H', SameBut a H H' → H' a = some (LI ns.tail) → Q (.int (ns.headD 0)) H'
section
variable {P : Program} {w : World} {K : PySem.W.Frag} {mg : Str → Option Value} {base : Heap}
theorem ok_pop {f : Addr} {fd : FuncData} {k : Nat} (D : Def K mg "_law_pop" s_law_pop ["_law_draws_here"] f fd) : FnOk P w K mg base CX0 (k + 1) f fd ["_law_draws_here"] sp_pop := by
  refine D.F.ok sc_law_pop (fun vs H Q E h => ?_) (fun cdv A outer s H vs Q E hr h => ?_)
  · obtain ⟨a, ns, rfl, _⟩ := h
    rfl
  · obtain ⟨a, ns, rfl, ha, q⟩ := h
    refine ⟨_, (pss_cons (ps_if (pt_cmpR (op_eqD hr.units) (pv 0) (pe_lst pa_nil) (nomark _))
   (pss_one (ps_ret pe_int))
   pss_nil)
  (pss_one (ps_ret (pe_bm PySem.F.plainAttrs_list PySem.F.slot_list_pop PySem.F.type_list_pop mt_popAt (pv 0) (pa_cons pe_int pa_nil))))), ?_⟩
    refine ⟨.ref a, rfl, Nat.zero_le _, fun p np => ?_⟩
    have ne : a ≠ p := ne_of_none ha np
    have ha1 : upd H p (.lst []) a = some (LI ns) := by rw [upd_ne ne]; exact ha
    have s1 : SameBut a H (upd H p (.lst [])) := .of (same_upd np)
    refine ⟨_, _, dp_ints (SqL.of ha1), dp_ints (ns := []) (SqL.of upd_same), shaped_ints _, shaped_ints _, _, rfl, ite2 (fun e => ?_) (fun e => ?_)⟩
    · rw [eqv_ints] at e
      have e2 : ns = [] := of_decide_eq_true e
      subst e2
      exact q _ s1 ha1
    · rw [eqv_ints] at e
      cases ns with
      | nil => exact absurd (decide_eq_true rfl) e
      | cons n r =>
        refine ⟨.ref a, rfl, .inl ⟨rfl, _, SqL.of ha1⟩, a, _, 0, 0, .int n, rfl, rfl, ha1, by decide, by decide, ?_, rfl, ?_⟩
        · rw [List.length_map, List.length_cons]
          exact (ixN_seq (ixN_nat (Nat.succ_pos _))).1
        · exact q _ (s1.trans .upd) upd_same
end
/-! ### _law_mix, _law_draws -/
abbrev s_law_mix : Stmt := topS 66
abbrev N_law_mix : List Str := ["_law_cell", "_law_turn", "_law_number"]
theorem sc_law_mix : FnScope N_law_mix ["_law_cell", "_law_turn"] (defScope s_law_mix) := ⟨rfl, rfl, rfl, by decide +kernel, rfl, by decide +kernel, by decide +kernel⟩

abbrev s_law_draws : Stmt := topS 67
abbrev N_law_draws : List Str := ["_law_script", "_law_turn", "_law_many", "_law_cells", "_law_lefts", "_law_found", "_law_k", "_law_at", "_law_number", "_law_cell"]
theorem sc_law_draws : FnScope N_law_draws ["_law_script", "_law_turn", "_law_many"] (defScope s_law_draws) := ⟨rfl, rfl, rfl, by decide +kernel, rfl, by decide +kernel, by decide +kernel⟩

theorem cut_to (ns : List Int) (k : Nat) : cutV (ns.map V.int) none (some (k : Int)) = (ns.take k).map V.int := by
  unfold cutV
  rw [HT.sIx_nat, HT.sIx_none, List.drop_zero, Nat.sub_zero, List.map_take]
  exact (List.take_eq_take_iff).mpr (by omega)
theorem cut_ints (ns : List Int) (lo hi : Option Int) : ∃ ms : List Int, cutV (ns.map V.int) lo hi = ms.map V.int ∧ ms.length ≤ ns.length := by
  refine ⟨(ns.drop (HT.sIx (ns.map V.int).length 0 lo)).take (HT.sIx (ns.map V.int).length (ns.map V.int).length hi - HT.sIx (ns.map V.int).length 0 lo), ?_, ?_⟩
  · unfold cutV
    rw [List.map_take, List.map_drop]
  · rw [List.length_take, List.length_drop]
    omega
def sp_mix : Sp := fun vs H Q _ => ∃ (c : Int) (t : Nat), vs = [.int c, .int t] ∧ t ≤ 5000 ∧ ∀ n : Int, 0 ≤ n → n < 2147483629 → Q (.int n) H
def sp_draws (K : PySem.W.Frag) : Sp := fun vs H Q _ => ∃ (a : Addr) (ns : List Int) (t m : Nat), vs = [.ref a, .int t, .int m] ∧ SqL K H a (ns.map V.int) ∧ ns.length ≤ 1000 ∧ t ≤ 1000 ∧ m ≤ 1000 ∧
  ∀ H' p ds, Same H H' → H p = none → H' p = some (LI ds) → Q (.ref p) H'
section
variable {P : Program} {w : World} {K : PySem.W.Frag} {mg : Str → Option Value} {base : Heap}
theorem ok_mix {f : Addr} {fd : FuncData} {k : Nat} (D : Def K mg "_law_mix" s_law_mix ["_law_cell", "_law_turn"] f fd) : FnOk P w K mg base CX0 (k + 1) f fd ["_law_cell", "_law_turn"] sp_mix := by
  refine D.F.ok sc_law_mix (fun vs H Q E h => ?_) (fun cdv A outer s H vs Q E hr h => ?_)
  · obtain ⟨c, t, rfl, _⟩ := h
    rfl
  · obtain ⟨c, t, rfl, ht, q⟩ := h
    have mb : ∀ z : Int, -(2 ^ 64) < z % 2147483647 ∧ z % 2147483647 < 2 ^ 64 := fun z => by omega
    refine ⟨_, (pss_cons (ps_set (i := 2) sc_law_mix.nd rfl (Or.inl rfl) (pe_op op_mod (pe_op op_mul (pe_op op_add (pe_op op_add (pe_op op_mod (pv 0) pe_int) (pe_op op_mul (pe_op op_mul (pv 1) (pv 1)) pe_int)) pe_int) pe_int) pe_int))
  (pss_one (ps_ret (pe_op op_mod (pe_op op_add (pe_op op_mul (pv 2) (pv 2)) (pe_op op_mul pe_int (pv 1))) pe_int)))), ?_⟩
    refine ⟨_, rfl, _, _, rfl, rfl, (by show (0 : Int) < _; decide), _, rfl, _, rfl, _, _, rfl, rfl, .inl ⟨by omega, by omega⟩, _, _, rfl, rfl, .inr ⟨by decide, by decide⟩, _, _, rfl, rfl, _, _, rfl, rfl, _, _, rfl, rfl, .inr ⟨by decide, by decide⟩, _, _, rfl, rfl, (by show (0 : Int) < _; decide), ?_⟩
    refine ⟨_, rfl, _, rfl, _, _, rfl, rfl, .inl (mb _), _, rfl, _, _, rfl, rfl, .inl ⟨by decide, by decide⟩, _, _, rfl, rfl, _, _, rfl, rfl, (by show (0 : Int) < _; decide), ?_⟩
    exact q _ (Int.emod_nonneg _ (by decide)) (Int.emod_lt_of_pos _ (by decide))
theorem ok_draws {f f1 : Addr} {fd fd1 : FuncData} {k : Nat} (M : Names mg) (D : Def K mg "_law_draws" s_law_draws ["_law_script", "_law_turn", "_law_many"] f fd) (D_law_mix : Def K mg "_law_mix" s_law_mix ["_law_cell", "_law_turn"] f1 fd1) :
    FnOk P w K mg base CX0 (k + 2) f fd ["_law_script", "_law_turn", "_law_many"] (sp_draws K) := by
  have G_law_mix : FnOk P w K mg base CX0 (k + 1) f1 fd1 ["_law_cell", "_law_turn"] sp_mix := ok_mix D_law_mix
  refine D.F.ok sc_law_draws (fun vs H Q E h => ?_) (fun cdv A outer s H vs Q E hr h => ?_)
  · obtain ⟨a, ns, t, m, rfl, _⟩ := h
    rfl
  · obtain ⟨a, ns, t, m, rfl, hS, hl, ht, hm, q⟩ := h
    refine ⟨_, (pss_cons (ps_set (i := 3) sc_law_draws.nd rfl (Or.inl rfl) (pe_op op_cat (pe_slice sl_list (pv 0) po_none (po_some pe_int)) (pe_lst (pa_cons (pv 1) pa_nil))))
  (pss_cons (ps_setLc (i := 4) (own := [("_law_cell", 9)]) (by rfl) sc_law_draws.nd rfl rfl (sw_true rfl rfl rfl (by decide +kernel)) (pi_list (pv 3)) (blkOk_by (own := [("_law_cell", 9)]) (N := N_law_draws) (sc := defScope s_law_draws) (by decide +kernel)) (fun _ _ _ _ _ => (pg_name (i := 9) sc_law_draws.nd rfl (Or.inl rfl))) (fun _ _ _ _ _ => pts_nil) (fun _ _ _ _ _ => (pe_op op_fdiv (pv 9) pe_int)))
  (pss_cons (ps_set (i := 5) sc_law_draws.nd rfl (Or.inl rfl) (pe_lst pa_nil))
  (pss_cons (ps_for PassesOwn.never rfl (pi_range1 (by rfl) M.range (pa_cons (pe_op op_add (pv 1) (pv 2)) pa_nil)) (pg_name (i := 6) sc_law_draws.nd rfl (Or.inl rfl))
   (pss_cons (ps_set (i := 7) sc_law_draws.nd rfl (Or.inl rfl) (pe_op op_mod (pv 6) (pe_callB call_len_seq (by rfl) M.len (by decide +kernel) (pa_cons (pv 3) pa_nil))))
  (pss_cons (ps_set (i := 8) sc_law_draws.nd rfl (Or.inl rfl) (pe_call G_law_mix hr (by rfl) D_law_mix.g D_law_mix.F.kp D_law_mix.b .nil pass0 (pa_cons (pe_ix ix_list (pv 3) (pv 7) (fun _ _ => rfl)) (pa_cons (pv 6) pa_nil))))
  (pss_cons (ps_set (i := 8) sc_law_draws.nd rfl (Or.inl rfl) (pe_op op_mod (pe_op op_add (pe_op op_mul (pv 8) (pv 8)) (pe_op op_mul pe_int (pv 6))) pe_int))
  (pss_cutI (ps_if (PW.pt (pw_and (pt_cmpR op_ge (pe_ix ix_list (pv 3) (pv 7) (fun _ _ => rfl)) (pe_op op_pow pe_int pe_int) (nomark _)) (pw_and1 (pt_cmpR op_gt (pe_ix ix_list (pv 4) (pv 7) (fun _ _ => rfl)) pe_int (nomark _)))))
   (pss_cons (ps_set (i := 8) sc_law_draws.nd rfl (Or.inl rfl) (pe_op op_mod (pe_ix ix_list (pv 4) (pv 7) (fun _ _ => rfl)) pe_int))
  (pss_one (ps_asg (pe_op op_fdivW (pe_ix ix_list (pv 4) (pv 7) (fun _ _ => rfl)) pe_int) (pg_sub (pv 4) (pv 7) set_list))))
   pss_nil)
  (pss_one (ps_expr (pe_bm PySem.F.plainAttrs_list PySem.F.slot_list_append PySem.F.type_list_append mt_append (pv 5) (pa_cons (pv 8) pa_nil)))))))))
  (pss_one (ps_ret (pe_slice sl_list (pv 5) (po_some (pv 1)) po_none))))))), ?_⟩
    refine ⟨.ref a, rfl, 63, rfl, a, ns.map V.int, rfl, hS, fun c nc => ?_⟩
    refine ⟨.int t, rfl, by show 1 ≤ sizeLine; decide, fun u nu => ?_⟩
    have hcu : c ≠ u := ne_of_none upd_same nu
    have hc : (upd (upd H c (.lst (cutV (ns.map V.int) none (some 63)))) u (.lst [.int (t : Int)])) c = some (.lst (cutV (ns.map V.int) none (some 63))) := by
      rw [upd_ne hcu]
      exact upd_same
    have hlen := cutV_length (ns.map V.int) none (some 63)
    rw [List.length_map] at hlen
    refine ⟨c, u, _, _, rfl, rfl, hc, upd_same, szL (by rw [show ([V.int (t : Int)] : List V).length = 1 from rfl]; omega), fun e ne => ?_⟩
    obtain ⟨cs, ecs, hcs1, hcs2⟩ : ∃ cs : List Int, cutV (ns.map V.int) none (some 63) ++ [V.int (t : Int)] = cs.map V.int ∧ 0 < cs.length ∧ cs.length ≤ 2000 := by
      refine ⟨ns.take 63 ++ [(t : Int)], ?_, ?_, ?_⟩
      · rw [show (63 : Int) = ((63 : Nat) : Int) from rfl, cut_to, List.map_append]
        rfl
      · rw [List.length_append]
        exact Nat.succ_pos _
      · rw [List.length_append, List.length_take, List.length_singleton]
        omega
    have s1 : Same H (upd (upd (upd H c (.lst (cutV (ns.map V.int) none (some 63)))) u (.lst [.int (t : Int)])) e (.lst (cutV (ns.map V.int) none (some 63) ++ [.int (t : Int)]))) :=
      ((same_upd nc).trans (same_upd nu)).trans (same_upd ne)
    have he1 : (upd (upd (upd H c (.lst (cutV (ns.map V.int) none (some 63)))) u (.lst [.int (t : Int)])) e (.lst (cutV (ns.map V.int) none (some 63) ++ [.int (t : Int)]))) e = some (LI cs) := by
      rw [upd_same, ecs]
    generalize (upd (upd (upd H c (.lst (cutV (ns.map V.int) none (some 63)))) u (.lst [.int (t : Int)])) e (.lst (cutV (ns.map V.int) none (some 63) ++ [.int (t : Int)]))) = H2 at s1 he1 ⊢
    -- lefts
    refine ⟨.ref e, rfl, e, rfl, ⟨_, SqL.of he1⟩, fun B nB => lc_list (xs := cs.map V.int) (fun i H' => Same H2 H' ∧ ∃ ls : List Int, H' B = some (LI ls) ∧ ls.length = i) ⟨same_upd nB, [], upd_same, rfl⟩ (fun i H' _ hp => SqL.of (hp.1 _ _ he1)) (fun i x H' hx hp => ?_) (fun H3 hp => ?_)⟩
    · obtain ⟨s3, ls, hB, hls⟩ := hp
      obtain ⟨n, hn, rfl⟩ := of_get_ints hx
      have hi : i < cs.length := (List.getElem?_eq_some_iff.mp hn).1
      refine ⟨rfl, _, rfl, _, _, rfl, rfl, ⟨by decide, by decide⟩, _, hB, szL' (by rw [List.length_map]; omega), sm_new s3 nB, ls ++ [n / 100000], ?_, by rw [List.length_append, hls]; rfl⟩
      exact at_app
    · obtain ⟨s3, ls, hB, hls⟩ := hp
      rw [List.length_map] at hls
      have s3' := s1.trans s3
      have he3 := s3 _ _ he1
      have neB : e ≠ B := ne_of_none he1 nB
      have nBH : H B = none := s1.free nB
      -- found = []
      refine ⟨Nat.zero_le _, fun o no => ?_⟩
      have noB : B ≠ o := ne_of_none hB no
      have noe : e ≠ o := ne_of_none he3 no
      have noH : H o = none := s3'.free no
      have s4 := s3'.trans (same_upd (o := .lst []) no)
      have he4 := (same_upd (o := .lst []) no) _ _ he3
      have hB4 := (same_upd (o := .lst []) no) _ _ hB
      have ho4 : (upd H3 o (.lst [])) o = some (LI []) := upd_same
      generalize (upd H3 o (.lst [])) = H4 at s4 he4 hB4 ho4 ⊢
      refine ⟨_, rfl, _, rfl, _, _, rfl, rfl, _, rfl, by omega, by omega, for_range (n := ((t : Int) + (m : Int)).toNat) (fun i σ H' => ∃ y6 y7 y8, σ = [some (.ref a), some (.int t), some (.int m), some (.ref e), some (.ref B), some (.ref o), y6, y7, y8, none] ∧ Same H H' ∧ H' e = some (LI cs) ∧
        (∃ ds : List Int, H' o = some (LI ds) ∧ ds.length ≤ i) ∧ ∃ ls : List Int, H' B = some (LI ls) ∧ ls.length = cs.length) ⟨none, none, none, rfl, s4, he4, ⟨[], ho4, Nat.zero_le _⟩, ls, hB4, hls⟩ (fun i σ H5 hi hp => ?_) (fun σ H5 hp => ?_)⟩
      · obtain ⟨y6, y7, y8, rfl, s5, he5, ⟨ds, ho5, hds⟩, ls, hB5, hls⟩ := hp
        obtain ⟨j, hj, ej⟩ := mod_at (i := (0 : Int) + (i : Nat)) (n := (cs.map V.int).length) (by rw [List.length_map]; omega)
        rw [List.length_map] at hj
        refine ⟨_, rfl, _, rfl, e, _, rfl, .inl (SqL.of he5), _, _, rfl, rfl, by rw [List.length_map]; omega, ?_⟩
        -- mix
        refine ⟨_, rfl, _, rfl, e, _, _, _, rfl, rfl, SqL.of he5, at_of ej (getD_ints hj), _, rfl, _, i, by show [V.int _, V.int (0 + (i : Int))] = _; rw [Int.zero_add], by omega, fun n n0 n1 => ?_⟩
        refine ⟨_, rfl, _, rfl, _, _, rfl, rfl, .inl ⟨by omega, by omega⟩, _, rfl, _, _, rfl, rfl, .inl ⟨by decide, by decide⟩, _, _, rfl, rfl, _, _, rfl, rfl, (by show (0 : Int) < _; decide), ?_⟩
        refine ⟨fun σ' H' => ∃ n8 : Int, σ' = [some (.ref a), some (.int t), some (.int m), some (.ref e), some (.ref B), some (.ref o), some (.int (0 + (i : Nat))), some (.int ((0 + (i : Int)) % ((cs.map V.int).length : Int))), some (.int n8), none] ∧ Same H H' ∧ H' e = some (LI cs) ∧ H' o = some (LI ds) ∧ ∃ ls : List Int, H' B = some (LI ls) ∧ ls.length = cs.length, ?_, fun σ6 H6 hI => ?_⟩
        · refine ⟨_, rfl, _, rfl, e, _, _, _, rfl, rfl, SqL.of he5, at_of ej (getD_ints hj), _, _, rfl, rfl, ⟨by decide, by decide, by decide⟩, _, _, rfl, rfl, _, rfl, ite2 (fun _ => ?_) (fun _ => ?_)⟩
          · refine ⟨_, rfl, _, rfl, B, _, _, _, rfl, rfl, SqL.of hB5, at_of ej (getD_ints (ns := ls) (by omega)), _, _, rfl, rfl, _, rfl, ite2 (fun _ => ?_) (fun _ => ?_)⟩
            · refine ⟨_, rfl, _, rfl, B, _, _, _, rfl, rfl, SqL.of hB5, at_of ej (getD_ints (ns := ls) (by omega)), _, _, rfl, rfl, (by show (0 : Int) < _; decide), ?_⟩
              refine ⟨_, rfl, _, rfl, B, _, _, _, rfl, rfl, SqL.of hB5, at_of ej (getD_ints (ns := ls) (by omega)), _, _, rfl, rfl, wide_div (b := 32) (by decide) (by decide) (by decide) (by decide), _, rfl, _, rfl, B, _, _, j, rfl, rfl, hB5, by rw [ej, List.length_map]; exact ixN_nat (by omega), ?_⟩
              refine ⟨_, rfl, sm_new s5 nBH, ?_, ?_, ls.set j (ls[j] / 2147483587), at_set, by rw [List.length_set]; exact hls⟩
              · rw [upd_ne neB]
                exact he5
              · rw [upd_ne noB.symm]
                exact ho5
            · exact ⟨_, rfl, s5, he5, ho5, ls, hB5, hls⟩
          · exact ⟨_, rfl, s5, he5, ho5, ls, hB5, hls⟩
        · obtain ⟨n8, rfl, s6, he6, ho6, ls, hB6, hls⟩ := hI
          refine ⟨_, rfl, .inl ⟨rfl, _, SqL.of ho6⟩, _, rfl, o, _, _, rfl, rfl, ho6, szL' (by rw [List.length_map]; omega), ?_⟩
          refine ⟨_, _, _, rfl, sm_new s6 noH, ?_, ⟨ds ++ [n8], at_app, by rw [List.length_append, List.length_singleton]; omega⟩, ls, ?_, hls⟩
          · rw [upd_ne noe]
            exact he6
          · rw [upd_ne noB]
            exact hB6
      · obtain ⟨y6, y7, y8, rfl, s5, _, ⟨ds, ho5, hds⟩, _⟩ := hp
        refine ⟨_, rfl, _, rfl, _, rfl, o, _, rfl, SqL.of ho5, fun R nR => ?_⟩
        obtain ⟨ms, ems, _⟩ := cut_ints ds (some (t : Int)) none
        rw [ems]
        exact q _ R ms (s5.trans (same_upd nR)) (s5.free nR) upd_same
end
/-! ### _law_cut, _law_content, _law_price, _law_tiers, _law_want -/
abbrev s_law_cut : Stmt := topS 69
abbrev N_law_cut : List Str := ["_law_row", "_law_every", "_law_one"]
theorem sc_law_cut : FnScope N_law_cut ["_law_row"] (defScope s_law_cut) := ⟨rfl, rfl, rfl, by decide +kernel, rfl, by decide +kernel, by decide +kernel⟩

def sp_cut : Sp := fun vs H Q _ => ∃ (r : Addr) (ws : List Int), vs = [.ref r] ∧ H r = some (LI ws) ∧ Small ws ∧ 1 ≤ ws.length ∧ ws.length ≤ 1000 ∧
  ∀ H' ws', SameBut r H H' → H' r = some (LI ws') → ws'.length = ws.length → Small ws' → casesM ws' ≤ 400 → LeW ws' ws → Q (.ref r) H'
theorem set_le : ∀ {ws : List Int} {j : Nat} {x y : Int}, (∀ x ∈ ws, 0 ≤ x) → ws[j]? = some x → 0 ≤ y → y ≤ x → LeW (ws.set j y) ws
  | [], _, _, _, _, h, _, _ => by simp at h
  | a :: r, 0, x, y, h0, h, hy, hle => by
    cases Option.some.inj h
    exact ⟨hy, hle, LeW.refl fun z hz => h0 z (List.mem_cons_of_mem _ hz)⟩
  | a :: r, j + 1, x, y, h0, h, hy, hle => ⟨h0 a List.mem_cons_self, Int.le_refl _, set_le (fun z hz => h0 z (List.mem_cons_of_mem _ hz)) (show r[j]? = some x from h) hy hle⟩
theorem cut_body {ws : List Int} (sm : Small ws) (hc : casesM ws > 400) {mx : Int} (hmx : mx ∈ ws) (hle : ∀ y, y ∈ ws → y ≤ mx) : ∃ j : Nat, ws[j]? = some mx ∧ (∀ (m' : Nat) (z' : V), m' < j → (ws.map V.int)[m']? = some z' → eqV z' (.int mx) = false) ∧ j < ws.length ∧ Small (ws.set j (mx - 1)) ∧ (ws.set j (mx - 1)).sum < ws.sum ∧ LeW (ws.set j (mx - 1)) ws := by
  obtain ⟨j, h1, h2⟩ := first_at hmx
  have pos : 1 ≤ mx := by
    rcases Int.lt_or_le mx 1 with z | z
    · have e : casesM ws = 1 := casesM_zero ws 1 fun w hw => by
        have a1 := hle w hw
        have a2 := sm w hw
        omega
      omega
    · exact z
  have b := sm mx hmx
  refine ⟨j, h1, fun m' z' hm hz => ?_, (List.getElem?_eq_some_iff.mp h1).1, fun w hw => ?_, ?_, set_le (fun x hx => (sm x hx).1) h1 (by omega) (by omega)⟩
  · obtain ⟨y, hy, rfl⟩ := of_get_ints hz
    have := h2 m' y hm hy
    show (y == mx) = false
    exact beq_eq_false_iff_ne.mpr this
  · rcases List.mem_or_eq_of_mem_set hw with z | z
    · exact sm w z
    · omega
  · rw [sum_set h1]
    omega
section
variable {P : Program} {w : World} {K : PySem.W.Frag} {mg : Str → Option Value} {base : Heap}
theorem ok_cut {f : Addr} {fd : FuncData} {k : Nat} (M : Names mg) (D : Def K mg "_law_cut" s_law_cut ["_law_row"] f fd) : FnOk P w K mg base CX0 (k + 1) f fd ["_law_row"] sp_cut := by
  refine D.F.ok sc_law_cut (fun vs H Q E h => ?_) (fun cdv A outer s H vs Q E hr h => ?_)
  · obtain ⟨r, ws, rfl, _⟩ := h
    rfl
  · obtain ⟨r, ws, rfl, hrr, sm, hl1, hl2, q⟩ := h
    refine ⟨_, (pss_cons (ps_set (i := 1) sc_law_cut.nd rfl (Or.inl rfl) pe_int)
  (pss_cons (ps_while PassesOwn.never (pt_cmpR op_gt (pv 1) pe_int (nomark _))
   (pss_cons (ps_set (i := 1) sc_law_cut.nd rfl (Or.inl rfl) pe_int)
  (pss_cons (ps_for PassesOwn.never rfl (pi_list (pv 0)) (pg_name (i := 2) sc_law_cut.nd rfl (Or.inl rfl))
   (pss_one (ps_set (i := 1) sc_law_cut.nd rfl (Or.inl rfl) (pe_op op_mul (pv 1) (pe_op op_add (pv 2) pe_int)))))
  (pss_one (ps_if (pt_cmpR op_gt (pv 1) pe_int (nomark _))
   (pss_one (ps_asg (pe_op op_sub (pe_callB (cr_max rfl) (by rfl) M.max (by decide +kernel) (pa_cons (pv 0) pa_nil)) pe_int) (pg_sub (pv 0) (pe_bm PySem.F.plainAttrs_list PySem.F.slot_list_index PySem.F.type_list_index mt_index (pv 0) (pa_cons (pe_callB (cr_max rfl) (by rfl) M.max (by decide +kernel) (pa_cons (pv 0) pa_nil)) pa_nil)) set_list)))
   pss_nil)))))
  (pss_one (ps_ret (pv 0))))), ?_⟩
    refine ⟨fun μ σ H' => ∃ (ev : Int) (y2 : Option V) (us : List Int), σ = [some (.ref r), some (.int ev), y2] ∧ SameBut r H H' ∧ H' r = some (LI us) ∧ us.length = ws.length ∧ Small us ∧ LeW us ws ∧ ((ev > 400 ∧ μ = us.sum.toNat + 1) ∨ (ev ≤ 400 ∧ casesM us ≤ 400 ∧ μ = 0)), ⟨_, 401, none, ws, rfl, .refl _ _, hrr, rfl, sm, LeW.refl (fun x hx => (sm x hx).1), .inl ⟨by decide, rfl⟩⟩, fun μ σ H1 hW => ?_⟩
    obtain ⟨ev, y2, us, rfl, s1, hr1, hlu, smu, leu, hμ⟩ := hW
    refine ⟨_, rfl, _, _, rfl, rfl, _, rfl, ite2 (fun c => ?_) (fun c => ?_)⟩
    · have c' : ev > 400 := of_decide_eq_true c
      have eμ : μ = us.sum.toNat + 1 := by
        rcases hμ with h | h
        · exact h.2
        · exact absurd h.1 (by omega)
      have us0 := sumI_nonneg fun x hx => (smu x hx).1
      refine ⟨fun σ' H' => ∃ μ', μ' < μ ∧ ∃ (ev : Int) (y2 : Option V) (us : List Int), σ' = [some (.ref r), some (.int ev), y2] ∧ SameBut r H H' ∧ H' r = some (LI us) ∧ us.length = ws.length ∧ Small us ∧ LeW us ws ∧ ((ev > 400 ∧ μ' = us.sum.toNat + 1) ∨ (ev ≤ 400 ∧ casesM us ≤ 400 ∧ μ' = 0)), fun σ' H' hN => hN, ?_⟩
      refine ⟨_, rfl, r, rfl, ⟨_, SqL.of hr1⟩, for_list (K := K) (a := r) (xs := us.map V.int) (fun i σ H' => ∃ y, σ = [some (.ref r), some (.int (casesM (us.take i))), y] ∧ H' = H1) ⟨y2, rfl, rfl⟩ (fun i σ H' _ hp => ?_) (fun i x σ H' hx hp => ?_) (fun σ H' hp => ?_)⟩
      · obtain ⟨y, _, rfl⟩ := hp
        exact SqL.of hr1
      · obtain ⟨y, rfl, rfl⟩ := hp
        obtain ⟨n, hn, rfl⟩ := of_get_ints hx
        have b := smu n (List.mem_of_getElem? hn)
        refine ⟨_, rfl, _, rfl, _, _, rfl, rfl, _, _, rfl, rfl, .inr ⟨by omega, by omega⟩, some (.int n), ?_, rfl⟩
        rw [casesM_take hn]
        rfl
      · obtain ⟨y, rfl, rfl⟩ := hp
        rw [List.length_map, List.take_length]
        refine ⟨_, rfl, _, _, rfl, rfl, _, rfl, ite2 (fun c2 => ?_) (fun c2 => ?_)⟩
        · have c2' : casesM us > 400 := of_decide_eq_true c2
          refine ⟨_, rfl, r, us, rfl, SqL.of hr1, by omega, fun mx hmx hle => ⟨_, _, rfl, rfl, _, rfl, _, rfl, .inl ⟨rfl, _, SqL.of hr1⟩, _, rfl, r, us, rfl, SqL.of hr1, by omega, fun mx2 hmx2 hle2 => ?_⟩⟩
          have emx : mx2 = mx := Int.le_antisymm (hle mx2 hmx2) (hle2 mx hmx)
          subst emx
          obtain ⟨j, b1, b2, b3, b4, b5, b6⟩ := cut_body smu c2' hmx hle
          have p0 := sumI_nonneg fun x hx => (b4 x hx).1
          refine ⟨r, _, _, j, _, rfl, rfl, SqL.of hr1, rfl, by simp [flatV], get_ints b1, by show (mx2 == mx2) = true; exact beq_self_eq_true _, b2, r, _, _, j, rfl, rfl, hr1, by rw [List.length_map]; exact ixN_nat b3, ?_⟩
          refine ⟨(us.set j (mx2 - 1)).sum.toNat + 1, by omega, _, _, us.set j (mx2 - 1), rfl, s1.trans .upd, at_set, by rw [List.length_set]; exact hlu, b4, b6.trans leu, .inl ⟨c2', rfl⟩⟩
        · have c2' : casesM us ≤ 400 := Int.not_lt.mp fun z => c2 (decide_eq_true z)
          exact ⟨0, by omega, _, _, us, rfl, s1, hr1, hlu, smu, leu, .inr ⟨c2', c2', rfl⟩⟩
    · have c' : ev ≤ 400 := Int.not_lt.mp fun z => c (decide_eq_true z)
      rcases hμ with h | h
      · exact absurd h.1 (by omega)
      · exact ⟨_, rfl, q H1 us s1 hr1 hlu smu h.2.1 leu⟩
end
/-! ### tiers that rise -/
def sp_tiers : Sp := fun vs H Q _ => ∃ (a : Addr) (ns : List Int), vs = [.ref a] ∧ H a = some (LI ns) ∧
  ∀ H' p ts ns', SameBut a H H' → H p = none → TiersAt (cutH a H') p ts → GoodT ts → PriceT ts → H' a = some (LI ns') → Q (.ref p) H'
structure RiseT (ts : List (Int × Int)) (z : Int) (i : Nat) : Prop where
  few : ts.length ≤ i
  none : ts = [] → z = 1 ∧ i = 0
  one : ∀ t, ts[0]? = some t → t.1 = 1
  most : ∀ t ∈ ts, t.1 ≤ 12 ∧ t.1 < z
  rise : ∀ (i : Nat) a b, ts[i]? = some a → ts[i + 1]? = some b → a.1 < b.1
  pr : PriceT ts
theorem RiseT.push {ts : List (Int × Int)} {z z' p : Int} {i : Nat} (h : RiseT ts z i) (hz : z < 13) (hz' : z < z') (h0 : 0 ≤ p) (h1 : p < 1000000000000) : RiseT (ts ++ [(z, p)]) z' (i + 1) := by
  refine ⟨?_, fun e => ?_, fun t e => ?_, fun t ht => ?_, fun j a b ha hb => ?_, fun t ht => ?_⟩
  · have := h.few
    rw [List.length_append, List.length_singleton]
    omega
  · simp at e
  · cases hts : ts with
    | nil =>
      rw [hts] at e
      cases Option.some.inj e
      exact (h.none hts).1
    | cons x r =>
      rw [hts] at e
      exact h.one t (by rw [hts]; exact e)
  · rcases List.mem_append.mp ht with m | m
    · have := h.most t m
      exact ⟨this.1, by omega⟩
    · rw [List.mem_singleton.mp m]
      exact ⟨by show z ≤ 12; omega, hz'⟩
  · by_cases c : j + 1 < ts.length
    · rw [List.getElem?_append_left (by omega)] at ha
      rw [List.getElem?_append_left c] at hb
      exact h.rise j a b ha hb
    · have hj : j + 1 = ts.length := by
        have := (List.getElem?_eq_some_iff.mp hb).1
        rw [List.length_append, List.length_singleton] at this
        omega
      rw [List.getElem?_append_left (by omega)] at ha
      rw [List.getElem?_append_right (by omega), hj, Nat.sub_self] at hb
      cases Option.some.inj hb
      exact (h.most a (List.mem_of_getElem? ha)).2
  · rcases List.mem_append.mp ht with m | m
    · exact h.pr t m
    · rw [List.mem_singleton.mp m]
      exact ⟨h0, h1⟩
theorem RiseT.pass {ts : List (Int × Int)} {z z' : Int} {i : Nat} (h : RiseT ts z i) (hz : ¬z < 13) (hz' : z < z') : RiseT ts z' (i + 1) := by
  refine ⟨by have := h.few; omega, fun e => ?_, h.one, fun t ht => ?_, h.rise, h.pr⟩
  · have := h.none e
    omega
  · have := h.most t ht
    exact ⟨this.1, by omega⟩
theorem RiseT.good {ts : List (Int × Int)} {z : Int} {i : Nat} (h : RiseT ts z i) (h1 : 1 ≤ i) (h4 : i ≤ 4) : GoodT ts := by
  refine ⟨?_, by have := h.few; omega, h.one, fun t ht => (h.most t ht).1, h.rise⟩
  rcases Nat.eq_zero_or_pos ts.length with z | z
  · have := (h.none (List.eq_nil_of_length_eq_zero z)).2
    omega
  · exact z
abbrev s_law_content : Stmt := topS 70
abbrev N_law_content : List Str := ["_law_draws_here", "_law_many", "_law_most", "_law_number", "_law_content_here", "_law_thing"]
theorem sc_law_content : FnScope N_law_content ["_law_draws_here", "_law_many", "_law_most"] (defScope s_law_content) := ⟨rfl, rfl, rfl, by decide +kernel, rfl, by decide +kernel, by decide +kernel⟩

def sp_content : Sp := fun vs H Q _ => ∃ (a : Addr) (ns : List Int) (m most : Nat), vs = [.ref a, .int m, .int most] ∧ H a = some (LI ns) ∧ 1 ≤ m ∧ m ≤ 4 ∧ 1 ≤ most ∧ most ≤ 9 ∧
  ∀ H' p ws ns', SameBut a H H' → H p = none → p ≠ a → H' p = some (LI ws) → H' a = some (LI ns') → ws.length = m → Small ws → Q (.ref p) H'
theorem menu4s {a b c e : Int} {j : Nat} (h : j < 4) (h1 : 0 ≤ a ∧ a ≤ 9) (h2 : 0 ≤ b ∧ b ≤ 9) (h3 : 0 ≤ c ∧ c ≤ 9) (h4 : 0 ≤ e ∧ e ≤ 9) : ∃ v : Int, ([V.int a, V.int b, V.int c, V.int e] : List V)[j]? = some (.int v) ∧ 0 ≤ v ∧ v ≤ 9 :=
  match j, h with
  | 0, _ => ⟨a, rfl, h1⟩
  | 1, _ => ⟨b, rfl, h2⟩
  | 2, _ => ⟨c, rfl, h3⟩
  | 3, _ => ⟨e, rfl, h4⟩
section
variable {P : Program} {w : World} {K : PySem.W.Frag} {mg : Str → Option Value} {base : Heap}
theorem ok_content {f f1 f2 : Addr} {fd fd1 fd2 : FuncData} {k : Nat} (M : Names mg) (D : Def K mg "_law_content" s_law_content ["_law_draws_here", "_law_many", "_law_most"] f fd) (D_law_pop : Def K mg "_law_pop" s_law_pop ["_law_draws_here"] f1 fd1) (D_law_cut : Def K mg "_law_cut" s_law_cut ["_law_row"] f2 fd2) :
    FnOk P w K mg base CX0 (k + 2) f fd ["_law_draws_here", "_law_many", "_law_most"] sp_content := by
  have G_law_pop : FnOk P w K mg base CX0 (k + 1) f1 fd1 ["_law_draws_here"] sp_pop := ok_pop D_law_pop
  have G_law_cut : FnOk P w K mg base CX0 (k + 1) f2 fd2 ["_law_row"] sp_cut := ok_cut M D_law_cut
  refine D.F.ok sc_law_content (fun vs H Q E h => ?_) (fun cdv A outer s H vs Q E hr h => ?_)
  · obtain ⟨a, ns, m, most, rfl, _⟩ := h
    rfl
  · obtain ⟨a, ns, m, most, rfl, ha, hm1, hm4, hmo1, hmo9, q⟩ := h
    refine ⟨_, (pss_cons (ps_set (i := 3) sc_law_content.nd rfl (Or.inl rfl) (pe_call G_law_pop hr (by rfl) D_law_pop.g D_law_pop.F.kp D_law_pop.b .nil pass0 (pa_cons (pv 0) pa_nil)))
  (pss_cons (ps_set (i := 4) sc_law_content.nd rfl (Or.inl rfl) (pe_lst pa_nil))
  (pss_cons (ps_for PassesOwn.never rfl (pi_range1 (by rfl) M.range (pa_cons (pv 1) pa_nil)) (pg_name (i := 5) sc_law_content.nd rfl (Or.inl rfl))
   (pss_cons (ps_expr (pe_bm PySem.F.plainAttrs_list PySem.F.slot_list_append PySem.F.type_list_append mt_append (pv 4) (pa_cons (pe_ix ix_list (pe_lst (pa_cons pe_int (pa_cons pe_int (pa_cons (pe_op op_add pe_int (pe_op op_mod (pv 3) (pv 2))) (pa_cons pe_int pa_nil))))) (pe_op op_mod (pe_op op_fdiv (pv 3) pe_int) pe_int) (fun _ _ => rfl)) pa_nil)))
  (pss_one (ps_set (i := 3) sc_law_content.nd rfl (Or.inl rfl) (pe_op op_fdiv (pv 3) pe_int)))))
  (pss_cutI (ps_if (pt_cmpR op_eq (pe_callB (cr_sum rfl) (by rfl) M.sum (by decide +kernel) (pa_cons (pv 4) pa_nil)) pe_int (nomark _))
   (pss_one (ps_asg pe_int (pg_sub (pv 4) (pe_op op_mod (pv 3) (pv 1)) set_list)))
   pss_nil)
  (pss_one (ps_ret (pe_call G_law_cut hr (by rfl) D_law_cut.g D_law_cut.F.kp D_law_cut.b .nil pass0 (pa_cons (pv 4) pa_nil)))))))), ?_⟩
    refine ⟨_, rfl, a, ns, rfl, ha, fun H1 s1 ha1 => ?_⟩
    generalize ns.headD 0 = n0
    generalize ns.tail = ns1 at ha1
    refine ⟨Nat.zero_le _, fun C nC => ?_⟩
    have nCa : C ≠ a := (ne_of_none ha1 nC).symm
    have nCH : H C = none := s1.free nC (by rw [ha1]; exact fun z => nomatch z)
    have s2 : SameBut a H (upd H1 C (.lst [])) := s1.trans (.of (same_upd nC))
    have ha2 : upd H1 C (.lst []) a = some (LI ns1) := (same_upd nC) _ _ ha1
    have hC2 : upd H1 C (.lst []) C = some (LI []) := upd_same
    generalize upd H1 C (.lst []) = H2 at s2 ha2 hC2 ⊢
    refine ⟨_, rfl, _, rfl, by omega, by omega, for_range (n := (m : Int).toNat) (fun i σ H' => ∃ (n : Int) (y5 : Option V) (ws : List Int), σ = [some (.ref a), some (.int m), some (.int most), some (.int n), some (.ref C), y5] ∧ SameBut a H H' ∧ H' a = some (LI ns1) ∧ H' C = some (LI ws) ∧ ws.length = i ∧ Small ws) ⟨n0, none, [], rfl, s2, ha2, hC2, rfl, fun w hw => nomatch hw⟩ (fun i σ H3 hi hp => ?_) (fun σ H3 hp => ?_)⟩
    · obtain ⟨n, y5, ws, rfl, s3, ha3, hC3, hl, sm⟩ := hp
      have mo0 : (0 : Int) < (most : Int) := by omega
      have r1 := Int.emod_nonneg n (show (most : Int) ≠ 0 by omega)
      have r2 := Int.emod_lt_of_pos n mo0
      refine ⟨_, rfl, .inl ⟨rfl, _, SqL.of hC3⟩, _, rfl, _, rfl, _, _, rfl, rfl, mo0, _, _, rfl, rfl, by show 4 ≤ sizeLine; decide, fun e ne => ?_⟩
      obtain ⟨j, hj, ej⟩ := mod_at (i := n / 16) (n := 4) (by decide)
      obtain ⟨v, hv, hv0, hv1⟩ := menu4s (a := 0) (b := 1) (c := 1 + n % (most : Int)) (e := 1) hj (by omega) (by omega) (by omega) (by omega)
      have se := same_upd (o := .lst [.int 0, .int 1, .int (1 + n % (most : Int)), .int 1]) ne
      have neC : C ≠ e := ne_of_none hC3 ne
      refine ⟨_, rfl, _, _, rfl, rfl, ⟨by decide, by decide⟩, _, _, rfl, rfl, (by show (0 : Int) < _; decide), e, _, _, _, rfl, rfl, SqL.of upd_same, at_of ej hv, C, _, _, rfl, rfl, se _ _ hC3, szL' (by rw [List.length_map]; omega), ?_⟩
      refine ⟨_, rfl, _, _, rfl, rfl, ⟨by decide, by decide⟩, _, _, ws ++ [v], rfl, (s3.trans (.of se)).new nCH, ?_, at_app, by rw [List.length_append, hl]; rfl, sm.app hv0 hv1⟩
      rw [upd_ne nCa.symm]
      exact se _ _ ha3
    · obtain ⟨n, y5, ws, rfl, s3, ha3, hC3, hl, sm⟩ := hp
      rw [Int.toNat_natCast] at hl
      refine ⟨fun σ' H' => ∃ (y5 : Option V) (ws : List Int), σ' = [some (.ref a), some (.int m), some (.int most), some (.int n), some (.ref C), y5] ∧ SameBut a H H' ∧ H' a = some (LI ns1) ∧ H' C = some (LI ws) ∧ ws.length = m ∧ Small ws, ?_, fun σ4 H4 hI => ?_⟩
      · refine ⟨_, rfl, C, ws, rfl, SqL.of hC3, rfl, _, rfl, ite2 (fun _ => ?_) (fun _ => ?_)⟩
        · obtain ⟨j, hj, ej⟩ := mod_at (i := n) (n := m) (by omega)
          refine ⟨_, rfl, _, rfl, _, rfl, _, _, rfl, rfl, (by show (0 : Int) < (m : Int); omega), C, _, _, j, rfl, rfl, hC3, (by rw [ej, List.length_map]; exact ixN_nat (by omega)), ?_⟩
          refine ⟨_, ws.set j 1, rfl, s3.new nCH, ?_, at_set, by rw [List.length_set]; exact hl, fun x hx => ?_⟩
          · rw [upd_ne nCa.symm]
            exact ha3
          · rcases List.mem_or_eq_of_mem_set hx with z | z
            · exact sm x z
            · rw [z]
              omega
        · exact ⟨_, ws, rfl, s3, ha3, hC3, hl, sm⟩
      · obtain ⟨y5, ws, rfl, s4, ha4, hC4, hl, sm⟩ := hI
        refine ⟨_, rfl, C, ws, rfl, hC4, sm, by omega, by omega, fun H5 ws' s5 hC5 hl5 sm5 _ _ => ?_⟩
        refine q H5 C ws' ns1 (fun b o n e => ?_) nCH nCa hC5 (s5 _ _ nCa.symm ha4) (by omega) sm5
        have hb := s4 b o n e
        exact s5 b o (fun z => by rw [z, nCH] at e; cases e) hb
end
abbrev s_law_price : Stmt := topS 71
abbrev N_law_price : List Str := ["_law_draws_here", "_law_number"]
theorem sc_law_price : FnScope N_law_price ["_law_draws_here"] (defScope s_law_price) := ⟨rfl, rfl, rfl, by decide +kernel, rfl, by decide +kernel, by decide +kernel⟩

def sp_price : Sp := fun vs H Q _ => ∃ (a : Addr) (ns : List Int), vs = [.ref a] ∧ H a = some (LI ns) ∧ ∀ H' ns' p, SameBut a H H' → H' a = some (LI ns') → 0 ≤ p → p < 1000000000000 → Q (.int p) H'
theorem menu5 {a b c d e : Int} {j : Nat} (h : j < 5) (h1 : 0 ≤ a ∧ a < 1000000000000) (h2 : 0 ≤ b ∧ b < 1000000000000) (h3 : 0 ≤ c ∧ c < 1000000000000) (h4 : 0 ≤ d ∧ d < 1000000000000) (h5 : 0 ≤ e ∧ e < 1000000000000) : ∃ v : Int, ([V.int a, V.int b, V.int c, V.int d, V.int e] : List V)[j]? = some (.int v) ∧ 0 ≤ v ∧ v < 1000000000000 :=
  match j, h with
  | 0, _ => ⟨a, rfl, h1⟩
  | 1, _ => ⟨b, rfl, h2⟩
  | 2, _ => ⟨c, rfl, h3⟩
  | 3, _ => ⟨d, rfl, h4⟩
  | 4, _ => ⟨e, rfl, h5⟩
section
variable {P : Program} {w : World} {K : PySem.W.Frag} {mg : Str → Option Value} {base : Heap}
theorem ok_price {f f1 : Addr} {fd fd1 : FuncData} {k : Nat} (D : Def K mg "_law_price" s_law_price ["_law_draws_here"] f fd) (D_law_pop : Def K mg "_law_pop" s_law_pop ["_law_draws_here"] f1 fd1) :
    FnOk P w K mg base CX0 (k + 2) f fd ["_law_draws_here"] sp_price := by
  have G_law_pop : FnOk P w K mg base CX0 (k + 1) f1 fd1 ["_law_draws_here"] sp_pop := ok_pop D_law_pop
  refine D.F.ok sc_law_price (fun vs H Q E h => ?_) (fun cdv A outer s H vs Q E hr h => ?_)
  · obtain ⟨a, ns, rfl, _⟩ := h
    rfl
  · obtain ⟨a, ns, rfl, ha, q⟩ := h
    refine ⟨_, (pss_cons (ps_set (i := 1) sc_law_price.nd rfl (Or.inl rfl) (pe_call G_law_pop hr (by rfl) D_law_pop.g D_law_pop.F.kp D_law_pop.b .nil pass0 (pa_cons (pv 0) pa_nil)))
  (pss_one (ps_ret (pe_ix ix_list (pe_lst (pa_cons (pe_op op_mod (pv 1) pe_int) (pa_cons (pe_op op_add pe_int (pe_op op_mod (pv 1) pe_int)) (pa_cons (pe_op op_mod (pv 1) pe_int) (pa_cons (pe_op op_mod (pe_op op_mul (pv 1) pe_int) (pe_op op_pow pe_int pe_int)) (pa_cons pe_int pa_nil)))))) (pe_op op_mod (pe_op op_fdiv (pv 1) pe_int) pe_int) (fun _ _ => rfl))))), ?_⟩
    refine ⟨_, rfl, a, ns, rfl, ha, fun H1 s1 ha1 => ?_⟩
    generalize ns.headD 0 = n
    have e12 : (10 : Int) ^ (12 : Int).toNat = 1000000000000 := by decide
    have e9 : (10 : Int) ^ (9 : Int).toNat = 1000000000 := by decide
    obtain ⟨j, hj, ej⟩ := mod_at (i := n / 12) (n := 5) (by decide)
    refine ⟨_, rfl, _, _, rfl, rfl, (by show (0 : Int) < _; decide), ?_⟩
    refine ⟨_, rfl, _, _, rfl, rfl, (by show (0 : Int) < _; decide), _, _, rfl, rfl, ?_⟩
    refine ⟨_, rfl, _, _, rfl, rfl, (by show (0 : Int) < _; decide), ?_⟩
    first
    | (refine ⟨_, rfl, _, _, rfl, rfl, .inr ⟨by decide, by decide⟩, _, _, rfl, rfl, ⟨by decide, by decide, by decide⟩, _, _, rfl, rfl, (by show (0 : Int) < _; decide), by show 5 ≤ sizeLine; decide, fun e ne => ?_⟩
       obtain ⟨v, hv, hv0, hv1⟩ := menu5 (a := n % 12) (b := 20 + n % 100) (c := n % 12) (d := n * 465 % 10 ^ (12 : Int).toNat) (e := 0) hj (by omega) (by omega) (by omega) (by rw [e12]; omega) (by omega)
       refine ⟨_, rfl, _, _, rfl, rfl, ⟨by decide, by decide⟩, _, _, rfl, rfl, (by show (0 : Int) < _; decide), e, _, _, _, rfl, rfl, SqL.of upd_same, at_of ej hv, ?_⟩
       exact q _ _ v (s1.trans (.of (same_upd ne))) (by rw [upd_ne (ne_of_none ha1 ne)]; exact ha1) hv0 hv1)
    | (refine ⟨_, rfl, _, _, rfl, rfl, ⟨by decide, by decide, by decide⟩, _, _, rfl, rfl, (by show (0 : Int) < _; decide), by show 5 ≤ sizeLine; decide, fun e ne => ?_⟩
       obtain ⟨v, hv, hv0, hv1⟩ := menu5 (a := n % 12) (b := 20 + n % 100) (c := n % 12) (d := n % 10 ^ (9 : Int).toNat) (e := 0) hj (by omega) (by omega) (by omega) (by rw [e9]; omega) (by omega)
       refine ⟨_, rfl, _, _, rfl, rfl, ⟨by decide, by decide⟩, _, _, rfl, rfl, (by show (0 : Int) < _; decide), e, _, _, _, rfl, rfl, SqL.of upd_same, at_of ej hv, ?_⟩
       exact q _ _ v (s1.trans (.of (same_upd ne))) (by rw [upd_ne (ne_of_none ha1 ne)]; exact ha1) hv0 hv1)
    | (refine ⟨_, rfl, _, rfl, _, _, rfl, rfl, ⟨by decide, by decide, by decide⟩, _, _, rfl, rfl, (by show (0 : Int) < _; decide), by show 5 ≤ sizeLine; decide, fun e ne => ?_⟩
       obtain ⟨v, hv, hv0, hv1⟩ := menu5 (a := n % 12) (b := 20 + n % 100) (c := n % 12) (d := n % 10 ^ (9 : Int).toNat) (e := 0) hj (by omega) (by omega) (by omega) (by rw [e9]; omega) (by omega)
       refine ⟨_, rfl, _, _, rfl, rfl, ⟨by decide, by decide⟩, _, _, rfl, rfl, (by show (0 : Int) < _; decide), e, _, _, _, rfl, rfl, SqL.of upd_same, at_of ej hv, ?_⟩
       exact q _ _ v (s1.trans (.of (same_upd ne))) (by rw [upd_ne (ne_of_none ha1 ne)]; exact ha1) hv0 hv1)
end
abbrev s_law_tiers : Stmt := topS 72
abbrev N_law_tiers : List Str := ["_law_draws_here", "_law_tiers_here", "_law_at", "_law_k"]
theorem sc_law_tiers : FnScope N_law_tiers ["_law_draws_here"] (defScope s_law_tiers) := ⟨rfl, rfl, rfl, by decide +kernel, rfl, by decide +kernel, by decide +kernel⟩

section
variable {P : Program} {w : World} {K : PySem.W.Frag} {mg : Str → Option Value} {base : Heap}
theorem ok_tiers {f f1 f2 : Addr} {fd fd1 fd2 : FuncData} {k : Nat} (M : Names mg) (D : Def K mg "_law_tiers" s_law_tiers ["_law_draws_here"] f fd) (D_law_price : Def K mg "_law_price" s_law_price ["_law_draws_here"] f1 fd1) (D_law_pop : Def K mg "_law_pop" s_law_pop ["_law_draws_here"] f2 fd2) :
    FnOk P w K mg base CX0 (k + 3) f fd ["_law_draws_here"] sp_tiers := by
  have G_law_price : FnOk P w K mg base CX0 (k + 2) f1 fd1 ["_law_draws_here"] sp_price := ok_price D_law_price D_law_pop
  have G_law_pop : FnOk P w K mg base CX0 (k + 2) f2 fd2 ["_law_draws_here"] sp_pop := ok_pop D_law_pop
  refine D.F.ok sc_law_tiers (fun vs H Q E h => ?_) (fun cdv A outer s H vs Q E hr h => ?_)
  · obtain ⟨a, ns, rfl, _⟩ := h
    rfl
  · obtain ⟨a, ns, rfl, ha, q⟩ := h
    refine ⟨_, (pss_cons (ps_set (i := 1) sc_law_tiers.nd rfl (Or.inl rfl) (pe_lst pa_nil))
  (pss_cons (ps_set (i := 2) sc_law_tiers.nd rfl (Or.inl rfl) pe_int)
  (pss_cons (ps_for PassesOwn.never rfl (pi_range1 (by rfl) M.range (pa_cons (pe_op op_add pe_int (pe_op op_mod (pe_call G_law_pop hr (by rfl) D_law_pop.g D_law_pop.F.kp D_law_pop.b .nil pass0 (pa_cons (pv 0) pa_nil)) pe_int)) pa_nil)) (pg_name (i := 3) sc_law_tiers.nd rfl (Or.inl rfl))
   (pss_cutI (ps_if (pt_cmpR op_lt (pv 2) pe_int (nomark _))
   (pss_one (ps_expr (pe_bm PySem.F.plainAttrs_list PySem.F.slot_list_append PySem.F.type_list_append mt_append (pv 1) (pa_cons (pe_tup (pa_cons (pv 2) (pa_cons (pe_call G_law_price hr (by rfl) D_law_price.g D_law_price.F.kp D_law_price.b .nil pass0 (pa_cons (pv 0) pa_nil)) pa_nil))) pa_nil))))
   pss_nil)
  (pss_one (ps_set (i := 2) sc_law_tiers.nd rfl (Or.inl rfl) (pe_op op_add (pe_op op_add (pv 2) pe_int) (pe_op op_mod (pe_call G_law_pop hr (by rfl) D_law_pop.g D_law_pop.F.kp D_law_pop.b .nil pass0 (pa_cons (pv 0) pa_nil)) pe_int))))))
  (pss_one (ps_ret (pv 1)))))), ?_⟩
    refine ⟨Nat.zero_le _, fun F nF => ?_⟩
    have naF : F ≠ a := (ne_of_none ha nF).symm
    have ha0 : upd H F (.lst []) a = some (LI ns) := by rw [upd_ne naF.symm]; exact ha
    refine ⟨_, rfl, a, ns, rfl, ha0, fun H1 s1 ha1 => ?_⟩
    have s1' : SameBut a H H1 := (SameBut.of (same_upd nF)).trans s1
    have hF1 : H1 F = some (.lst []) := s1 _ _ naF upd_same
    obtain ⟨m, hm1, hm4, em⟩ := draw4 (ns.headD 0)
    refine ⟨_, _, rfl, rfl, (by show (0 : Int) < _; decide), _, _, rfl, rfl, _, rfl, by omega, by omega, for_range (n := (1 + ns.headD 0 % 4).toNat) (fun i σ H' => ∃ z y3, σ = [some (.ref a), some (.ref F), some (.int z), y3] ∧ SameBut a H H' ∧ (∃ ds, H' a = some (LI ds)) ∧ ∃ ts, TiersAt (cutH a H') F ts ∧ RiseT ts z i) ⟨1, none, rfl, s1', ⟨_, ha1⟩, [], ⟨[], cut_put naF hF1, rfl, fun i u t hu => by simp at hu⟩, ⟨Nat.le_refl _, fun _ => ⟨rfl, rfl⟩, fun t e => by simp at e, fun t ht => by simp at ht, fun i a b ha => by simp at ha, fun t ht => by simp at ht⟩⟩ (fun i σ H2 hi hp => ?_) (fun σ H2 hp => ?_)⟩
    · obtain ⟨z, y3, rfl, s2, ⟨ds, ha2⟩, ts, hts, rs⟩ := hp
      refine ⟨fun σ' H' => ∃ ts', σ' = [some (.ref a), some (.ref F), some (.int z), some (.int (0 + (i : Nat)))] ∧ SameBut a H H' ∧ (∃ ds, H' a = some (LI ds)) ∧ TiersAt (cutH a H') F ts' ∧ ∀ z', z < z' → RiseT ts' z' (i + 1), ?_, fun σ6 H6 hI => ?_⟩
      · refine ⟨_, rfl, _, _, rfl, rfl, _, rfl, ite2 (fun c => ?_) (fun c => ?_)⟩
        · have c' : z < 13 := of_decide_eq_true c
          have hF3 : ∃ xs, H2 F = some (.lst xs) := by
            obtain ⟨us, h1, _⟩ := id hts
            exact ⟨_, (cut_some h1).2⟩
          obtain ⟨xs3, hF3⟩ := hF3
          refine ⟨_, rfl, .inl ⟨rfl, _, SqL.of hF3⟩, _, rfl, _, rfl, a, _, rfl, ha2, fun H4 ns4 p s4 ha4 p0 p1 => ⟨by show 2 ≤ sizeLine; decide, fun u nu => ?_⟩⟩
          have hts4 := hts.same (cut_same s4)
          have nua : u ≠ a := (ne_of_none ha4 nu).symm
          have nuc : cutH a H4 u = none := by rw [cut_at nua]; exact nu
          obtain ⟨xs, hx, hxl, hpu⟩ := hts4.push (t := (z, p)) nuc
          have hF4 := (cut_some hx).2
          have few := rs.few
          refine ⟨F, _, _, rfl, rfl, (by rw [upd_ne (ne_of_none hF4 nu)]; exact hF4), szL' (by omega), ts ++ [(z, p)], rfl, ?_, ⟨ns4, ?_⟩, ?_, fun z' hz => rs.push c' hz p0 p1⟩
          · exact ((s2.trans s4).trans (.of (same_upd nu))).new nF
          · rw [upd_ne naF.symm, upd_ne nua.symm]
            exact ha4
          · rw [cut_upd naF, cut_upd nua]
            exact hpu
        · exact ⟨ts, rfl, s2, ⟨_, ha2⟩, hts, fun z' hz => rs.pass (fun y => c (decide_eq_true y)) hz⟩
      · obtain ⟨ts', rfl, s6, ⟨ds6, ha6⟩, hts6, hr6⟩ := hI
        refine ⟨_, rfl, _, _, rfl, rfl, _, rfl, a, _, rfl, ha6, fun H7 s7 ha7 => ⟨_, _, rfl, rfl, (by show (0 : Int) < _; decide), _, _, rfl, rfl, ?_⟩⟩
        have := Int.emod_nonneg (ds6.headD 0) (show (5 : Int) ≠ 0 by omega)
        exact ⟨_, _, rfl, s6.trans s7, ⟨_, ha7⟩, ts', hts6.same (cut_same s7), hr6 _ (by omega)⟩
    · obtain ⟨z, y3, rfl, s2, ⟨ds, ha2⟩, ts, hts, rs⟩ := hp
      exact ⟨_, rfl, q H2 F ts ds s2 nF hts (rs.good (by omega) (by omega)) rs.pr ha2⟩
end
/-! ### _law_want -/
abbrev s_law_want : Stmt := topS 74
abbrev N_law_want : List Str := ["_law_draws_here", "_law_many", "_law_number", "_law_want_here", "_law_thing"]
theorem sc_law_want : FnScope N_law_want ["_law_draws_here", "_law_many"] (defScope s_law_want) := ⟨rfl, rfl, rfl, by decide +kernel, rfl, by decide +kernel, by decide +kernel⟩

def sp_want : Sp := fun vs H Q _ => ∃ (a : Addr) (ns : List Int) (m : Nat), vs = [.ref a, .int m] ∧ H a = some (LI ns) ∧ 1 ≤ m ∧ m ≤ 4 ∧
  ∀ H' p ws ns', SameBut a H H' → H p = none → p ≠ a → H' p = some (LI ws) → H' a = some (LI ns') → ws.length = m → Small ws → casesM ws ≤ 400 → Q (.ref p) H'
section
variable {P : Program} {w : World} {K : PySem.W.Frag} {mg : Str → Option Value} {base : Heap}
theorem ok_want {f f1 f2 : Addr} {fd fd1 fd2 : FuncData} {k : Nat} (M : Names mg) (D : Def K mg "_law_want" s_law_want ["_law_draws_here", "_law_many"] f fd) (D_law_pop : Def K mg "_law_pop" s_law_pop ["_law_draws_here"] f1 fd1) (D_law_cut : Def K mg "_law_cut" s_law_cut ["_law_row"] f2 fd2) :
    FnOk P w K mg base CX0 (k + 2) f fd ["_law_draws_here", "_law_many"] sp_want := by
  have G_law_pop : FnOk P w K mg base CX0 (k + 1) f1 fd1 ["_law_draws_here"] sp_pop := ok_pop D_law_pop
  have G_law_cut : FnOk P w K mg base CX0 (k + 1) f2 fd2 ["_law_row"] sp_cut := ok_cut M D_law_cut
  refine D.F.ok sc_law_want (fun vs H Q E h => ?_) (fun cdv A outer s H vs Q E hr h => ?_)
  · obtain ⟨a, ns, m, rfl, _⟩ := h
    rfl
  · obtain ⟨a, ns, m, rfl, ha, hm1, hm4, q⟩ := h
    refine ⟨_, (pss_cons (ps_set (i := 2) sc_law_want.nd rfl (Or.inl rfl) (pe_call G_law_pop hr (by rfl) D_law_pop.g D_law_pop.F.kp D_law_pop.b .nil pass0 (pa_cons (pv 0) pa_nil)))
  (pss_cons (ps_set (i := 3) sc_law_want.nd rfl (Or.inl rfl) (pe_lst pa_nil))
  (pss_cons (ps_for PassesOwn.never rfl (pi_range1 (by rfl) M.range (pa_cons (pv 1) pa_nil)) (pg_name (i := 4) sc_law_want.nd rfl (Or.inl rfl))
   (pss_cons (ps_expr (pe_bm PySem.F.plainAttrs_list PySem.F.slot_list_append PySem.F.type_list_append mt_append (pv 3) (pa_cons (pe_op op_mod (pv 2) pe_int) pa_nil)))
  (pss_one (ps_set (i := 2) sc_law_want.nd rfl (Or.inl rfl) (pe_op op_fdiv (pv 2) pe_int)))))
  (pss_one (ps_ret (pe_call G_law_cut hr (by rfl) D_law_cut.g D_law_cut.F.kp D_law_cut.b .nil pass0 (pa_cons (pv 3) pa_nil))))))), ?_⟩
    refine ⟨_, rfl, a, ns, rfl, ha, fun H1 s1 ha1 => ?_⟩
    generalize ns.headD 0 = n0
    generalize ns.tail = ns1 at ha1
    refine ⟨Nat.zero_le _, fun C nC => ?_⟩
    have nCa : C ≠ a := (ne_of_none ha1 nC).symm
    have nCH : H C = none := s1.free nC (by rw [ha1]; exact fun z => nomatch z)
    have s2 : SameBut a H (upd H1 C (.lst [])) := s1.trans (.of (same_upd nC))
    have ha2 : upd H1 C (.lst []) a = some (LI ns1) := (same_upd nC) _ _ ha1
    have hC2 : upd H1 C (.lst []) C = some (LI []) := upd_same
    generalize upd H1 C (.lst []) = H2 at s2 ha2 hC2 ⊢
    refine ⟨_, rfl, _, rfl, by omega, by omega, for_range (n := (m : Int).toNat) (fun i σ H' => ∃ (n : Int) (y5 : Option V) (ws : List Int), σ = [some (.ref a), some (.int m), some (.int n), some (.ref C), y5] ∧ SameBut a H H' ∧ H' a = some (LI ns1) ∧ H' C = some (LI ws) ∧ ws.length = i ∧ Small ws) ⟨n0, none, [], rfl, s2, ha2, hC2, rfl, fun w hw => nomatch hw⟩ (fun i σ H3 hi hp => ?_) (fun σ H3 hp => ?_)⟩
    · obtain ⟨n, y5, ws, rfl, s3, ha3, hC3, hl, sm⟩ := hp
      refine ⟨_, rfl, .inl ⟨rfl, _, SqL.of hC3⟩, _, rfl, _, _, rfl, rfl, (by show (0 : Int) < _; decide), C, _, _, rfl, rfl, hC3, szL' (by rw [List.length_map]; omega), ?_⟩
      refine ⟨_, rfl, _, _, rfl, rfl, ⟨by decide, by decide⟩, _, _, ws ++ [n % 10], rfl, s3.new nCH, ?_, at_app, by rw [List.length_append, hl]; rfl, sm.app (by omega) (by omega)⟩
      rw [upd_ne nCa.symm]
      exact ha3
    · obtain ⟨n, y5, ws, rfl, s3, ha3, hC3, hl, sm⟩ := hp
      rw [Int.toNat_natCast] at hl
      refine ⟨_, rfl, C, ws, rfl, hC3, sm, by omega, by omega, fun H5 ws' s5 hC5 hl5 sm5 c5 _ => ?_⟩
      refine q H5 C ws' ns1 (fun b o n e => ?_) nCH nCa hC5 (s5 _ _ nCa.symm ha3) (by omega) sm5 c5
      have hb := s3 b o n e
      exact s5 b o (fun z => by rw [z, nCH] at e; cases e) hb
end
/-! ### packs of a shop -/
def isPack (os : List Ofr) (i : Nat) : Bool := match os[i]? with
  | some (.pack _ _) => true
  | _ => false
def packsN (os : List Ofr) (n : Nat) : List Int := ((List.range n).filter (isPack os)).map fun (i : Nat) => (i : Int)
theorem packsN_len (os : List Ofr) (n : Nat) : (packsN os n).length ≤ n := by
  unfold packsN
  rw [List.length_map]
  exact Nat.le_trans (List.length_filter_le _ _) (by rw [List.length_range]; exact Nat.le_refl _)
theorem packsN_yes {os : List Ofr} {n : Nat} (h : isPack os n = true) : packsN os (n + 1) = packsN os n ++ [(n : Int)] := by
  unfold packsN
  rw [List.range_succ, List.filter_append, List.map_append]
  simp [h]
theorem packsN_no {os : List Ofr} {n : Nat} (h : isPack os n = false) : packsN os (n + 1) = packsN os n := by
  unfold packsN
  rw [List.range_succ, List.filter_append, List.map_append]
  simp [h]
theorem packsN_mem {os : List Ofr} {n : Nat} {x : Int} (h : x ∈ packsN os n) : ∃ j : Nat, x = (j : Int) ∧ j < n ∧ ∃ c p, os[j]? = some (.pack c p) := by
  obtain ⟨j, hj, rfl⟩ := List.mem_map.mp h
  obtain ⟨h1, h2⟩ := List.mem_filter.mp hj
  refine ⟨j, rfl, List.mem_range.mp h1, ?_⟩
  unfold isPack at h2
  split at h2
  · exact ⟨_, _, by assumption⟩
  · cases h2
/-! ### _law_shop -/
abbrev s_law_shop : Stmt := topS 73
abbrev N_law_shop : List Str := ["_law_draws_here", "_law_many", "_law_most", "_law_shop_here", "_law_k", "_law_number", "_law_packs", "_law_kind", "_law_content_here", "_law_place", "_law_offer"]
theorem sc_law_shop : FnScope N_law_shop ["_law_draws_here", "_law_many", "_law_most"] (defScope s_law_shop) := ⟨rfl, rfl, rfl, by decide +kernel, rfl, by decide +kernel, by decide +kernel⟩

def sp_shop : Sp := fun vs H Q _ => ∃ (a : Addr) (ns : List Int) (m most : Nat), vs = [.ref a, .int m, .int most] ∧ H a = some (LI ns) ∧ 1 ≤ m ∧ m ≤ 4 ∧ most ≤ 8 ∧
  ∀ H' p os ns', SameBut a H H' → H p = none → ShopAt (cutH a H') p os → Good os → FitS m os → os.length ≤ most → H' a = some (LI ns') → Q (.ref p) H'
section
variable {P : Program} {w : World} {K : PySem.W.Frag} {mg : Str → Option Value} {base : Heap}
theorem ok_shop {f f1 f2 f3 f4 f5 : Addr} {fd fd1 fd2 fd3 fd4 fd5 : FuncData} {k : Nat} (M : Names mg) (D : Def K mg "_law_shop" s_law_shop ["_law_draws_here", "_law_many", "_law_most"] f fd) (D_law_content : Def K mg "_law_content" s_law_content ["_law_draws_here", "_law_many", "_law_most"] f1 fd1) (D_law_price : Def K mg "_law_price" s_law_price ["_law_draws_here"] f2 fd2) (D_law_tiers : Def K mg "_law_tiers" s_law_tiers ["_law_draws_here"] f3 fd3)
    (D_law_cut : Def K mg "_law_cut" s_law_cut ["_law_row"] f4 fd4) (D_law_pop : Def K mg "_law_pop" s_law_pop ["_law_draws_here"] f5 fd5) :
    FnOk P w K mg base CX0 (k + 4) f fd ["_law_draws_here", "_law_many", "_law_most"] sp_shop := by
  have G_law_content : FnOk P w K mg base CX0 (k + 3) f1 fd1 ["_law_draws_here", "_law_many", "_law_most"] sp_content := ok_content M D_law_content D_law_pop D_law_cut
  have G_law_price : FnOk P w K mg base CX0 (k + 3) f2 fd2 ["_law_draws_here"] sp_price := ok_price D_law_price D_law_pop
  have G_law_tiers : FnOk P w K mg base CX0 (k + 3) f3 fd3 ["_law_draws_here"] sp_tiers := ok_tiers M D_law_tiers D_law_price D_law_pop
  have G_law_pop : FnOk P w K mg base CX0 (k + 3) f5 fd5 ["_law_draws_here"] sp_pop := ok_pop D_law_pop
  refine D.F.ok sc_law_shop (fun vs H Q E h => ?_) (fun cdv A outer s H vs Q E hr h => ?_)
  · obtain ⟨a, ns, m, most, rfl, _⟩ := h
    rfl
  · obtain ⟨a, ns, m, most, rfl, ha, hm1, hm4, hmost, q⟩ := h
    refine ⟨_, (pss_cons (ps_set (i := 3) sc_law_shop.nd rfl (Or.inl rfl) (pe_lst pa_nil))
  (pss_cons (ps_for PassesOwn.never rfl (pi_range1 (by rfl) M.range (pa_cons (pe_op op_mod (pe_call G_law_pop hr (by rfl) D_law_pop.g D_law_pop.F.kp D_law_pop.b .nil pass0 (pa_cons (pv 0) pa_nil)) (pe_op op_add (pv 2) pe_int)) pa_nil)) (pg_name (i := 4) sc_law_shop.nd rfl (Or.inl rfl))
   (pss_cons (ps_set (i := 5) sc_law_shop.nd rfl (Or.inl rfl) (pe_call G_law_pop hr (by rfl) D_law_pop.g D_law_pop.F.kp D_law_pop.b .nil pass0 (pa_cons (pv 0) pa_nil)))
  (pss_cons (ps_setLc (i := 6) (own := [("_law_place", 9), ("_law_offer", 10)]) (by rfl) sc_law_shop.nd rfl rfl (sw_true rfl rfl rfl (by decide +kernel)) (pi_enum (by rfl) M.enumerate (pa_cons (pv 3) pa_nil)) (blkOk_by (own := [("_law_place", 9), ("_law_offer", 10)]) (N := N_law_shop) (sc := defScope s_law_shop) (by decide +kernel)) (fun _ _ _ _ _ => (pg_tupK (K := K) (n := 2) rfl rfl (pgs_cons (pg_name (i := 9) sc_law_shop.nd rfl (Or.inl rfl)) (pgs_cons (pg_name (i := 10) sc_law_shop.nd rfl (Or.inl rfl)) pgs_nil)))) (fun _ _ _ _ _ => (pts_one (pt_cmpR op_eq (pe_ix (ix_tupK (K := K) rfl) (pv 10) pe_int (fun _ _ => rfl)) pe_str (nomark _)))) (fun _ _ _ _ _ => (pv 9)))
  (pss_cons (ps_set (i := 7) sc_law_shop.nd rfl (Or.inl rfl) (pe_op op_mod (pv 5) pe_int))
  (pss_cons (ps_set (i := 8) sc_law_shop.nd rfl (Or.inl rfl) (pe_call G_law_content hr (by rfl) D_law_content.g D_law_content.F.kp D_law_content.b .nil pass0 (pa_cons (pv 0) (pa_cons (pv 1) (pa_cons pe_int pa_nil)))))
  (pss_one (ps_if (pt_cmpR op_lt (pv 7) pe_int (nomark _))
   (pss_one (ps_expr (pe_bm PySem.F.plainAttrs_list PySem.F.slot_list_append PySem.F.type_list_append mt_append (pv 3) (pa_cons (pe_tup (pa_cons pe_str (pa_cons (pv 8) (pa_cons (pe_call G_law_tiers hr (by rfl) D_law_tiers.g D_law_tiers.F.kp D_law_tiers.b .nil pass0 (pa_cons (pv 0) pa_nil)) pa_nil)))) pa_nil))))
   (pss_one (ps_if (PW.pt (pw_and (pt_cmpR op_lt (pv 7) pe_int (nomark _)) (pw_and1 (pt_cmpR (op_neD hr.units) (pv 6) (pe_lst pa_nil) (nomark _)))))
   (pss_one (ps_expr (pe_bm PySem.F.plainAttrs_list PySem.F.slot_list_append PySem.F.type_list_append mt_append (pv 3) (pa_cons (pe_tup (pa_cons pe_str (pa_cons (pv 8) (pa_cons (pe_call G_law_price hr (by rfl) D_law_price.g D_law_price.F.kp D_law_price.b .nil pass0 (pa_cons (pv 0) pa_nil)) (pa_cons (pe_ix ix_list (pv 6) (pe_op op_mod (pe_op op_fdiv (pv 5) pe_int) (pe_callB call_len_seq (by rfl) M.len (by decide +kernel) (pa_cons (pv 6) pa_nil))) (fun _ _ => rfl)) pa_nil))))) pa_nil))))
   (pss_one (ps_expr (pe_bm PySem.F.plainAttrs_list PySem.F.slot_list_append PySem.F.type_list_append mt_append (pv 3) (pa_cons (pe_tup (pa_cons pe_str (pa_cons (pv 8) (pa_cons (pe_call G_law_price hr (by rfl) D_law_price.g D_law_price.F.kp D_law_price.b .nil pass0 (pa_cons (pv 0) pa_nil)) pa_nil)))) pa_nil)))))))))))))
  (pss_one (ps_ret (pv 3))))), ?_⟩
    refine ⟨Nat.zero_le _, fun S nS => ?_⟩
    have nSa : S ≠ a := (ne_of_none ha nS).symm
    have ha0 : upd H S (.lst []) a = some (LI ns) := by rw [upd_ne nSa.symm]; exact ha
    refine ⟨_, rfl, a, ns, rfl, ha0, fun H1 s1 ha1 => ?_⟩
    have s1' : SameBut a H H1 := (SameBut.of (same_upd nS)).trans s1
    have hS1 : H1 S = some (.lst []) := s1 _ _ nSa upd_same
    obtain ⟨cnt, hcnt, ecnt⟩ := mod_at (i := ns.headD 0) (n := most + 1) (by omega)
    refine ⟨_, rfl, _, _, rfl, rfl, _, _, rfl, rfl, (by show (0 : Int) < (most : Int) + 1; omega), ?_⟩
    refine ⟨(cnt : Int), (by show [V.int (ns.headD 0 % ((most : Int) + 1))] = [V.int (cnt : Int)]; rw [show ns.headD 0 % ((most : Int) + 1) = (cnt : Int) from ecnt]), by omega, by omega, for_range (n := (cnt : Int).toNat) (fun i σ H' => ∃ y4 y5 y6 y7 y8, σ = [some (.ref a), some (.int m), some (.int most), some (.ref S), y4, y5, y6, y7, y8, none, none] ∧ SameBut a H H' ∧ (∃ ds, H' a = some (LI ds)) ∧ ∃ (vs : List Addr) (os : List Ofr), H' S = some (.lst (vs.map V.ref)) ∧ Al (OfrAt (cutH S (cutH a H'))) vs os ∧ Good os ∧ FitS m os ∧ os.length ≤ i) ⟨none, none, none, none, none, rfl, s1', ⟨_, ha1⟩, [], [], hS1, True.intro, ⟨by decide, fun i o ho => by simp at ho⟩, fun o ho => by simp at ho, Nat.le_refl _⟩ (fun i σ H2 hi hp => ?_) (fun σ H2 hp => ?_)⟩
    · obtain ⟨y4, y5, y6, y7, y8, rfl, s2, ⟨ds, ha2⟩, vs, os, hS2, al, gd, ft, hlen⟩ := hp
      have hi2 : i < cnt := by omega
      have lal := al.len
      refine ⟨_, rfl, a, ds, rfl, ha2, fun H3 s3 ha3 => ?_⟩
      generalize ds.headD 0 = n
      have s23 := s2.trans s3
      have hS3 := s3 _ _ nSa hS2
      have al3 : Al (OfrAt (cutH S (cutH a H3))) vs os := al.imp fun v o h => h.same (cut_mono (cut_same s3))
      have sh3 : ShopAt H3 S os := ShopAt.of_al hS3 (al3.imp fun v o h => (h.same cut_le).same cut_le)
      obtain ⟨vs3, k1, k2, k3⟩ := id sh3
      -- packs
      refine ⟨_, rfl, S, _, rfl, SqL.of k1, fun B nB => lc_it (walk_enum (xs := vs3.map V.ref)) (fun j H' => Same H3 H' ∧ H' B = some (LI (packsN os j))) ⟨same_upd nB, upd_same⟩ (fun j H' _ hp => SqL.of (hp.1 _ _ k1)) (fun j x H3' H4 hj hI hy => ?_) (fun H4 hI => ?_)⟩
      · obtain ⟨s4, hB⟩ := hI
        obtain ⟨Tt, x1, x2, rfl, nT, rfl, e1, e2⟩ := hy
        cases Option.some.inj e1
        rw [List.length_map] at hj
        have hj2 : j < os.length := by omega
        obtain ⟨v, o, g1, g2, g3⟩ := ShopAt.get (H := H3) (a := S) k2 hj2
        have e2' : (vs3.map V.ref)[j]? = some x2 := e2
        rw [g3] at e2'
        cases Option.some.inj e2'
        have st := same_upd (o := .tup [.int (j : Nat), .ref v]) nT
        obtain ⟨b, r, hv, _⟩ := ((k3 j v o g1 g2).same (s4.trans st)).head
        have nlen := packsN_len os j
        have hB2 := st _ _ hB
        refine ⟨Tt, _, rfl, SqT.of upd_same, rfl, _, _, rfl, _, _, rfl, rfl, rfl, _, rfl, v, _, _, _, rfl, rfl, SqT.of hv, atI_nat (j := 0) rfl, rfl, ?_⟩
        cases o with
        | pack c pr =>
          have hn : isPack os j = true := by unfold isPack; rw [g2]
          refine ⟨true, rfl, _, rfl, _, hB2, szL' (by rw [List.length_map]; omega), sm_new (s4.trans st) nB, ?_⟩
          rw [packsN_yes hn]
          exact at_app
        | many c ts =>
          have hn : isPack os j = false := by unfold isPack; rw [g2]
          exact ⟨false, rfl, s4.trans st, by rw [packsN_no hn]; exact hB2⟩
        | add c pr kk =>
          have hn : isPack os j = false := by unfold isPack; rw [g2]
          exact ⟨false, rfl, s4.trans st, by rw [packsN_no hn]; exact hB2⟩
      · obtain ⟨s4, hB⟩ := hI
        rw [List.length_map, k2] at hB
        have ha4 := s4 _ _ ha3
        have hS4 := s4 _ _ hS3
        have nBa : B ≠ a := (ne_of_none ha3 nB).symm
        have s24 : SameBut a H H4 := s23.trans (.of s4)
        have al4 : Al (OfrAt (cutH S (cutH a H4))) vs os := al3.imp fun v o h => h.same (cut_mono (cut_mono s4))
        -- kind
        refine ⟨_, rfl, _, _, rfl, rfl, (by show (0 : Int) < _; decide), ?_⟩
        -- content
        refine ⟨_, rfl, _, rfl, a, _, m, 9, rfl, ha4, hm1, hm4, by decide, by decide, fun H5 c ws ns5 s5 nc nca hc ha5 hl sm => ?_⟩
        have s25 := s24.trans s5
        have hS5 := s5 _ _ nSa hS4
        have hB5 := s5 _ _ nBa hB
        have ncS : c ≠ S := fun z => by rw [z, hS4] at nc; cases nc
        have al5 : Al (OfrAt (cutH S (cutH a H5))) vs os := al4.imp fun v o h => h.same (cut_mono (cut_same s5))
        have fin : ∀ (H6 : Hp) (v : Addr) (o : Ofr) (tup : List V) (ns6 : List Int), SameBut a H5 H6 → H6 v = none → H6 a = some (LI ns6) → (OfrAt (cutH S (cutH a (upd H6 v (.tup tup)))) v o) → GoodO os os.length o → FitO m o → upd H6 v (.tup tup) S = some (.lst (vs.map V.ref)) ∧ (vs.map V.ref).length < sizeLine ∧ (∃ y4 y5 y6 y7 y8, [some (V.ref a), some (.int m), some (.int most), some (.ref S), some (.int (0 + (i : Nat))), some (.int n), some (.ref B), some (.int (n % 8)), some (.ref c), none, none] = [some (.ref a), some (.int m), some (.int most), some (.ref S), y4, y5, y6, y7, y8, none, none] ∧ SameBut a H (upd (upd H6 v (.tup tup)) S (.lst (vs.map V.ref ++ [.ref v]))) ∧ (∃ ds, upd (upd H6 v (.tup tup)) S (.lst (vs.map V.ref ++ [.ref v])) a = some (LI ds)) ∧ ∃ (vs' : List Addr) (os' : List Ofr), upd (upd H6 v (.tup tup)) S (.lst (vs.map V.ref ++ [.ref v])) S = some (.lst (vs'.map V.ref)) ∧ Al (OfrAt (cutH S (cutH a (upd (upd H6 v (.tup tup)) S (.lst (vs.map V.ref ++ [.ref v])))))) vs' os' ∧ Good os' ∧ FitS m os' ∧ os'.length ≤ i + 1) := by
          intro H6 v o tup ns6 s6 nv ha6 ho go fo
          have nva : v ≠ a := (ne_of_none ha6 nv).symm
          have hS6 := s6 _ _ nSa hS5
          have hS7 := (same_upd (o := .tup tup) nv) _ _ hS6
          refine ⟨hS7, szL' (by rw [List.length_map]; omega), _, _, _, _, _, rfl, ?_, ⟨ns6, ?_⟩, vs ++ [v], os ++ [o], ?_, ?_, gd.push (by omega) go, ft.push fo, by rw [List.length_append, List.length_singleton]; omega⟩
          · exact ((s25.trans s6).trans (.of (same_upd nv))).new nS
          · rw [upd_ne nSa.symm, upd_ne nva.symm]
            exact ha6
          · rw [upd_same, List.map_append]
            rfl
          · rw [cut_upd nSa, cut_off]
            refine Al.app (al5.imp fun x y h => h.same (cut_mono (cut_same (s6.trans (.of (same_upd nv)))))) (.one ho)
        have finM := fun (H6 H7 : Hp) (v tt : Addr) (ts : List (Int × Int)) (ns7 : List Int) (s6 : SameBut a H5 H6) (s7 : SameBut a H6 H7) (nt : H6 tt = none) (hts : TiersAt (cutH a H7) tt ts) (gts : GoodT ts) (prt : PriceT ts) (ha7 : H7 a = some (LI ns7)) (nv : H7 v = none) => by
          have hS6 := s6 _ _ nSa hS5
          have hS7 := s7 _ _ nSa hS6
          have nva : v ≠ a := (ne_of_none ha7 nv).symm
          have nvS : v ≠ S := (ne_of_none hS7 nv).symm
          have ntS : tt ≠ S := fun z => by rw [z, hS6] at nt; cases nt
          have hc7 := s7 _ _ nca (s6 _ _ nca hc)
          have hts' : TiersAt (cutH S (cutH a (upd H7 v (.tup [.str "many", .ref c, .ref tt])))) tt ts := (hts.cut ntS (cut_put nSa hS7)).same (cut_mono (cut_mono (same_upd nv)))
          exact fin H7 v (.many ws ts) [.str "many", .ref c, .ref tt] ns7 (s6.trans s7) nv ha7 ⟨c, tt, cut_put nvS (cut_put nva upd_same), cut_put ncS (cut_put nca ((same_upd nv) _ _ hc7)), hts'⟩ gts ⟨hl, sm, prt⟩
        have finP := fun (H6 H7 : Hp) (v : Addr) (ns7 : List Int) (p : Int) (s6 : SameBut a H5 H6) (s7 : SameBut a H6 H7) (ha7 : H7 a = some (LI ns7)) (p0 : 0 ≤ p) (p1 : p < 1000000000000) (nv : H7 v = none) => by
          have hS7 := s7 _ _ nSa (s6 _ _ nSa hS5)
          have nva : v ≠ a := (ne_of_none ha7 nv).symm
          have nvS : v ≠ S := (ne_of_none hS7 nv).symm
          have hc7 := s7 _ _ nca (s6 _ _ nca hc)
          exact fin H7 v (.pack ws p) [.str "pack", .ref c, .int p] ns7 (s6.trans s7) nv ha7 ⟨c, cut_put nvS (cut_put nva upd_same), cut_put ncS (cut_put nca ((same_upd nv) _ _ hc7))⟩ True.intro ⟨hl, sm, p0, p1⟩
        refine ⟨_, rfl, _, _, rfl, rfl, _, rfl, ite2 (fun _ => ?_) (fun _ => ?_)⟩
        · refine ⟨_, rfl, .inl ⟨rfl, _, SqL.of hS5⟩, _, rfl, _, rfl, a, _, rfl, ha5, fun H7 tt ts ns7 s7 nt hts gts prt ha7 => ⟨by show 3 ≤ sizeLine; decide, fun v nv => ?_⟩⟩
          exact ⟨S, _, _, rfl, rfl, finM H5 H7 v tt ts ns7 (.refl _ _) s7 nt hts gts prt ha7 nv⟩
        · refine ⟨_, rfl, _, _, rfl, rfl, _, rfl, ite2 (fun _ => ?_) (fun _ => ?_)⟩
          · refine ⟨_, rfl, Nat.zero_le _, fun e ne => ?_⟩
            have se := same_upd (o := .lst []) ne
            have hB6 := se _ _ hB5
            have ha6 := se _ _ ha5
            have hS6 := se _ _ hS5
            have he : upd H5 e (.lst []) e = some (.lst []) := upd_same
            generalize upd H5 e (.lst []) = H6 at se hB6 ha6 hS6 he ⊢
            refine ⟨_, _, dp_ints (SqL.of hB6), dp_ints (ns := []) (SqL.of he), shaped_ints _, shaped_ints _, _, rfl, ite2 (fun z => ?_) (fun z => ?_)⟩
            · have pne : 0 < (packsN os os.length).length := by
                rcases Nat.eq_zero_or_pos (packsN os os.length).length with y | y
                · rw [eqv_ints, List.eq_nil_of_length_eq_zero y, decide_eq_true rfl] at z
                  cases z
                · exact y
              obtain ⟨j, hj, ej⟩ := mod_at (i := n / 8) (n := ((packsN os os.length).map V.int).length) (by rw [List.length_map]; exact pne)
              rw [List.length_map] at hj
              refine ⟨_, rfl, .inl ⟨rfl, _, SqL.of hS6⟩, _, rfl, _, rfl, a, _, rfl, ha6, fun H7 ns7 p s7 ha7 p0 p1 => ?_⟩
              have hB7 := s7 _ _ nBa hB6
              refine ⟨_, rfl, _, rfl, _, _, rfl, rfl, ⟨by decide, by decide⟩, _, rfl, B, _, rfl, .inl (SqL.of hB7), _, _, rfl, rfl, (by rw [List.length_map]; omega), B, _, _, _, rfl, rfl, SqL.of hB7, at_of ej (getD_ints hj), by show 4 ≤ sizeLine; decide, fun v nv => ?_⟩
              obtain ⟨jj, ejj, hjj, cc, pp, hpk⟩ := packsN_mem (List.getElem_mem hj)
              have nva : v ≠ a := (ne_of_none ha7 nv).symm
              have hS7 := s7 _ _ nSa hS6
              have nvS : v ≠ S := (ne_of_none hS7 nv).symm
              have hc7 := s7 _ _ nca (se _ _ hc)
              exact ⟨S, _, _, rfl, rfl, fin H7 v (.add ws p ((packsN os os.length)[j])) _ ns7 ((SameBut.of se).trans s7) nv ha7 ⟨c, cut_put nvS (cut_put nva upd_same), cut_put ncS (cut_put nca ((same_upd nv) _ _ hc7))⟩ ⟨jj, ejj, hjj, cc, pp, hpk⟩ ⟨hl, sm, p0, p1⟩⟩
            · refine ⟨_, rfl, .inl ⟨rfl, _, SqL.of hS6⟩, _, rfl, _, rfl, a, _, rfl, ha6, fun H7 ns7 p s7 ha7 p0 p1 => ⟨by show 3 ≤ sizeLine; decide, fun v nv => ?_⟩⟩
              exact ⟨S, _, _, rfl, rfl, finP H6 H7 v ns7 p (.of se) s7 ha7 p0 p1 nv⟩
          · refine ⟨_, rfl, .inl ⟨rfl, _, SqL.of hS5⟩, _, rfl, _, rfl, a, _, rfl, ha5, fun H7 ns7 p s7 ha7 p0 p1 => ⟨by show 3 ≤ sizeLine; decide, fun v nv => ?_⟩⟩
            exact ⟨S, _, _, rfl, rfl, finP H5 H7 v ns7 p (.refl _ _) s7 ha7 p0 p1 nv⟩
    · obtain ⟨y4, y5, y6, y7, y8, rfl, s2, ⟨ds, ha2⟩, vs, os, hS2, al, gd, ft, hlen⟩ := hp
      refine ⟨_, rfl, q H2 S os ds s2 nS (ShopAt.of_al (cut_put nSa hS2) (al.imp fun v o h => h.same cut_le)) gd ft (by omega) ha2⟩
end
/-! ### data that can be shown -/
structure Sh (n : Nat) (d : PyData) : Prop where
  ok : d.showable = true
  nd : d.hasDict = false
  len : d.shown.length ≤ n
theorem Sh.mono {n m : Nat} {d : PyData} (h : Sh n d) (k : n ≤ m) : Sh m d := ⟨h.ok, h.nd, Nat.le_trans h.len k⟩
theorem Sh.int {i : Int} (h : i.natAbs < 10 ^ 12) : Sh 13 (.int i) := by
  refine ⟨?_, by simp [PyData.hasDict], PyData.shown_int_le h⟩
  simp only [PyData.showable, decide_eq_true_eq]
  refine log2_small (Nat.lt_trans h ?_)
  exact Nat.lt_trans (by decide : 10 ^ 12 < 2 ^ 64) (Nat.pow_lt_pow_right (by decide) (by decide))
theorem shw_all {n : Nat} : ∀ {xs : List PyData}, (∀ x ∈ xs, Sh n x) → PyData.showableAll xs = true ∧ PyData.hasDictAll xs = false ∧ ((PyData.shownAll xs).map (·.length)).sum ≤ n * xs.length
  | [], _ => ⟨by simp [PyData.showableAll], by simp [PyData.hasDictAll], by simp [PyData.shownAll]⟩
  | x :: r, h => by
    obtain ⟨h1, h2, h3⟩ := shw_all (xs := r) fun y hy => h y (List.mem_cons_of_mem _ hy)
    have hx := h x List.mem_cons_self
    refine ⟨by simp [PyData.showableAll, hx.ok, h1], by simp [PyData.hasDictAll, hx.nd, h2], ?_⟩
    rw [PyData.shownAll_cons, List.map_cons, List.sum_cons, List.length_cons, Nat.mul_add, Nat.mul_one]
    have := hx.len
    omega
theorem Sh.list {n : Nat} {xs : List PyData} (h : ∀ x ∈ xs, Sh n x) : Sh (n * xs.length + 2 * xs.length + 3) (.list xs) := by
  obtain ⟨h1, h2, h3⟩ := shw_all h
  refine ⟨by simp [PyData.showable, h1], by simp [PyData.hasDict, h2], ?_⟩
  have := listText_len_le (PyData.shownAll xs)
  rw [PyData.shownAll_length] at this
  show (PyData.list xs).shown.length ≤ _
  rw [PyData.shown_list, ← listText_eq_join]
  omega
theorem Sh.tuple {n : Nat} {xs : List PyData} (h : ∀ x ∈ xs, Sh n x) : Sh (n * xs.length + 2 * xs.length + 3) (.tuple xs) := by
  obtain ⟨h1, h2, h3⟩ := shw_all h
  refine ⟨by simp [PyData.showable, h1], by simp [PyData.hasDict, h2], ?_⟩
  have := tupleText_len_le (PyData.shownAll xs)
  rw [PyData.shownAll_length] at this
  have e : (PyData.tuple xs).shown = tupleText (PyData.shownAll xs) := by simp only [PyData.shown]
  rw [e]
  omega
theorem Sh.ints {m : Nat} {ns : List Int} (h : ∀ n ∈ ns, n.natAbs < 10 ^ 12) (hl : ns.length ≤ m) : Sh (15 * m + 3) (.list (ns.map PyData.int)) := by
  refine (Sh.list (n := 13) fun x hx => ?_).mono ?_
  · obtain ⟨n, hn, rfl⟩ := List.mem_map.mp hx
    exact Sh.int (h n hn)
  · rw [List.length_map]
    omega
theorem Sh.word {x : Str} (h : x = "pack" ∨ x = "many" ∨ x = "add") : Sh 13 (.str x) := by
  refine ⟨by simp [PyData.showable], by simp [PyData.hasDict], ?_⟩
  rw [PyData.shown_str]
  rcases h with rfl | rfl | rfl <;> decide +kernel
theorem Small.abs {ws : List Int} (h : Small ws) : ∀ n ∈ ws, n.natAbs < 10 ^ 12 := fun n hn => by
  have := h n hn
  omega
theorem sh_ofr {m : Nat} {os : List Ofr} {i : Nat} {o : Ofr} (h8 : os.length ≤ 8) (hm : m ≤ 4) (g : GoodO os i o) (f : FitO m o) (hi : i < 8) : Sh 1000 (dOfr o) := by
  have cts : ∀ {c : List Int}, c.length = m → Small c → Sh 200 (dInts c) := fun {c} hl sm => (Sh.ints (m := 4) sm.abs (by omega)).mono (by decide)
  have pr : ∀ {p : Int}, 0 ≤ p → p < 1000000000000 → Sh 200 (.int p) := fun {p} h0 h1 => (Sh.int (by omega)).mono (by decide)
  cases o with
  | pack c p =>
    obtain ⟨h1, h2, h3, h4⟩ := f
    refine (Sh.tuple (n := 200) fun x hx => ?_).mono (by show 200 * 3 + 2 * 3 + 3 ≤ 1000; decide)
    simp only [List.mem_cons, List.not_mem_nil, or_false] at hx
    rcases hx with rfl | rfl | rfl
    · exact (Sh.word (.inl rfl)).mono (by decide)
    · exact cts h1 h2
    · exact pr h3 h4
  | add c p k =>
    obtain ⟨h1, h2, h3, h4⟩ := f
    obtain ⟨j, ej, hj, _⟩ := g
    refine (Sh.tuple (n := 200) fun x hx => ?_).mono (by show 200 * 4 + 2 * 4 + 3 ≤ 1000; decide)
    simp only [List.mem_cons, List.not_mem_nil, or_false] at hx
    rcases hx with rfl | rfl | rfl | rfl
    · exact (Sh.word (.inr (.inr rfl))).mono (by decide)
    · exact cts h1 h2
    · exact pr h3 h4
    · exact pr (by omega) (by omega)
  | many c ts =>
    obtain ⟨h1, h2, h3⟩ := f
    have g' : GoodT ts := g
    have few := g'.few
    refine (Sh.tuple (n := 200) fun x hx => ?_).mono (by show 200 * 3 + 2 * 3 + 3 ≤ 1000; decide)
    simp only [List.mem_cons, List.not_mem_nil, or_false] at hx
    rcases hx with rfl | rfl | rfl
    · exact (Sh.word (.inr (.inl rfl))).mono (by decide)
    · exact cts h1 h2
    · refine (Sh.list (n := 40) fun x hx => ?_).mono ?_
      · obtain ⟨t, ht, rfl⟩ := List.mem_map.mp hx
        have p := h3 t ht
        have q := g'.most t ht
        have q1 := g'.ge1 t ht
        refine (Sh.tuple (n := 13) fun x hx => ?_).mono (by show 13 * 2 + 2 * 2 + 3 ≤ 40; decide)
        simp only [List.mem_cons, List.not_mem_nil, or_false] at hx
        rcases hx with rfl | rfl
        · exact Sh.int (by omega)
        · exact Sh.int (by omega)
      · rw [List.length_map]
        omega
theorem sh_shop {m : Nat} {os : List Ofr} (gd : Good os) (ft : FitS m os) (hm : m ≤ 4) : Sh 10000 (dShop os) := by
  have h8 := gd.1
  refine (Sh.list (n := 1000) fun x hx => ?_).mono ?_
  · obtain ⟨o, ho, rfl⟩ := List.mem_map.mp hx
    obtain ⟨i, hi, e⟩ := List.getElem_of_mem ho
    exact sh_ofr h8 hm (gd.2 i o (by rw [List.getElem?_eq_getElem hi, e])) (ft o ho) (by omega)
  · rw [List.length_map]
    omega
theorem LineOk.places8 {os : List Ofr} {l : Ln} (h8 : os.length ≤ 8) (h : LineOk os l) : (0 ≤ l.p ∧ l.p < 8 ∧ 1 ≤ l.c ∧ l.c ≤ 12) ∧ l.as.length ≤ 8 ∧ ∀ x ∈ l.as, 0 ≤ x ∧ x < 8 := by
  obtain ⟨p, ep, ways⟩ := h
  rcases ways with ⟨c, ts, w1, _, w2, w3, w4⟩ | ⟨c, pr, w1, w2, w3, w4⟩
  · have := (List.getElem?_eq_some_iff.mp w1).1
    exact ⟨⟨by omega, by omega, w2, w3⟩, by rw [w4]; decide, fun x hx => by rw [w4] at hx; cases hx⟩
  · have := (List.getElem?_eq_some_iff.mp w1).1
    refine ⟨⟨by omega, by omega, by omega, by omega⟩, w3, fun x hx => ?_⟩
    obtain ⟨j, rfl, _, _, _, hj⟩ := w4 x hx
    have := (List.getElem?_eq_some_iff.mp hj).1
    omega
theorem sh_line {os : List Ofr} {l : Ln} (h8 : os.length ≤ 8) (lk : LineOk os l) : Sh 1000 (dLine l) := by
  obtain ⟨h1, h2⟩ := lk.places8 h8
  refine (Sh.tuple (n := 200) fun x hx => ?_).mono (by show 200 * 3 + 2 * 3 + 3 ≤ 1000; decide)
  simp only [List.mem_cons, List.not_mem_nil, or_false] at hx
  rcases hx with rfl | rfl | rfl
  · exact (Sh.int (by omega)).mono (by decide)
  · exact (Sh.int (by omega)).mono (by decide)
  · exact (Sh.ints (m := 8) (fun n hn => by have := h2.2 n hn; omega) h2.1).mono (by decide)
/-! ### defs that are called while no list or tuple is being shown: str(..) of data -/
structure FnOkG (P : Program) (w : World) (K : PySem.W.Frag) (mg : Str → Option Value) (base : Heap) (k : Nat) (f : Addr) (fd : FuncData) (ps : List Str) (sp : Sp) : Prop where
  count : ∀ vs H Q E, sp vs H Q E → vs.length = ps.length
  go : ∀ (A : Around) (out : List Env) (s : Shared) (H : Hp) (args : Args) (us : List Value) (vs : List V) (Q : VK) (E : XK), A.guards = some [] → Room k A → Env0 P w K mg base A out s H → BindsTo s fd args (ps.zip us) → Vals vs us → sp vs H Q E →
    codeAny (model P w) A (.call (.ref f) args) (CR CX0 out P w H s Q E) s
section
variable {P : Program} {w : World} {K : PySem.W.Frag} {mg : Str → Option Value} {base : Heap}
theorem okG {x qual : Str} {st : Stmt} {f : Addr} {fd : FuncData} {N ps : List Str} {k : Nat} {sp : Sp} (F : Fun K x qual st f fd) (S : FnScope N ps (defScope st)) (cnt : ∀ vs H Q E, sp vs H Q E → vs.length = ps.length)
    (bd : ∀ (cdv : Value) (A : Around) (out : List Env) (s : Shared) (H : Hp) (vs : List V) (Q : VK) (E : XK), (A.deeper (envOfC qual (defScope st) s.heap.objs.size f cdv)).guards = some [] → Room k (A.deeper (envOfC qual (defScope st) s.heap.objs.size f cdv)) → sp vs H Q E →
      ∃ t, PSs (cxOf CX0 P w K mg base N qual (defScope st) f cdv A out s H E).nox (defBody st) t ∧ t { nx := fun _ H' => Q .non H', rt := Q } (start N vs) H) : FnOkG P w K mg base (k + 1) f fd ps sp := by
  obtain ⟨oc, od, kV, doc, pm, an, cdv, ct, osl, rfl, lk, hcd⟩ := F.ex
  refine ⟨cnt, fun A out s H args us vs Q E gd room env bnd rv pre => ?_⟩
  have kin : K.In s.heap := env.mod.kin.keeps fun b o z => (env.bs b o z).1
  have nol : s.heap.NoLimit := env.mod.nolimit.keeps fun b o z => (env.bs b o z).1
  refine codeAny_call_function room.depth (kin _ _ lk) rfl S.co S.gen rfl (PySem.W.codeRec_of kin hcd) (bnd _ _ _ _ ?_)
  refine wpAny_newFunctionEnv_cells S.kind (fun y hy => ?_) fun env' he s1 inside => ?_
  · have hp := S.par y.1 (List.of_mem_zip (show (y.1, y.2) ∈ ps.zip us from hy)).1
    exact hp.imp id fun z => ⟨z, PySem.W.cellsFrom_some _ _ _ (.inl z)⟩
  · subst he
    refine ⟨nol.keeps inside.toInCall.keep, codeAny_func ?_⟩
    obtain ⟨t, body, holds⟩ := bd cdv A out s H vs Q E gd (room.deeper _) pre
    have inv : Inv (cxOf CX0 P w K mg base N qual (defScope st) f cdv A out s H E) [] (start N vs) H s1 := inv_start S room.hd env (cnt _ _ _ _ pre) rv inside
    refine wpAny_mono (body.nox.run [] s1 (start N vs) H _ inv holds) (fun fl s' res => ?_) fun _ _ z => z
    cases fl with
    | brk => exact res.elim fun _ z => z.elim fun _ z => z.2.elim
    | cont => exact res.elim fun _ z => z.elim fun _ z => z.2.elim
    | next =>
      obtain ⟨_, Hn, J, z⟩ := res
      exact ⟨.non, Hn, J.os, J.bare, J.base, J.hok, rfl, z⟩
    | ret u =>
      obtain ⟨v, _, Hn, J, rel, z⟩ := res
      exact ⟨v, Hn, J.os, J.bare, J.base, J.hok, rel, z⟩
/-- f(e, ..), f such a def -/
theorem pe_callG {X : Cx} {x : Str} {f : Addr} {fd : FuncData} {ps : List Str} {sp : Sp} {k : Nat} {p pos : Pos} {e : Expr} {es : List Expr} {t : TA} (gd : X.A.guards = some []) (F : FnOkG X.prog X.w X.K X.mg X.base k f fd ps sp) (room : Room k X.A) (hg : Gl X x) (hm : X.mg x = some (.ref f)) (kp : PySem.W.keepIn X.K (.ref f) = true) (bnd : Binds X.K fd ps [])
    (args : PA X (e :: es) t) (hx : Passes CX0 X fun _ _ _ => False) (nodb : (x == ("__debug__" : Str)) = false := by decide) (plain : starEach (e :: es) X.env = (false, eval e X.env) :: starEach es X.env := by rfl) (rest : (backTo pos (starEach es X.env)).any (·.1) = false := by rfl) :
    PE X (.Call (.Name x p) (e :: es) [] pos) (tCall sp [] (fun _ _ _ => False) t) := by
  refine ⟨fun pins s σ H Q I pre => wpAny_Call_Name_kw (ld_glob I hg hm ?_ nodb)⟩
  refine PySem.W.callWith_K (h₀ := X.base) I.ok.mod.kin kp (thn (args.run pos pins s σ H _ I pre) fun us s1 got => ?_) plain rest
  obtain ⟨vs, H1, I1, rel, pre1⟩ := got
  have pre1' : sp vs H1 Q fun _ _ _ => False := by
    have z := pre1
    rw [List.append_nil] at z
    exact z
  have many : us.length = ps.length := by rw [← rel.length]; exact F.count _ _ _ _ pre1'
  have bt := bnd s1 us I1.kIn (by rw [List.append_nil]; exact many)
  rw [List.append_nil] at bt
  refine ⟨I1.kIn, wpAny_call (codeAny_mono (F.go X.A X.stack s1 H1 ⟨us, []⟩ us vs Q _ gd room I1.env0 bt rel pre1') fun r s' res => ?_)⟩
  match r, res with
  | .error er, z => exact hx pins σ H1 s1 er s' I1 z
  | .ok (.ret u), z => exact I1.after z
/-- str(x) of data -/
def rStrD (K : PySem.W.Frag) : List V → Hp → VK → Prop := fun xs H Q => ∃ (a : Addr) (d : PyData), xs = [.ref a] ∧ Dp K H (.ref a) d ∧ d.showable = true ∧ d.hasDict = false ∧ d.depth ≤ 60 ∧ d.shown.length ≤ sizeLine ∧ Q (.str d.shown) H
theorem cr_strD {X : Cx} (gd : X.A.guards = some []) (hu : X.A.units + 64 < cLine) : CallR X (.type "str") (rStrD X.K) := by
  intro pins s σ H vs us Q I rel pre
  obtain ⟨a, d, rfl, dp, sh, nd, dep, small, q⟩ := pre
  rw [Vals.ref1 rel]
  obtain ⟨as, rd⟩ := Dp.reads I _ _ _ dp rfl
  exact str_of_reads rd sh (fun z => by rw [nd] at z; cases z) gd (by omega) (fun _ _ z => z) (fun h' u tk keep => ⟨.str _, H, I.kept keep, ⟨u, rfl⟩, q⟩) small
theorem cr_strDK {X : Cx} {K : PySem.W.Frag} (h : X.K = K) (gd : X.A.guards = some []) (hu : X.A.units + 64 < cLine) : CallR X (.type "str") (rStrD K) := by subst h; exact cr_strD gd hu
end
/-! ### _law_wrong -/
abbrev s_law_wrong : Stmt := topS 75
abbrev N_law_wrong : List Str := ["_law_draws_here", "_law_many", "_law_shop_here", "_law_number", "_law_content_here", "_law_no_packs", "_law_tiers_here", "_law_places", "_law_place", "_law_offer"]
theorem sc_law_wrong : FnScope N_law_wrong ["_law_draws_here", "_law_many", "_law_shop_here"] (defScope s_law_wrong) := ⟨rfl, rfl, rfl, by decide +kernel, rfl, by decide +kernel, by decide +kernel⟩

theorem TiersAt.sm {H H' : Hp} {a : Addr} {ts : List (Int × Int)} (s : Same H H') (h : TiersAt H a ts) : TiersAt H' a ts := by
  obtain ⟨us, h1, h2, h3⟩ := h
  exact ⟨us, s _ _ h1, h2, fun i u t a b => s _ _ (h3 i u t a b)⟩
def WrongO (os : List Ofr) (o : Ofr) : Prop := ∀ R, standO (os ++ o :: R) os.length o = false
theorem packB_app {os R : List Ofr} {k : Nat} (hk : k < os.length) : packB (os ++ R) k = packB os k := by
  unfold packB
  rw [List.getElem?_append_left hk]
theorem wrong_out {os : List Ofr} {c : List Int} {p k : Int} (h : k < 0 ∨ (os.length : Int) ≤ k) : WrongO os (.add c p k) := fun R => by
  show namesB _ os.length k = false
  unfold namesB
  rcases h with h | h
  · rw [decide_eq_false (by omega), Bool.false_and, Bool.false_and]
  · rw [decide_eq_false (by omega : ¬ k < (os.length : Int)), Bool.and_false, Bool.false_and]
theorem wrong_no {os : List Ofr} {k : Nat} {c : List Int} {p : Int} (hk : k < os.length) (h : packB os k = false) : WrongO os (.add c p (k : Int)) := fun R => by
  show namesB _ os.length (k : Int) = false
  unfold namesB
  rw [Int.toNat_natCast, packB_app hk, h, Bool.and_false]
theorem wrong_many {os : List Ofr} {c : List Int} {ts : List (Int × Int)} (h : goodB ts = false) : WrongO os (.many c ts) := fun R => h
theorem sh_addW {m : Nat} {c : List Int} {k : Int} (hm : m ≤ 4) (hl : c.length = m) (sm : Small c) (k0 : -1 ≤ k) (k1 : k ≤ 99) : Sh 1000 (dOfr (.add c 5 k)) := by
  refine (Sh.tuple (n := 200) fun x hx => ?_).mono (by show 200 * 4 + 2 * 4 + 3 ≤ 1000; decide)
  simp only [List.mem_cons, List.not_mem_nil, or_false] at hx
  rcases hx with rfl | rfl | rfl | rfl
  · exact (Sh.word (.inr (.inr rfl))).mono (by decide)
  · exact (Sh.ints (m := 4) sm.abs (by omega)).mono (by decide)
  · exact (Sh.int (by decide)).mono (by decide)
  · exact (Sh.int (by omega)).mono (by decide)
theorem sh_manyW {m : Nat} {c : List Int} {ts : List (Int × Int)} (hm : m ≤ 4) (hl : c.length = m) (sm : Small c) (h5 : ts.length ≤ 5) (hs : ∀ t ∈ ts, 0 ≤ t.1 ∧ t.1 ≤ 13 ∧ 0 ≤ t.2 ∧ t.2 ≤ 5) : Sh 1000 (dOfr (.many c ts)) := by
  refine (Sh.tuple (n := 250) fun x hx => ?_).mono (by show 250 * 3 + 2 * 3 + 3 ≤ 1000; decide)
  simp only [List.mem_cons, List.not_mem_nil, or_false] at hx
  rcases hx with rfl | rfl | rfl
  · exact (Sh.word (.inr (.inl rfl))).mono (by decide)
  · exact (Sh.ints (m := 4) sm.abs (by omega)).mono (by decide)
  · refine (Sh.list (n := 40) fun x hx => ?_).mono ?_
    · obtain ⟨t, ht, rfl⟩ := List.mem_map.mp hx
      obtain ⟨a1, a2, a3, a4⟩ := hs t ht
      refine (Sh.tuple (n := 13) fun x hx => ?_).mono (by show 13 * 2 + 2 * 2 + 3 ≤ 40; decide)
      simp only [List.mem_cons, List.not_mem_nil, or_false] at hx
      rcases hx with rfl | rfl
      · exact Sh.int (by omega)
      · exact Sh.int (by omega)
    · rw [List.length_map]
      omega
def sp_wrong : Sp := fun vs H Q _ => ∃ (d S : Addr) (ns : List Int) (m : Nat) (os : List Ofr), vs = [.ref d, .int m, .ref S] ∧ H d = some (LI ns) ∧ ShopAt (cutH d H) S os ∧ os.length ≤ 8 ∧ 1 ≤ m ∧ m ≤ 4 ∧
  ∀ H' u o ns', SameBut d H H' → H u = none → H' d = some (LI ns') → OfrAt (cutH d H') u o → WrongO os o → Sh 1000 (dOfr o) → (∀ c ts, o = .many c ts → ts.length ≤ 1000) → Q (.ref u) H'
section
variable {P : Program} {w : World} {K : PySem.W.Frag} {mg : Str → Option Value} {base : Heap}
theorem ok_wrong {f f1 fp : Addr} {fd fd1 fdp : FuncData} {k : Nat} (M : Names mg) (D : Def K mg "_law_wrong" s_law_wrong ["_law_draws_here", "_law_many", "_law_shop_here"] f fd) (D_law_content : Def K mg "_law_content" s_law_content ["_law_draws_here", "_law_many", "_law_most"] f1 fd1) (G_law_content : FnOk P w K mg base CX0 k f1 fd1 ["_law_draws_here", "_law_many", "_law_most"] sp_content) (D_law_pop : Def K mg "_law_pop" s_law_pop ["_law_draws_here"] fp fdp) (G_law_pop : FnOk P w K mg base CX0 k fp fdp ["_law_draws_here"] sp_pop) : FnOk P w K mg base CX0 (k + 1) f fd ["_law_draws_here", "_law_many", "_law_shop_here"] sp_wrong := by
  refine D.F.ok sc_law_wrong (fun vs H Q E h => ?_) (fun cdv A outer s H vs Q E hr h => ?_)
  · obtain ⟨d, S, ns, m, os, rfl, _⟩ := h
    rfl
  · obtain ⟨d, S, ns, m, os, rfl, hd, hS, h8, hm1, hm4, q⟩ := h
    refine ⟨_, (pss_cons (ps_set (i := 3) sc_law_wrong.nd rfl (Or.inl rfl) (pe_call G_law_pop hr (by rfl) D_law_pop.g D_law_pop.F.kp D_law_pop.b .nil pass0 (pa_cons (pv 0) pa_nil)))
  (pss_cons (ps_set (i := 4) sc_law_wrong.nd rfl (Or.inl rfl) (pe_call G_law_content hr (by rfl) D_law_content.g D_law_content.F.kp D_law_content.b .nil pass0 (pa_cons (pv 0) (pa_cons (pv 1) (pa_cons pe_int pa_nil)))))
  (pss_cons (ps_set (i := 5) sc_law_wrong.nd rfl (Or.inl rfl) (pe_op op_cat (pe_lc (own := [("_law_place", 8), ("_law_offer", 9)]) (by rfl) sc_law_wrong.nd (pi_enum (by rfl) M.enumerate (pa_cons (pv 2) pa_nil)) (blkOk_by (own := [("_law_place", 8), ("_law_offer", 9)]) (N := N_law_wrong) (sc := defScope s_law_wrong) (by decide +kernel)) (fun _ _ _ _ _ => (pg_tupK (K := K) (n := 2) rfl rfl (pgs_cons (pg_name (i := 8) sc_law_wrong.nd rfl (Or.inl rfl)) (pgs_cons (pg_name (i := 9) sc_law_wrong.nd rfl (Or.inl rfl)) pgs_nil)))) (fun _ _ _ _ _ => (pts_one (pt_cmpR op_ne (pe_ix (ix_tupK (K := K) rfl) (pv 9) pe_int (fun _ _ => rfl)) pe_str (nomark _)))) (fun _ _ _ _ _ => (pv 8))) (pe_lst (pa_cons (pe_callB call_len_seq (by rfl) M.len (by decide +kernel) (pa_cons (pv 2) pa_nil)) pa_nil))))
  (pss_cons (ps_if (pt_cmpR op_eq (pe_op op_mod (pv 3) pe_int) pe_int (nomark _))
   (pss_cons (ps_set (i := 7) sc_law_wrong.nd rfl (Or.inl rfl) (pe_lst (pa_cons (pe_callB call_len_seq (by rfl) M.len (by decide +kernel) (pa_cons (pv 2) pa_nil)) (pa_cons (pe_op op_add (pe_callB call_len_seq (by rfl) M.len (by decide +kernel) (pa_cons (pv 2) pa_nil)) pe_int) (pa_cons (pe_un un_neg pe_int) (pa_cons pe_int (pa_cons (pe_ix ix_list (pv 5) (pe_op op_mod (pe_op op_fdiv (pv 3) pe_int) (pe_callB call_len_seq (by rfl) M.len (by decide +kernel) (pa_cons (pv 5) pa_nil))) (fun _ _ => rfl)) pa_nil)))))))
  (pss_one (ps_ret (pe_tup (pa_cons pe_str (pa_cons (pv 4) (pa_cons pe_int (pa_cons (pe_ix ix_list (pv 7) (pe_op op_mod (pe_op op_fdiv (pv 3) pe_int) pe_int) (fun _ _ => rfl)) pa_nil))))))))
   pss_nil)
  (pss_cons (ps_set (i := 6) sc_law_wrong.nd rfl (Or.inl rfl) (pe_lst (pa_cons (pe_lst pa_nil) (pa_cons (pe_lst (pa_cons (pe_tup (pa_cons pe_int (pa_cons pe_int pa_nil))) (pa_cons (pe_tup (pa_cons pe_int (pa_cons pe_int pa_nil))) (pa_cons (pe_tup (pa_cons pe_int (pa_cons pe_int pa_nil))) (pa_cons (pe_tup (pa_cons pe_int (pa_cons pe_int pa_nil))) (pa_cons (pe_tup (pa_cons pe_int (pa_cons pe_int pa_nil))) pa_nil)))))) (pa_cons (pe_lst (pa_cons (pe_tup (pa_cons pe_int (pa_cons pe_int pa_nil))) pa_nil)) (pa_cons (pe_lst (pa_cons (pe_tup (pa_cons pe_int (pa_cons pe_int pa_nil))) (pa_cons (pe_tup (pa_cons pe_int (pa_cons pe_int pa_nil))) pa_nil))) (pa_cons (pe_lst (pa_cons (pe_tup (pa_cons pe_int (pa_cons pe_int pa_nil))) (pa_cons (pe_tup (pa_cons pe_int (pa_cons pe_int pa_nil))) (pa_cons (pe_tup (pa_cons pe_int (pa_cons pe_int pa_nil))) pa_nil)))) pa_nil)))))))
  (pss_one (ps_ret (pe_tup (pa_cons pe_str (pa_cons (pv 4) (pa_cons (pe_ix ix_list (pe_op op_cat (pv 6) (pe_lst (pa_cons (pe_lst (pa_cons (pe_tup (pa_cons pe_int (pa_cons pe_int pa_nil))) (pa_cons (pe_tup (pa_cons pe_int (pa_cons pe_int pa_nil))) pa_nil))) (pa_cons (pe_lst (pa_cons (pe_tup (pa_cons pe_int (pa_cons pe_int pa_nil))) (pa_cons (pe_tup (pa_cons pe_int (pa_cons pe_int pa_nil))) pa_nil))) pa_nil)))) (pe_op op_mod (pe_op op_fdiv (pv 3) pe_int) pe_int) (fun _ _ => rfl)) pa_nil))))))))))), ?_⟩
    refine ⟨_, rfl, d, ns, rfl, hd, fun H1 s1 hd1 => ?_⟩
    generalize ns.headD 0 = n0
    refine ⟨_, rfl, _, rfl, d, _, m, 3, rfl, hd1, hm1, hm4, by decide, by decide, fun H2 ca cs ns2 s2 nca ncd hca hd2 hlc smc => ?_⟩
    have s02 := s1.trans s2
    have hS2 : ShopAt (cutH d H2) S os := hS.same (cut_same s02)
    obtain ⟨vs, v1, v2, v3⟩ := id (hS2.same cut_le)
    have fin : ∀ (H3 : Hp) (u : Addr) (o : Ofr) (tup : List V), Same H2 H3 → H3 u = none → OfrAt (upd H3 u (.tup tup)) u o → (∀ c ts, o = .many c ts → ∃ b t, tup = [.str "many", .ref b, .ref t] ∧ b ≠ d ∧ t ≠ d) → (∀ c p kk, o = .add c p kk → ∃ b, tup = [.str "add", .ref b, .int p, .int kk] ∧ b ≠ d) → (∀ c p, o ≠ .pack c p) → WrongO os o → Sh 1000 (dOfr o) → (∀ c ts, o = .many c ts → ts.length ≤ 1000) → Q (.ref u) (upd H3 u (.tup tup)) := by
      intro H3 u o tup s3 nu ho hmany hadd hno wr sh sz
      have hd3 := s3 _ _ hd2
      have nud : u ≠ d := fun e => by rw [e, hd3] at nu; cases nu
      have s4 := s3.trans (same_upd (o := .tup tup) nu)
      refine q _ u o ns2 (s02.trans (.of s4)) (s02.free (s3.free nu) (by rw [hd2]; exact fun z => nomatch z)) (s4 _ _ hd2) ?_ wr sh sz
      cases o with
      | pack c p => exact absurd rfl (hno c p)
      | add c p kk =>
        obtain ⟨b, e, nb⟩ := hadd c p kk rfl
        obtain ⟨b', h1, h2⟩ := ho
        rw [upd_same, e] at h1
        have eb : b = b' := by
          injection (Option.some.inj h1) with h3
          injection h3 with _ h4
          injection h4 with h5 _
          exact V.ref.inj h5
        subst eb
        exact ⟨b, cut_put nud (by rw [upd_same, e]), cut_put nb h2⟩
      | many c ts =>
        obtain ⟨b, t, e, nb, nt⟩ := hmany c ts rfl
        obtain ⟨b', t', h1, h2, h3⟩ := ho
        rw [upd_same, e] at h1
        injection (Option.some.inj h1) with h4
        injection h4 with _ h5
        injection h5 with h6 h7
        injection h7 with h8 _
        have eb := V.ref.inj h6
        have et := V.ref.inj h8
        subst eb
        subst et
        exact ⟨b, t, cut_put nud (by rw [upd_same, e]), cut_put nb h2, h3.cut nt (s4 _ _ hd2)⟩
    -- places of no packs
    refine ⟨_, rfl, S, _, rfl, SqL.of v1, fun B nB => lc_it (walk_enum (K := K) (a := S) (xs := vs.map V.ref)) (fun i H' => Same H2 H' ∧ ∃ ls : List Int, H' B = some (LI ls) ∧ ls.length ≤ i ∧ ∀ x ∈ ls, ∃ k : Nat, x = (k : Int) ∧ k < os.length ∧ packB os k = false) ⟨same_upd nB, [], upd_same, Nat.le_refl _, fun x hx => nomatch hx⟩ (fun i H' _ hp => SqL.of (hp.1 _ _ v1)) (fun i x H3 H4 hi hp hy => ?_) (fun H3 hp => ?_)⟩
    · obtain ⟨s3, ls, hB, hls, all⟩ := hp
      obtain ⟨Tt, x1, x2, rfl, nT, rfl, e1, e2⟩ := hy
      cases Option.some.inj e1
      rw [List.length_map, v2] at hi
      obtain ⟨v', o', g4, g5, g6⟩ := ShopAt.get (H := H2) (a := S) v2 hi
      cases Option.some.inj (e2.symm.trans g6)
      obtain ⟨b', r', hb', _⟩ := (v3 i v' o' g4 g5).head
      have sT := same_upd (o := .tup [.int (i : Nat), .ref v']) nT
      have hB2 := sT _ _ hB
      refine ⟨Tt, _, rfl, SqT.of upd_same, rfl, _, _, rfl, _, _, rfl, rfl, rfl, _, rfl, v', _, _, _, rfl, rfl, SqT.of (sT _ _ (s3 _ _ hb')), atI_nat (j := 0) rfl, rfl, ?_⟩
      have yes : packB os i = false → ((ls ++ [((i : Nat) : Int)]).length ≤ i + 1 ∧ ∀ x ∈ ls ++ [((i : Nat) : Int)], ∃ k : Nat, x = (k : Int) ∧ k < os.length ∧ packB os k = false) := fun z => ⟨by rw [List.length_append]; show ls.length + 1 ≤ _; omega, fun x hx => by
        rcases List.mem_append.mp hx with y | y
        · exact all x y
        · rw [List.mem_singleton.mp y]
          exact ⟨i, rfl, hi, z⟩⟩
      cases o' with
      | pack c' p' => exact ⟨false, rfl, s3.trans sT, ls, hB2, by omega, all⟩
      | many c' ts' => exact ⟨true, rfl, _, rfl, _, hB2, szL' (by rw [List.length_map]; omega), sm_new (s3.trans sT) nB, _, at_app, yes (by unfold packB; rw [g5])⟩
      | add c' p' k' => exact ⟨true, rfl, _, rfl, _, hB2, szL' (by rw [List.length_map]; omega), sm_new (s3.trans sT) nB, _, at_app, yes (by unfold packB; rw [g5])⟩
    · obtain ⟨s3, ls, hB, hls, all⟩ := hp
      rw [List.length_map, v2] at hls
      refine ⟨_, rfl, S, _, rfl, .inl (SqL.of (s3 _ _ v1)), by show 1 ≤ sizeLine; decide, fun l1 m1 => ?_⟩
      have sa := same_upd (o := .lst [.int (((vs.map V.ref).length : Nat) : Int)]) m1
      refine ⟨B, l1, _, _, rfl, rfl, sa _ _ hB, upd_same, szL (by rw [List.length_map]; show ls.length + 1 ≤ _; omega), fun N m2 => ?_⟩
      have eN : ls.map V.int ++ [.int (((vs.map V.ref).length : Nat) : Int)] = (ls ++ [(os.length : Int)]).map V.int := by rw [List.map_append, List.length_map, v2]; rfl
      rw [eN]
      have s4 := s3.trans (sa.trans (same_upd (o := .lst ((ls ++ [(os.length : Int)]).map V.int)) m2))
      have hN : upd (upd H3 l1 (.lst [.int (((vs.map V.ref).length : Nat) : Int)])) N (.lst ((ls ++ [(os.length : Int)]).map V.int)) N = some (LI (ls ++ [(os.length : Int)])) := upd_same
      generalize upd (upd H3 l1 (.lst [.int (((vs.map V.ref).length : Nat) : Int)])) N (.lst ((ls ++ [(os.length : Int)]).map V.int)) = H4 at s4 hN ⊢
      have hca4 := s4 _ _ hca
      refine ⟨_, rfl, _, _, rfl, rfl, (by show (0 : Int) < _; decide), rfl, _, rfl, ite2 (fun _ => ?_) (fun _ => ?_)⟩
      · -- an add
        obtain ⟨jn, hjn, ejn⟩ := mod_at (i := n0 / 16) (n := (ls ++ [(os.length : Int)]).length) (by rw [List.length_append]; exact Nat.succ_pos _)
        have gn := List.getElem?_eq_getElem hjn
        refine ⟨_, rfl, S, _, rfl, .inl (SqL.of (s4 _ _ v1)), _, rfl, S, _, rfl, .inl (SqL.of (s4 _ _ v1)), _, _, rfl, rfl, 1, rfl, _, rfl, _, rfl, _, _, rfl, rfl, ⟨by decide, by decide⟩, _, rfl, N, _, rfl, .inl (SqL.of hN), _, _, rfl, rfl, (by show (0 : Int) < ((((ls ++ [(os.length : Int)]).map V.int).length : Nat) : Int); rw [List.length_map, List.length_append]; show (0 : Int) < ((ls.length + 1 : Nat) : Int); omega), N, _, _, _, rfl, rfl, SqL.of hN, at_of (by rw [List.length_map]; exact ejn) (get_ints gn), by show 5 ≤ sizeLine; decide, fun l5 m5 => ?_⟩
        have s5 := same_upd (o := .lst [.int (((vs.map V.ref).length : Nat) : Int), .int ((((vs.map V.ref).length : Nat) : Int) + 1), .int (-1), .int 99, .int (ls ++ [(os.length : Int)])[jn]]) m5
        have okx : ∀ x, x ∈ ls ++ [(os.length : Int)] → -1 ≤ x ∧ x ≤ 99 ∧ WrongO os (.add cs 5 x) := fun x hx => by
          rcases List.mem_append.mp hx with y | y
          · obtain ⟨k', rfl, hk, hp⟩ := all x y
            exact ⟨by omega, by omega, wrong_no hk hp⟩
          · rw [List.mem_singleton.mp y]
            exact ⟨by omega, by omega, wrong_out (.inr (Int.le_refl _))⟩
        have lv : (((vs.map V.ref).length : Nat) : Int) = (os.length : Int) := by rw [List.length_map, v2]
        obtain ⟨j5, hj5, ej5⟩ := mod_at (i := n0 / 2) (n := 5) (by decide)
        have pick : ∃ x : Int, ([V.int (((vs.map V.ref).length : Nat) : Int), .int ((((vs.map V.ref).length : Nat) : Int) + 1), .int (-1), .int 99, .int (ls ++ [(os.length : Int)])[jn]] : List V)[j5]? = some (.int x) ∧ -1 ≤ x ∧ x ≤ 99 ∧ WrongO os (.add cs 5 x) := match j5, hj5 with
          | 0, _ => ⟨_, rfl, by omega, by omega, wrong_out (.inr (by omega))⟩
          | 1, _ => ⟨_, rfl, by omega, by omega, wrong_out (.inr (by omega))⟩
          | 2, _ => ⟨_, rfl, by omega, by omega, wrong_out (.inl (by omega))⟩
          | 3, _ => ⟨_, rfl, by omega, by omega, wrong_out (.inr (by omega))⟩
          | 4, _ => ⟨_, rfl, okx _ (List.getElem_mem hjn)⟩
        obtain ⟨x, hx, x0, x1, xw⟩ := pick
        refine ⟨_, rfl, _, rfl, _, rfl, _, _, rfl, rfl, ⟨by decide, by decide⟩, _, _, rfl, rfl, (by show (0 : Int) < _; decide), l5, _, _, _, rfl, rfl, SqL.of upd_same, at_of ej5 hx, by show 4 ≤ sizeLine; decide, fun u nu => ?_⟩
        exact fin _ u (.add cs 5 x) _ (s4.trans s5) nu ⟨ca, upd_same, (same_upd nu) _ _ (s5 _ _ hca4)⟩ (fun c ts e => by cases e) (fun c p kk e => by cases e; exact ⟨ca, rfl, ncd⟩) (fun c p e => by cases e) xw (sh_addW hm4 hlc smc x0 x1) (fun c ts e => by cases e)
      · -- a many
        refine ⟨by decide, fun a1 k1 => ⟨by show 2 ≤ sizeLine; decide, fun b1 k2 => ⟨by show 2 ≤ sizeLine; decide, fun b2 k3 => ⟨by show 2 ≤ sizeLine; decide, fun b3 k4 => ⟨by show 2 ≤ sizeLine; decide, fun b4 k5 => ⟨by show 2 ≤ sizeLine; decide, fun b5 k6 => ⟨by show 5 ≤ sizeLine; decide, fun a2 k7 => ?_⟩⟩⟩⟩⟩⟩⟩
        have t1 := same_upd (o := .lst []) k1
        have t2 := same_upd (o := .tup [.int 1, .int 5]) k2
        have t3 := same_upd (o := .tup [.int 2, .int 5]) k3
        have t4 := same_upd (o := .tup [.int 3, .int 5]) k4
        have t5 := same_upd (o := .tup [.int 4, .int 5]) k5
        have t6 := same_upd (o := .tup [.int 5, .int 5]) k6
        have t7 := same_upd (o := .lst [.ref b1, .ref b2, .ref b3, .ref b4, .ref b5]) k7
        have t27 := t2.trans (t3.trans (t4.trans (t5.trans (t6.trans t7))))
        have tA := t1.trans t27
        have r1 : TiersAt (upd (upd (upd (upd (upd (upd (upd H4 a1 (.lst [])) b1 (.tup [.int 1, .int 5])) b2 (.tup [.int 2, .int 5])) b3 (.tup [.int 3, .int 5])) b4 (.tup [.int 4, .int 5])) b5 (.tup [.int 5, .int 5])) a2 (.lst [.ref b1, .ref b2, .ref b3, .ref b4, .ref b5])) a1 [] := TiersAt.of_al (us := []) (t27 _ _ upd_same) True.intro
        have r2 : TiersAt (upd (upd (upd (upd (upd (upd (upd H4 a1 (.lst [])) b1 (.tup [.int 1, .int 5])) b2 (.tup [.int 2, .int 5])) b3 (.tup [.int 3, .int 5])) b4 (.tup [.int 4, .int 5])) b5 (.tup [.int 5, .int 5])) a2 (.lst [.ref b1, .ref b2, .ref b3, .ref b4, .ref b5])) a2 [(1, 5), (2, 5), (3, 5), (4, 5), (5, 5)] := TiersAt.of_al (us := [b1, b2, b3, b4, b5]) upd_same ⟨(t3.trans (t4.trans (t5.trans (t6.trans t7)))) _ _ upd_same, (t4.trans (t5.trans (t6.trans t7))) _ _ upd_same, (t5.trans (t6.trans t7)) _ _ upd_same, (t6.trans t7) _ _ upd_same, t7 _ _ upd_same, True.intro⟩
        have n1 : H2 a1 = none := s4.free k1
        have n2 : H2 a2 = none := (s4.trans (t1.trans (t2.trans (t3.trans (t4.trans (t5.trans t6)))))).free k7
        have s5 := s4.trans tA
        generalize (upd (upd (upd (upd (upd (upd (upd H4 a1 (.lst [])) b1 (.tup [.int 1, .int 5])) b2 (.tup [.int 2, .int 5])) b3 (.tup [.int 3, .int 5])) b4 (.tup [.int 4, .int 5])) b5 (.tup [.int 5, .int 5])) a2 (.lst [.ref b1, .ref b2, .ref b3, .ref b4, .ref b5])) = H5 at r1 r2 s5 ⊢
        clear tA t27 t1 t2 t3 t4 t5 t6 t7 k1 k2 k3 k4 k5 k6 k7
        refine ⟨by show 2 ≤ sizeLine; decide, fun b1 k1 => ⟨by show 1 ≤ sizeLine; decide, fun a3 k2 => ⟨by show 2 ≤ sizeLine; decide, fun b2 k3 => ⟨by show 2 ≤ sizeLine; decide, fun b3 k4 => ⟨by show 2 ≤ sizeLine; decide, fun a4 k5 => ⟨by show 2 ≤ sizeLine; decide, fun b4 k6 => ⟨by show 2 ≤ sizeLine; decide, fun b5 k7 => ⟨by show 2 ≤ sizeLine; decide, fun b6 k8 => ⟨by show 3 ≤ sizeLine; decide, fun a5 k9 => ⟨by show 5 ≤ sizeLine; decide, fun z1 k10 => ?_⟩⟩⟩⟩⟩⟩⟩⟩⟩⟩
        have t1 := same_upd (o := .tup [.int 2, .int 5]) k1
        have t2 := same_upd (o := .lst [.ref b1]) k2
        have t3 := same_upd (o := .tup [.int 1, .int 5]) k3
        have t4 := same_upd (o := .tup [.int 1, .int 4]) k4
        have t5 := same_upd (o := .lst [.ref b2, .ref b3]) k5
        have t6 := same_upd (o := .tup [.int 1, .int 5]) k6
        have t7 := same_upd (o := .tup [.int 4, .int 3]) k7
        have t8 := same_upd (o := .tup [.int 3, .int 2]) k8
        have t9 := same_upd (o := .lst [.ref b4, .ref b5, .ref b6]) k9
        have t10 := same_upd (o := .lst [.ref a1, .ref a2, .ref a3, .ref a4, .ref a5]) k10
        have w10 := t10
        have w9 := t9.trans w10
        have w8 := t8.trans w9
        have w7 := t7.trans w8
        have w6 := t6.trans w7
        have w5 := t5.trans w6
        have w4 := t4.trans w5
        have w3 := t3.trans w4
        have w2 := t2.trans w3
        have w1 := t1.trans w2
        have r3 : TiersAt (upd (upd (upd (upd (upd (upd (upd (upd (upd (upd H5 b1 (.tup [.int 2, .int 5])) a3 (.lst [.ref b1])) b2 (.tup [.int 1, .int 5])) b3 (.tup [.int 1, .int 4])) a4 (.lst [.ref b2, .ref b3])) b4 (.tup [.int 1, .int 5])) b5 (.tup [.int 4, .int 3])) b6 (.tup [.int 3, .int 2])) a5 (.lst [.ref b4, .ref b5, .ref b6])) z1 (.lst [.ref a1, .ref a2, .ref a3, .ref a4, .ref a5])) a3 [(2, 5)] := TiersAt.of_al (us := [b1]) (w3 _ _ upd_same) ⟨w2 _ _ upd_same, True.intro⟩
        have r4 : TiersAt (upd (upd (upd (upd (upd (upd (upd (upd (upd (upd H5 b1 (.tup [.int 2, .int 5])) a3 (.lst [.ref b1])) b2 (.tup [.int 1, .int 5])) b3 (.tup [.int 1, .int 4])) a4 (.lst [.ref b2, .ref b3])) b4 (.tup [.int 1, .int 5])) b5 (.tup [.int 4, .int 3])) b6 (.tup [.int 3, .int 2])) a5 (.lst [.ref b4, .ref b5, .ref b6])) z1 (.lst [.ref a1, .ref a2, .ref a3, .ref a4, .ref a5])) a4 [(1, 5), (1, 4)] := TiersAt.of_al (us := [b2, b3]) (w6 _ _ upd_same) ⟨w4 _ _ upd_same, w5 _ _ upd_same, True.intro⟩
        have r5 : TiersAt (upd (upd (upd (upd (upd (upd (upd (upd (upd (upd H5 b1 (.tup [.int 2, .int 5])) a3 (.lst [.ref b1])) b2 (.tup [.int 1, .int 5])) b3 (.tup [.int 1, .int 4])) a4 (.lst [.ref b2, .ref b3])) b4 (.tup [.int 1, .int 5])) b5 (.tup [.int 4, .int 3])) b6 (.tup [.int 3, .int 2])) a5 (.lst [.ref b4, .ref b5, .ref b6])) z1 (.lst [.ref a1, .ref a2, .ref a3, .ref a4, .ref a5])) a5 [(1, 5), (4, 3), (3, 2)] := TiersAt.of_al (us := [b4, b5, b6]) (w10 _ _ upd_same) ⟨w7 _ _ upd_same, w8 _ _ upd_same, w9 _ _ upd_same, True.intro⟩
        have hz1 : (upd (upd (upd (upd (upd (upd (upd (upd (upd (upd H5 b1 (.tup [.int 2, .int 5])) a3 (.lst [.ref b1])) b2 (.tup [.int 1, .int 5])) b3 (.tup [.int 1, .int 4])) a4 (.lst [.ref b2, .ref b3])) b4 (.tup [.int 1, .int 5])) b5 (.tup [.int 4, .int 3])) b6 (.tup [.int 3, .int 2])) a5 (.lst [.ref b4, .ref b5, .ref b6])) z1 (.lst [.ref a1, .ref a2, .ref a3, .ref a4, .ref a5])) z1 = some (.lst [.ref a1, .ref a2, .ref a3, .ref a4, .ref a5]) := upd_same
        have n3 : H2 a3 = none := (s5.trans t1).free k2
        have n4 : H2 a4 = none := (s5.trans (t1.trans (t2.trans (t3.trans t4)))).free k5
        have n5 : H2 a5 = none := (s5.trans (t1.trans (t2.trans (t3.trans (t4.trans (t5.trans (t6.trans (t7.trans t8)))))))).free k9
        have r1 := r1.sm w1
        have r2 := r2.sm w1
        have s6 := s5.trans w1
        generalize (upd (upd (upd (upd (upd (upd (upd (upd (upd (upd H5 b1 (.tup [.int 2, .int 5])) a3 (.lst [.ref b1])) b2 (.tup [.int 1, .int 5])) b3 (.tup [.int 1, .int 4])) a4 (.lst [.ref b2, .ref b3])) b4 (.tup [.int 1, .int 5])) b5 (.tup [.int 4, .int 3])) b6 (.tup [.int 3, .int 2])) a5 (.lst [.ref b4, .ref b5, .ref b6])) z1 (.lst [.ref a1, .ref a2, .ref a3, .ref a4, .ref a5])) = H6 at r1 r2 r3 r4 r5 hz1 s6 ⊢
        clear w1 w2 w3 w4 w5 w6 w7 w8 w9 w10 t1 t2 t3 t4 t5 t6 t7 t8 t9 t10 k1 k2 k3 k4 k5 k6 k7 k8 k9 k10
        refine ⟨_, rfl, _, rfl, by show 2 ≤ sizeLine; decide, fun b1 k1 => ⟨by show 2 ≤ sizeLine; decide, fun b2 k2 => ⟨by show 2 ≤ sizeLine; decide, fun a6 k3 => ⟨by show 2 ≤ sizeLine; decide, fun b3 k4 => ⟨by show 2 ≤ sizeLine; decide, fun b4 k5 => ⟨by show 2 ≤ sizeLine; decide, fun a7 k6 => ⟨by show 2 ≤ sizeLine; decide, fun z2 k7 => ?_⟩⟩⟩⟩⟩⟩⟩
        have t1 := same_upd (o := .tup [.int 1, .int 5]) k1
        have t2 := same_upd (o := .tup [.int 13, .int 4]) k2
        have t3 := same_upd (o := .lst [.ref b1, .ref b2]) k3
        have t4 := same_upd (o := .tup [.int 0, .int 5]) k4
        have t5 := same_upd (o := .tup [.int 1, .int 4]) k5
        have t6 := same_upd (o := .lst [.ref b3, .ref b4]) k6
        have t7 := same_upd (o := .lst [.ref a6, .ref a7]) k7
        have w7 := t7
        have w6 := t6.trans w7
        have w5 := t5.trans w6
        have w4 := t4.trans w5
        have w3 := t3.trans w4
        have w2 := t2.trans w3
        have w1 := t1.trans w2
        have r6 : TiersAt (upd (upd (upd (upd (upd (upd (upd H6 b1 (.tup [.int 1, .int 5])) b2 (.tup [.int 13, .int 4])) a6 (.lst [.ref b1, .ref b2])) b3 (.tup [.int 0, .int 5])) b4 (.tup [.int 1, .int 4])) a7 (.lst [.ref b3, .ref b4])) z2 (.lst [.ref a6, .ref a7])) a6 [(1, 5), (13, 4)] := TiersAt.of_al (us := [b1, b2]) (w4 _ _ upd_same) ⟨w2 _ _ upd_same, w3 _ _ upd_same, True.intro⟩
        have r7 : TiersAt (upd (upd (upd (upd (upd (upd (upd H6 b1 (.tup [.int 1, .int 5])) b2 (.tup [.int 13, .int 4])) a6 (.lst [.ref b1, .ref b2])) b3 (.tup [.int 0, .int 5])) b4 (.tup [.int 1, .int 4])) a7 (.lst [.ref b3, .ref b4])) z2 (.lst [.ref a6, .ref a7])) a7 [(0, 5), (1, 4)] := TiersAt.of_al (us := [b3, b4]) (w7 _ _ upd_same) ⟨w5 _ _ upd_same, w6 _ _ upd_same, True.intro⟩
        have hz2 : (upd (upd (upd (upd (upd (upd (upd H6 b1 (.tup [.int 1, .int 5])) b2 (.tup [.int 13, .int 4])) a6 (.lst [.ref b1, .ref b2])) b3 (.tup [.int 0, .int 5])) b4 (.tup [.int 1, .int 4])) a7 (.lst [.ref b3, .ref b4])) z2 (.lst [.ref a6, .ref a7])) z2 = some (.lst [.ref a6, .ref a7]) := upd_same
        have n6 : H2 a6 = none := (s6.trans (t1.trans t2)).free k3
        have n7 : H2 a7 = none := (s6.trans (t1.trans (t2.trans (t3.trans (t4.trans t5))))).free k6
        have r1 := r1.sm w1
        have r2 := r2.sm w1
        have r3 := r3.sm w1
        have r4 := r4.sm w1
        have r5 := r5.sm w1
        have hz1 := w1 _ _ hz1
        have s7 := s6.trans w1
        generalize (upd (upd (upd (upd (upd (upd (upd H6 b1 (.tup [.int 1, .int 5])) b2 (.tup [.int 13, .int 4])) a6 (.lst [.ref b1, .ref b2])) b3 (.tup [.int 0, .int 5])) b4 (.tup [.int 1, .int 4])) a7 (.lst [.ref b3, .ref b4])) z2 (.lst [.ref a6, .ref a7])) = H7 at r1 r2 r3 r4 r5 r6 r7 hz1 hz2 s7 ⊢
        refine ⟨z1, z2, _, _, rfl, rfl, hz1, hz2, by show 7 ≤ sizeLine; decide, fun z3 k8 => ?_⟩
        have t8 := same_upd (o := .lst ([.ref a1, .ref a2, .ref a3, .ref a4, .ref a5] ++ [.ref a6, .ref a7])) k8
        obtain ⟨j7, hj7, ej7⟩ := mod_at (i := n0 / 2) (n := 7) (by decide)
        have pick : ∃ (r : Addr) (ts : List (Int × Int)), ([V.ref a1, .ref a2, .ref a3, .ref a4, .ref a5, .ref a6, .ref a7] : List V)[j7]? = some (.ref r) ∧ TiersAt H7 r ts ∧ H2 r = none ∧ goodB ts = false ∧ ts.length ≤ 5 ∧ ∀ t ∈ ts, 0 ≤ t.1 ∧ t.1 ≤ 13 ∧ 0 ≤ t.2 ∧ t.2 ≤ 5 := match j7, hj7 with
          | 0, _ => ⟨_, _, rfl, r1, n1, by decide, by decide, by decide⟩
          | 1, _ => ⟨_, _, rfl, r2, n2, by decide, by decide, by decide⟩
          | 2, _ => ⟨_, _, rfl, r3, n3, by decide, by decide, by decide⟩
          | 3, _ => ⟨_, _, rfl, r4, n4, by decide, by decide, by decide⟩
          | 4, _ => ⟨_, _, rfl, r5, n5, by decide, by decide, by decide⟩
          | 5, _ => ⟨_, _, rfl, r6, n6, by decide, by decide, by decide⟩
          | 6, _ => ⟨_, _, rfl, r7, n7, by decide, by decide, by decide⟩
        obtain ⟨r, ts, hr', hT', nr, gb, l5, al⟩ := pick
        have nrd : r ≠ d := fun e => by rw [e, hd2] at nr; cases nr
        refine ⟨_, rfl, _, _, rfl, rfl, ⟨by decide, by decide⟩, _, _, rfl, rfl, (by show (0 : Int) < _; decide), z3, _, _, _, rfl, rfl, SqL.of upd_same, at_of ej7 hr', by show 3 ≤ sizeLine; decide, fun u nu => ?_⟩
        exact fin _ u (.many cs ts) _ (s7.trans t8) nu ⟨ca, r, upd_same, (same_upd nu) _ _ ((s7.trans t8) _ _ hca), (hT'.sm t8).sm (same_upd nu)⟩ (fun c ts e => by cases e; exact ⟨ca, r, rfl, ncd, nrd⟩) (fun c p kk e => by cases e) (fun c p e => by cases e) (wrong_many gb) (sh_manyW hm4 hlc smc l5 al) (fun c ts e => by cases e; omega)
end
/-! ### _law_only, _law_asked -/
abbrev s_law_only : Stmt := topS 76
abbrev N_law_only : List Str := ["_law_error", "_law_place", "_law_others"]
theorem sc_law_only : FnScope N_law_only ["_law_error", "_law_place"] (defScope s_law_only) := ⟨rfl, rfl, rfl, by decide +kernel, rfl, by decide +kernel, by decide +kernel⟩

abbrev s_law_asked : Stmt := topS 77
abbrev N_law_asked : List Str := ["_law_shop_here", "_law_want_here", "_law_place", "_law_which", "_law_told", "_law_caught", "e", "_law_thing"]
theorem sc_law_asked : FnScope N_law_asked ["_law_shop_here", "_law_want_here", "_law_place", "_law_which"] (defScope s_law_asked) := ⟨rfl, rfl, rfl, by decide +kernel, rfl, by decide +kernel, by decide +kernel⟩

/-- what isinstance tells of the refusal at C -/
structure ExKit (K : PySem.W.Frag) (mg : Str → Option Value) (C CP : Addr) : Prop where
  l : ∃ c, mg "NoLine" = some (.ref c) ∧ PySem.W.kitOne K (.ref C) (.ref c) = some false
  p : ∃ c, mg "NoPlace" = some (.ref c) ∧ PySem.W.kitOne K (.ref C) (.ref c) = some false
  t : ∃ c, mg "NoText" = some (.ref c) ∧ PySem.W.kitOne K (.ref C) (.ref c) = some false
  h : ∃ c, mg "NoThings" = some (.ref c) ∧ PySem.W.kitOne K (.ref C) (.ref c) = some false
  v : mg "ValueError" = none
  kv : PySem.W.kitOne K (.ref C) (.type "ValueError") = some true
  kp : PySem.W.kitOne K (.ref C) (.ref CP) = some true
  kn : PySem.W.kitOne K (.ref C) (.ref C) = some true
  ex : PySem.W.exmOne K (.ref C) (.ref CP) = some true
  en : PySem.W.exmOne K (.ref C) (.ref C) = some true
/-- any reading of the statements in a try suite will do -/
def uTS (X : Cx) (W : WX) (b : List Stmt) : TS := fun D σ H => ∃ te : TS, (∀ (pn : List (Addr × Obj)) (xe : Value → Shared → Prop), Takes (X.tr pn xe) W → PSs (X.tr pn xe) b te) ∧ te D σ H
theorem pss_u {X : Cx} {W : WX} {b : List Stmt} {pn : List (Addr × Obj)} {xe : Value → Shared → Prop} (tk : Takes (X.tr pn xe) W) : PSs (X.tr pn xe) b (uTS X W b) := ⟨fun pins s σ H D I h => by
  obtain ⟨te, h1, h2⟩ := h
  exact (h1 pn xe tk).run pins s σ H D I h2⟩
def sp_onlyP (C : Addr) : Sp := fun vs H Q _ => ∃ (a d : Addr) (n : Nat), vs = [.ref a, .int n] ∧ n < 100 ∧ H a = some (exk a (.ref C) (some d)) ∧ H d = some (.xd [("place", .int n)]) ∧ ∀ H', Same H H' → Q (.bl true) H'
def sp_askedP (T : List Addr) : Sp := fun vs H Q _ => ∃ (a wa : Addr) (ws : List Int) (os : List Ofr) (n : Nat) (x : Int), vs = [.ref a, .ref wa, .int (n : Nat), .int x] ∧ 0 ≤ x ∧ x < 9 ∧ H wa = some (LI ws) ∧ ws.length ≤ 4 ∧ ShopAt H a os ∧ SizeO 1000 os ∧ os.length ≤ 99 ∧ firstBad os = some n ∧ n < 100 ∧ Tb T H ∧ ∀ H', Ext T H H' → Q (.bl true) H'
section
variable {P : Program} {w : World} {K : PySem.W.Frag} {mg : Str → Option Value} {base : Heap} {T : List Addr} {C CP fI : Addr} {fdI : FuncData}
theorem ok_onlyP {f : Addr} {fd : FuncData} {k : Nat} (M : Names mg) (X : Exs K mg C CP fI fdI) (Y : ExKit K mg C CP) (D : Def K mg "_law_only" s_law_only ["_law_error", "_law_place"] f fd) : FnOk P w K mg base CX0 (k + 1) f fd ["_law_error", "_law_place"] (sp_onlyP C) := by
  obtain ⟨cl, gl, kl⟩ := Y.l
  obtain ⟨cp, gp, kp⟩ := Y.p
  obtain ⟨ct, gt, kt⟩ := Y.t
  obtain ⟨ch, gh, kh⟩ := Y.h
  refine D.F.ok sc_law_only (fun vs H Q E h => ?_) (fun cdv A outer s H vs Q E hr h => ?_)
  · obtain ⟨a, d, n, rfl, _⟩ := h
    rfl
  · obtain ⟨a, d, n, rfl, hn, ha, hd, q⟩ := h
    refine ⟨_, pss_cons (ps_set (i := 2) sc_law_only.nd rfl (Or.inl rfl) (pe_lst (pa_cons (pe_callB call_isK (by rfl) M.isinstance (by decide +kernel) (pa_cons (pv 0) (pa_cons (pe_glob (v := .ref cl) (by rfl) gl rfl) pa_nil))) (pa_cons (pe_callB call_isK (by rfl) M.isinstance (by decide +kernel) (pa_cons (pv 0) (pa_cons (pe_glob (v := .ref cp) (by rfl) gp rfl) pa_nil))) (pa_cons (pe_callB call_isK (by rfl) M.isinstance (by decide +kernel) (pa_cons (pv 0) (pa_cons (pe_glob (v := .ref ct) (by rfl) gt rfl) pa_nil))) pa_nil)))))
      (pss_cons (ps_if (PW.pt (pw_or (pt_cmpR op_in_seq pe_bl (pv 2) (by rfl)) (pw_or (pt_val (pe_callB call_isK (by rfl) M.isinstance (by decide +kernel) (pa_cons (pv 0) (pa_cons (pe_glob (v := .ref ch) (by rfl) gh rfl) pa_nil)))) (pw_or1 (pt_not (pt_val (pe_callB call_isK (by rfl) M.isinstance (by decide +kernel) (pa_cons (pv 0) (pa_cons (pe_bltn (v := .ty "ValueError") (by rfl) Y.v (by decide +kernel) rfl) pa_nil)))))))))
        (pss_one (ps_ret pe_bl)) pss_nil)
      (pss_one (ps_ret (pe_and (pe_callB call_isK (by rfl) M.isinstance (by decide +kernel) (pa_cons (pv 0) (pa_cons (pe_glob (v := .ref CP) (by rfl) X.gP rfl) pa_nil))) (pe_one (pe_cmpR op_eq (pe_callTy call_str_int (by rfl) M.str (by decide +kernel) (pa_cons (pe_xk (pv 0)) pa_nil)) (pe_callTy call_str_int (by rfl) M.str (by decide +kernel) (pa_cons (pv 1) pa_nil)) (nomark _))))))), ?_⟩
    refine ⟨_, rfl, a, C, d, _, _, _, false, rfl, ha, hd, X.exc, fun u h => h, kl, _, rfl, a, C, d, _, _, _, false, rfl, ha, hd, X.exc, fun u h => h, kp, _, rfl, a, C, d, _, _, _, false, rfl, ha, hd, X.exc, fun u h => h, kt, by show 3 ≤ sizeLine; decide, fun L nL => ?_⟩
    have s1 := same_upd (o := .lst [.bl false, .bl false, .bl false]) nL
    have hL : upd H L (.lst [.bl false, .bl false, .bl false]) L = some (.lst [.bl false, .bl false, .bl false]) := upd_same
    have ha1 := s1 _ _ ha
    have hd1 := s1 _ _ hd
    generalize upd H L (.lst [.bl false, .bl false, .bl false]) = H1 at s1 hL ha1 hd1 ⊢
    refine ⟨_, rfl, L, _, rfl, .inl (SqL.of hL), rfl, rfl, false, rfl, ?_⟩
    refine ⟨_, rfl, a, C, d, _, _, _, false, rfl, ha1, hd1, X.exc, fun u h => h, kh, false, rfl, ?_⟩
    refine ⟨_, rfl, a, C, d, _, _, _, true, rfl, ha1, hd1, X.exc, fun u h => h, Y.kv, true, rfl, ?_⟩
    refine ⟨_, rfl, a, C, d, _, _, _, true, rfl, ha1, hd1, X.exc, fun u h => h, Y.kp, true, rfl, ?_⟩
    refine ⟨_, rfl, a, C, d, _, _, rfl, ha1, hd1, X.xf, X.np, rfl, _, rfl, lt100_log hn, _, rfl, _, rfl, lt100_log hn, rfl, ?_⟩
    rw [decide_eq_true rfl]
    exact q H1 s1
theorem ok_askedP {f fo f0 f1 f2 f3 f4 f5 f6 f7 f8 : Addr} {fd fdo fd0 fd1 fd2 fd3 fd4 fd5 fd6 fd7 fd8 : FuncData} {k : Nat} (M : Names mg) (X : Exs K mg C CP fI fdI) (Y : ExKit K mg C CP) (D : Def K mg "_law_asked" s_law_asked ["_law_shop_here", "_law_want_here", "_law_place", "_law_which"] f fd)
    (D_law_only : Def K mg "_law_only" s_law_only ["_law_error", "_law_place"] fo fdo) (G_law_only : FnOk P w K mg base CX0 k fo fdo ["_law_error", "_law_place"] (sp_onlyP C))
    (D_least : Def K mg "least" s_least ["shop", "want"] f0 fd0) (G_least : FnOk P w K mg base (L2.CX P w) k f0 fd0 ["shop", "want"] (sp_ref C T 0 2))
    (D_cases : Def K mg "cases" s_cases ["shop", "want"] f1 fd1) (G_cases : FnOk P w K mg base (L2.CX P w) k f1 fd1 ["shop", "want"] (sp_ref C T 0 2))
    (D_shows : Def K mg "shows" s_shows ["shop", "want", "table"] f2 fd2) (G_shows : FnOk P w K mg base (L2.CX P w) k f2 fd2 ["shop", "want", "table"] (sp_ref C T 0 3))
    (D_fair : Def K mg "fair" s_fair ["shop", "prices"] f3 fd3) (G_fair : FnOk P w K mg base (L2.CX P w) k f3 fd3 ["shop", "prices"] (sp_ref C T 0 2))
    (D_single_prices : Def K mg "single_prices" s_single_prices ["shop", "want"] f4 fd4) (G_single_prices : FnOk P w K mg base (L2.CX P w) k f4 fd4 ["shop", "want"] (sp_ref C T 0 2))
    (D_hold_together : Def K mg "hold_together" s_hold_together ["shop", "want", "told"] f5 fd5) (G_hold_together : FnOk P w K mg base (L2.CX P w) k f5 fd5 ["shop", "want", "told"] (sp_ref C T 0 3))
    (D_spared : Def K mg "spared" s_spared ["shop"] f6 fd6) (G_spared : FnOk P w K mg base (L2.CX P w) k f6 fd6 ["shop"] (sp_ref C T 0 1))
    (D_thinned : Def K mg "thinned" s_thinned ["shop"] f7 fd7) (G_thinned : FnOk P w K mg base (L2.CX P w) k f7 fd7 ["shop"] (sp_ref C T 0 1))
    (D_moves : Def K mg "moves" s_moves ["shop", "want", "place"] f8 fd8) (G_moves : FnOk P w K mg base (L2.CX P w) k f8 fd8 ["shop", "want", "place"] (sp_ref C T 0 3))
    : FnOk P w K mg base CX0 (k + 1) f fd ["_law_shop_here", "_law_want_here", "_law_place", "_law_which"] (sp_askedP T) := by
  refine D.F.ok sc_law_asked (fun vs H Q E h => ?_) (fun cdv A outer s H vs Q E hr h => ?_)
  · obtain ⟨a, wa, ws, os, n, x, rfl, _⟩ := h
    rfl
  · obtain ⟨a, wa, ws, os, n, x, rfl, x0, x9, hw, lw, hS, sz, l99, fb, hn, hT, q⟩ := h
    refine ⟨_, pss_cons (ps_set (i := 4) sc_law_asked.nd rfl (Or.inl rfl) (pe_tup (pa_cons (pe_tup (pa_cons pe_int (pa_cons pe_int pa_nil))) (pa_cons (pe_lc (own := [("_law_thing", 7)]) (by rfl) sc_law_asked.nd (pi_list (pv 1)) (blkOk_by (own := [("_law_thing", 7)]) (N := N_law_asked) (sc := defScope s_law_asked) (by decide +kernel)) (fun _ _ _ _ _ => (pg_name (i := 7) sc_law_asked.nd rfl (Or.inl rfl))) (fun _ _ _ _ _ => pts_nil) (fun _ _ _ _ _ => (pe_tup (pa_cons pe_int (pa_cons pe_int pa_nil))))) (pa_cons (pe_lst pa_nil) pa_nil)))))
      (pss_cons (ps_set (i := 5) sc_law_asked.nd rfl (Or.inl rfl) pe_non)
      (pss_cutI (ps_try_asK (i := 6) (tb := fun W => uTS _ W _) (ts := tAsg (tVar 6) (gName 5)) (Wout := fun _ _ _ _ => False) rfl rfl rfl sc_law_asked.nd rfl rfl ⟨rfl, by decide, Or.inl X.gN⟩ takes0
        (fun W pn xe tk _ => pss_u tk)
        (fun a pn => pss_one (ps_set (i := 5) sc_law_asked.nd rfl (Or.inl rfl) (by exact (pv 6)))))
      (pss_one (ps_ret (pe_and (pe_cmpR op_notN (pv 5) pe_non (nomark _)) (pe_one (pe_call G_law_only hr (by rfl) D_law_only.g D_law_only.F.kp D_law_only.b .nil pass0 (pa_cons (pv 5) (pa_cons (pv 2) pa_nil))))))))), ?_⟩
    refine ⟨by show 2 ≤ sizeLine; decide, fun t1 n1 => ?_⟩
    have sa := same_upd (o := .tup [.int 0, .int 1]) n1
    generalize upd H t1 (.tup [.int 0, .int 1]) = Ha at sa ⊢
    refine ⟨_, rfl, wa, rfl, ⟨_, SqL.of (sa _ _ hw)⟩, fun B nB => lc_list (xs := ws.map V.int) (fun i H' => Same Ha H' ∧ ∃ ys : List V, H' B = some (.lst ys) ∧ ys.length = i) ⟨same_upd nB, [], upd_same, rfl⟩ (fun i H' _ hp => SqL.of (hp.1 _ _ (sa _ _ hw))) (fun i y H1 hy hp => ?_) (fun H1 hp => ?_)⟩
    · obtain ⟨s1, ys, hB, hly⟩ := hp
      have hi := (List.getElem?_eq_some_iff.mp hy).1
      rw [List.length_map] at hi
      refine ⟨rfl, by show 2 ≤ sizeLine; decide, fun t nt => ?_⟩
      have hB2 := (same_upd (o := .tup [.int 0, .int 1]) nt) _ _ hB
      exact ⟨_, hB2, szL' (by omega), sm_new (s1.trans (same_upd nt)) nB, ys ++ [.ref t], upd_same, by rw [List.length_append, hly]; rfl⟩
    obtain ⟨s1, ys, hB, hly⟩ := hp
    refine ⟨by decide, fun e0 ne0 => ⟨by show 3 ≤ sizeLine; decide, fun tt ntt => ?_⟩⟩
    have s2 := sa.trans (s1.trans ((same_upd (o := .lst []) ne0).trans (same_upd (o := .tup [.ref t1, .ref B, .ref e0]) ntt)))
    have htt : upd (upd H1 e0 (.lst [])) tt (.tup [.ref t1, .ref B, .ref e0]) tt = some (.tup [.ref t1, .ref B, .ref e0]) := upd_same
    generalize upd (upd H1 e0 (.lst [])) tt (.tup [.ref t1, .ref B, .ref e0]) = H2 at s2 htt ⊢
    have E2 : Ext T H H2 := .same s2 hT
    have hw2 := s2 _ _ hw
    have hS2 := hS.same s2
    refine ⟨fun σ H' => Ext T H H' ∧ ∃ (e d : Addr), σ = [some (.ref a), some (.ref wa), some (.int (n : Nat)), some (.int x), some (.ref tt), some (.ref e), none, none] ∧ H' e = some (exk e (.ref C) (some d)) ∧ H' d = some (.xd [("place", .int (n : Nat))]), ?_, fun σ' H' hI => ?_⟩
    · refine ⟨_, fun pn xe tk => pss_cons (ps_if (pt_cmpR op_eq (pv 3) pe_int (nomark _)) (pss_u tk) pss_nil) (pss_cons (ps_if (pt_cmpR op_eq (pv 3) pe_int (nomark _)) (pss_u tk) pss_nil) (pss_cons (ps_if (pt_cmpR op_eq (pv 3) pe_int (nomark _)) (pss_u tk) pss_nil) (pss_cons (ps_if (pt_cmpR op_eq (pv 3) pe_int (nomark _)) (pss_u tk) pss_nil) (pss_cons (ps_if (pt_cmpR op_eq (pv 3) pe_int (nomark _)) (pss_u tk) pss_nil) (pss_cons (ps_if (pt_cmpR op_eq (pv 3) pe_int (nomark _)) (pss_u tk) pss_nil) (pss_cons (ps_if (pt_cmpR op_eq (pv 3) pe_int (nomark _)) (pss_u tk) pss_nil) (pss_cons (ps_if (pt_cmpR op_eq (pv 3) pe_int (nomark _)) (pss_u tk) pss_nil) (pss_one (ps_if (pt_cmpR op_eq (pv 3) pe_int (nomark _)) (pss_u tk) pss_nil))))))))), ?_⟩
      refine ⟨_, rfl, rfl, _, rfl, ite2 (fun _ => ?_) (fun x0' => ?_)⟩
      · refine ⟨_, fun pn xe tk => pss_one (ps_expr (pe_callS G_least hr (by rfl) D_least.g D_least.F.kp D_least.b (fun σ => passAt tk σ) (pa_cons (pv 0) (pa_cons (pv 1) pa_nil)))), ?_⟩
        refine ⟨_, rfl, _, rfl, a, os, n, rfl, rfl, hS2, sz, l99, fb, E2.t1, fun H3 d e3 nd hd => ?_⟩
        exact ⟨true, Y.en, fun _ e ne => ⟨_, rfl, (E2.trans e3).new (E2.free _ (e3.free _ ne)), e, d, rfl, upd_same, by rw [upd_ne (fun z => by rw [z, ne] at hd; cases hd)]; exact hd⟩, fun z => Bool.noConfusion z⟩
      refine ⟨_, rfl, rfl, _, rfl, ite2 (fun _ => ?_) (fun x1' => ?_)⟩
      · refine ⟨_, fun pn xe tk => pss_one (ps_expr (pe_callS G_cases hr (by rfl) D_cases.g D_cases.F.kp D_cases.b (fun σ => passAt tk σ) (pa_cons (pv 0) (pa_cons (pv 1) pa_nil)))), ?_⟩
        refine ⟨_, rfl, _, rfl, a, os, n, rfl, rfl, hS2, sz, l99, fb, E2.t1, fun H3 d e3 nd hd => ?_⟩
        exact ⟨true, Y.en, fun _ e ne => ⟨_, rfl, (E2.trans e3).new (E2.free _ (e3.free _ ne)), e, d, rfl, upd_same, by rw [upd_ne (fun z => by rw [z, ne] at hd; cases hd)]; exact hd⟩, fun z => Bool.noConfusion z⟩
      refine ⟨_, rfl, rfl, _, rfl, ite2 (fun _ => ?_) (fun x2' => ?_)⟩
      · refine ⟨_, fun pn xe tk => pss_one (ps_expr (pe_callS G_shows hr (by rfl) D_shows.g D_shows.F.kp D_shows.b (fun σ => passAt tk σ) (pa_cons (pv 0) (pa_cons (pv 1) (pa_cons (pe_lst (pa_cons (pe_tup (pa_cons (pe_lc (own := [("_law_thing", 7)]) (by rfl) sc_law_asked.nd (pi_listK (K := K) rfl (pv 1)) (blkOk_by (own := [("_law_thing", 7)]) (N := N_law_asked) (sc := defScope s_law_asked) (by decide +kernel)) (fun _ _ _ _ _ => (pg_name (i := 7) sc_law_asked.nd rfl (Or.inl rfl))) (fun _ _ _ _ _ => pts_nil) (fun _ _ _ _ _ => pe_int)) (pa_cons pe_int pa_nil))) pa_nil)) pa_nil))))), ?_⟩
        refine ⟨_, rfl, _, rfl, _, rfl, wa, rfl, ⟨_, SqL.of hw2⟩, fun B nB => lc_list (xs := ws.map V.int) (fun i H' => Same H2 H' ∧ ∃ ys : List V, H' B = some (.lst ys) ∧ ys.length = i) ⟨same_upd nB, [], upd_same, rfl⟩ (fun i H' _ hp => SqL.of (hp.1 _ _ hw2)) (fun i y H3 hy hp => ?_) (fun H3 hp => ?_)⟩
        · obtain ⟨s3, ys, hB, hly⟩ := hp
          have hi := (List.getElem?_eq_some_iff.mp hy).1
          rw [List.length_map] at hi
          exact ⟨rfl, _, hB, szL' (by omega), sm_new s3 nB, ys ++ [.int 0], upd_same, by rw [List.length_append, hly]; rfl⟩
        · obtain ⟨s3, _⟩ := hp
          refine ⟨by show 2 ≤ sizeLine; decide, fun u1 m1 => ⟨by show 1 ≤ sizeLine; decide, fun u2 m2 => ?_⟩⟩
          have s4 := s3.trans ((same_upd (o := .tup [.ref B, .int 0]) m1).trans (same_upd (o := .lst [.ref u1]) m2))
          have E4 : Ext T H2 _ := .same s4 E2.t1
          refine ⟨a, os, n, rfl, rfl, hS2.same s4, sz, l99, fb, E4.t1, fun H5 d e5 nd hd => ?_⟩
          have e3 := E4.trans e5
          exact ⟨true, Y.en, fun _ e ne => ⟨_, rfl, (E2.trans e3).new (E2.free _ (e3.free _ ne)), e, d, rfl, upd_same, by rw [upd_ne (fun z => by rw [z, ne] at hd; cases hd)]; exact hd⟩, fun z => Bool.noConfusion z⟩
      refine ⟨_, rfl, rfl, _, rfl, ite2 (fun _ => ?_) (fun x3' => ?_)⟩
      · refine ⟨_, fun pn xe tk => pss_one (ps_expr (pe_callS G_fair hr (by rfl) D_fair.g D_fair.F.kp D_fair.b (fun σ => passAt tk σ) (pa_cons (pv 0) (pa_cons (pe_ix (ix_tupK (K := K) rfl) (pv 4) pe_int (fun _ _ => rfl)) pa_nil)))), ?_⟩
        refine ⟨_, rfl, _, rfl, tt, _, _, _, rfl, rfl, SqT.of htt, atI_nat (j := 1) rfl, a, os, n, rfl, rfl, hS2, sz, l99, fb, E2.t1, fun H3 d e3 nd hd => ?_⟩
        exact ⟨true, Y.en, fun _ e ne => ⟨_, rfl, (E2.trans e3).new (E2.free _ (e3.free _ ne)), e, d, rfl, upd_same, by rw [upd_ne (fun z => by rw [z, ne] at hd; cases hd)]; exact hd⟩, fun z => Bool.noConfusion z⟩
      refine ⟨_, rfl, rfl, _, rfl, ite2 (fun _ => ?_) (fun x4' => ?_)⟩
      · refine ⟨_, fun pn xe tk => pss_one (ps_expr (pe_callS G_single_prices hr (by rfl) D_single_prices.g D_single_prices.F.kp D_single_prices.b (fun σ => passAt tk σ) (pa_cons (pv 0) (pa_cons (pv 1) pa_nil)))), ?_⟩
        refine ⟨_, rfl, _, rfl, a, os, n, rfl, rfl, hS2, sz, l99, fb, E2.t1, fun H3 d e3 nd hd => ?_⟩
        exact ⟨true, Y.en, fun _ e ne => ⟨_, rfl, (E2.trans e3).new (E2.free _ (e3.free _ ne)), e, d, rfl, upd_same, by rw [upd_ne (fun z => by rw [z, ne] at hd; cases hd)]; exact hd⟩, fun z => Bool.noConfusion z⟩
      refine ⟨_, rfl, rfl, _, rfl, ite2 (fun _ => ?_) (fun x5' => ?_)⟩
      · refine ⟨_, fun pn xe tk => pss_one (ps_expr (pe_callS G_hold_together hr (by rfl) D_hold_together.g D_hold_together.F.kp D_hold_together.b (fun σ => passAt tk σ) (pa_cons (pv 0) (pa_cons (pv 1) (pa_cons (pv 4) pa_nil))))), ?_⟩
        refine ⟨_, rfl, _, rfl, _, rfl, a, os, n, rfl, rfl, hS2, sz, l99, fb, E2.t1, fun H3 d e3 nd hd => ?_⟩
        exact ⟨true, Y.en, fun _ e ne => ⟨_, rfl, (E2.trans e3).new (E2.free _ (e3.free _ ne)), e, d, rfl, upd_same, by rw [upd_ne (fun z => by rw [z, ne] at hd; cases hd)]; exact hd⟩, fun z => Bool.noConfusion z⟩
      refine ⟨_, rfl, rfl, _, rfl, ite2 (fun _ => ?_) (fun x6' => ?_)⟩
      · refine ⟨_, fun pn xe tk => pss_one (ps_expr (pe_callS G_spared hr (by rfl) D_spared.g D_spared.F.kp D_spared.b (fun σ => passAt tk σ) (pa_cons (pv 0) pa_nil))), ?_⟩
        refine ⟨_, rfl, a, os, n, rfl, rfl, hS2, sz, l99, fb, E2.t1, fun H3 d e3 nd hd => ?_⟩
        exact ⟨true, Y.en, fun _ e ne => ⟨_, rfl, (E2.trans e3).new (E2.free _ (e3.free _ ne)), e, d, rfl, upd_same, by rw [upd_ne (fun z => by rw [z, ne] at hd; cases hd)]; exact hd⟩, fun z => Bool.noConfusion z⟩
      refine ⟨_, rfl, rfl, _, rfl, ite2 (fun _ => ?_) (fun x7' => ?_)⟩
      · refine ⟨_, fun pn xe tk => pss_one (ps_expr (pe_callS G_thinned hr (by rfl) D_thinned.g D_thinned.F.kp D_thinned.b (fun σ => passAt tk σ) (pa_cons (pv 0) pa_nil))), ?_⟩
        refine ⟨_, rfl, a, os, n, rfl, rfl, hS2, sz, l99, fb, E2.t1, fun H3 d e3 nd hd => ?_⟩
        exact ⟨true, Y.en, fun _ e ne => ⟨_, rfl, (E2.trans e3).new (E2.free _ (e3.free _ ne)), e, d, rfl, upd_same, by rw [upd_ne (fun z => by rw [z, ne] at hd; cases hd)]; exact hd⟩, fun z => Bool.noConfusion z⟩
      refine ⟨_, rfl, rfl, _, rfl, ite2 (fun _ => ?_) (fun x8' => ?_)⟩
      · refine ⟨_, fun pn xe tk => pss_one (ps_expr (pe_callS G_moves hr (by rfl) D_moves.g D_moves.F.kp D_moves.b (fun σ => passAt tk σ) (pa_cons (pv 0) (pa_cons (pv 1) (pa_cons pe_int pa_nil))))), ?_⟩
        refine ⟨_, rfl, _, rfl, a, os, n, rfl, rfl, hS2, sz, l99, fb, E2.t1, fun H3 d e3 nd hd => ?_⟩
        exact ⟨true, Y.en, fun _ e ne => ⟨_, rfl, (E2.trans e3).new (E2.free _ (e3.free _ ne)), e, d, rfl, upd_same, by rw [upd_ne (fun z => by rw [z, ne] at hd; cases hd)]; exact hd⟩, fun z => Bool.noConfusion z⟩
      exfalso
      have y0 : x ≠ 0 := fun z => x0' (by rw [z]; rfl)
      have y1 : x ≠ 1 := fun z => x1' (by rw [z]; rfl)
      have y2 : x ≠ 2 := fun z => x2' (by rw [z]; rfl)
      have y3 : x ≠ 3 := fun z => x3' (by rw [z]; rfl)
      have y4 : x ≠ 4 := fun z => x4' (by rw [z]; rfl)
      have y5 : x ≠ 5 := fun z => x5' (by rw [z]; rfl)
      have y6 : x ≠ 6 := fun z => x6' (by rw [z]; rfl)
      have y7 : x ≠ 7 := fun z => x7' (by rw [z]; rfl)
      have y8 : x ≠ 8 := fun z => x8' (by rw [z]; rfl)
      omega
    · obtain ⟨E1, e, d, rfl, he, hd⟩ := hI
      exact ⟨_, rfl, rfl, true, rfl, _, rfl, _, rfl, e, d, n, rfl, hn, he, hd, fun H3 s3 => q H3 (E1.trans (.same s3 E1.t1))⟩
end
/-! ### _law_made -/
abbrev s_law_made : Stmt := topS 78
abbrev N_law_made : List Str := ["_law_made_here", "_law_one"]
theorem sc_law_made : FnScope N_law_made [] (defScope s_law_made) := ⟨rfl, rfl, rfl, by decide +kernel, rfl, by decide +kernel, by decide +kernel⟩

abbrev s_tinit : Stmt := (clsBody (topS 3)).getD 0 (.Pass ⟨0, 0, 0, 0⟩)
theorem sc_tinit : FnScope ["self", "row"] ["self", "row"] (defScope s_tinit) := ⟨rfl, rfl, rfl, by decide +kernel, rfl, by decide +kernel, by decide +kernel⟩
/-- what the written part says of NoText, at C, and of its __init__, at fI -/
structure ExText (K : PySem.W.Frag) (mg : Str → Option Value) (C fI : Addr) (fdI : FuncData) : Prop where
  gT : mg "NoText" = some (.ref C)
  oex : OexC K C
  nr : PySem.W.findIn K (.ref C) "row" = some none
  iC : PySem.W.findIn K (.ref C) "__init__" = some (some (.ref fI))
  tI : PySem.W.typeIn K (.ref fI) = some (.type "function")
  F : Fun K "__init__" "NoText.__init__" s_tinit fI fdI
  b : Binds K fdI ["self", "row"] []
  xf : XfC K C
/-- of a class without an __init__ -/
structure ExPlain (K : PySem.W.Frag) (mg : Str → Option Value) (CP : Addr) (x : Str) : Prop where
  ex : ∃ c, mg x = some (.ref c) ∧ PySem.W.excIn K c [.type "ValueError", .type "Exception", .type "BaseException", .type "object"] "ValueError.__new__" = true ∧ PySem.W.keepIn K (.ref c) = true ∧ ExcC K c ∧ PySem.W.kitOne K (.ref c) (.ref CP) = some true
def sp_tinit (C : Addr) : Sp := fun vs H Q _ => ∃ (a : Addr) (n : Nat), vs = [.ref a, .int n] ∧ n < 100 ∧ H a = some (exo a C none) ∧ ∀ dx, H dx = none → dx ≠ a → Q .non (upd (upd H dx (exd dx [("row", .int n)])) a (exo a C (some dx)))
def sp_made : Sp := fun vs _ Q _ => vs = [] ∧ ∀ H', Q (.bl true) H'
section
variable {P : Program} {w : World} {K : PySem.W.Frag} {mg : Str → Option Value} {base : Heap} {T : List Addr} {C CP fI : Addr} {fdI : FuncData} {CT fT : Addr} {fdT : FuncData}
theorem ok_tinit {k : Nat} (X : Exs K mg C CP fI fdI) (Z : ExText K mg CT fT fdT) : FnOk P w K mg base CX0 (k + 1) fT fdT ["self", "row"] (sp_tinit CT) := by
  refine Z.F.ok sc_tinit (fun vs H Q E h => ?_) (fun cdv A outer s H vs Q E hr h => ?_)
  · obtain ⟨a, n, rfl, _⟩ := h
    rfl
  · obtain ⟨a, n, rfl, hn, ha, q⟩ := h
    refine ⟨_, pss_cons (ps_expr (pe_binit (by rfl) X.gP X.rP X.gaP X.vP (pa_cons (pv 0) (pa_cons (pe_joinedE (.cons pe_str (.cons (pe_fmt (pv 1)) (.cons pe_str .nil)))) pa_nil)))) (pss_one (ps_ost (pv 0) (pv 1))), ?_⟩
    have ln := lt100_len hn
    refine ⟨_, rfl, _, rfl, by decide +kernel, _, rfl, .inr ⟨_, rfl, lt100_log hn, _, rfl, ?_, _, rfl, ?_, ?_⟩⟩
    · rw [strE_len, strE_len]
      exact Nat.le_trans (Nat.add_le_add_left ln _) (by decide +kernel)
    · rw [strE_len, strE_len, strE_len]
      exact Nat.le_trans (Nat.add_le_add_right (Nat.add_le_add_left ln _) _) (by decide +kernel)
    · refine ⟨a, CT, _, rfl, by show 1 ≤ 1000; decide, Z.oex, ha, ?_⟩
      exact ⟨_, rfl, _, rfl, a, CT, rfl, Z.oex, Z.nr, .inl ⟨ha, fun dx nd ne => q dx nd ne⟩⟩
theorem ok_made {f : Addr} {fd : FuncData} {k : Nat} (M : Names mg) (X : Exs K mg C CP fI fdI) (Z : ExText K mg CT fT fdT) (ZL : ExPlain K mg CP "NoLine") (ZP : ExPlain K mg CP "NoPlace") (ZT : ExPlain K mg CP "NoThings") (D : Def K mg "_law_made" s_law_made [] f fd) : FnOk P w K mg base CX0 (k + 3) f fd [] sp_made := by
  obtain ⟨cl, gl, xl, kl, el, il⟩ := ZL.ex
  obtain ⟨cp, gp, xp, kp, ep, ip⟩ := ZP.ex
  obtain ⟨ch, gh, xh, kh, eh, ih⟩ := ZT.ex
  have G1 : FnOk P w K mg base CX0 (k + 1) fI fdI ["self", "place"] (sp_ninit C) := ok_ninit X
  have G2 : FnOk P w K mg base CX0 (k + 1) fT fdT ["self", "row"] (sp_tinit CT) := ok_tinit X Z
  refine D.F.ok sc_law_made (fun vs H Q E h => ?_) (fun cdv A outer s H vs Q E hr h => ?_)
  · obtain ⟨rfl, _⟩ := h
    rfl
  · obtain ⟨rfl, q⟩ := h
    refine ⟨_, pss_cons (ps_if (PW.pt (pw_or (pt_cmpR op_ne (pe_xo (pe_oex X.oex X.iC X.tI G1 hr X.b (by rfl) X.gN (pa_cons pe_int pa_nil))) pe_int (nomark _)) (pw_or1 (pt_cmpR op_ne (pe_xo (pe_oex Z.oex Z.iC Z.tI G2 hr Z.b (by rfl) Z.gT (pa_cons pe_int pa_nil))) pe_int (nomark _))))) (pss_one (ps_ret pe_bl)) pss_nil)
      (pss_cons (ps_set (i := 0) sc_law_made.nd rfl (Or.inl rfl) (pe_lst (pa_cons (pe_exc1 PySem.F.excBase_ValueError xl gl kl (by rfl) pe_str) (pa_cons (pe_exc1 PySem.F.excBase_ValueError xp gp kp (by rfl) pe_str) (pa_cons (pe_exc1 PySem.F.excBase_ValueError xh gh kh (by rfl) pe_str) pa_nil)))))
      (pss_one (ps_ret (pe_cmpR (op_eqD hr.units) (pe_lc (own := [("_law_one", 1)]) (by rfl) sc_law_made.nd (pi_list (pv 0)) (blkOk_by (own := [("_law_one", 1)]) (N := N_law_made) (sc := defScope s_law_made) (by decide +kernel)) (fun _ _ _ _ _ => (pg_name (i := 1) sc_law_made.nd rfl (Or.inl rfl))) (fun _ _ _ _ _ => (pts_one (pt_not (pt_val (pe_callB (call_isO (K := K) rfl) (by rfl) M.isinstance (by decide +kernel) (pa_cons (pv 1) (pa_cons (pe_glob (v := .ref CP) (by rfl) X.gP rfl) pa_nil))))))) (fun _ _ _ _ _ => (pv 1))) (pe_lst pa_nil) (nomark _))))), ?_⟩
    refine ⟨by show 1 ≤ 1000; decide, fun a na => ⟨a, 3, rfl, by decide, upd_same, fun dx nd ne => ⟨rfl, ?_⟩⟩⟩
    refine ⟨a, C, dx, _, _, rfl, upd_same, by rw [upd_ne ne, upd_same], X.xf, X.np, rfl, rfl, false, rfl, ?_⟩
    generalize upd (upd (upd H a (exo a C none)) dx (exd dx [("place", .int ((3 : Nat) : Int))])) a (exo a C (some dx)) = H1
    refine ⟨by show 1 ≤ 1000; decide, fun a2 na2 => ⟨a2, 2, rfl, by decide, upd_same, fun dx2 nd2 ne2 => ⟨rfl, ?_⟩⟩⟩
    refine ⟨a2, CT, dx2, _, _, rfl, upd_same, by rw [upd_ne ne2, upd_same], Z.xf, Z.nr, rfl, rfl, false, rfl, ?_⟩
    generalize upd (upd (upd H1 a2 (exo a2 CT none)) dx2 (exd dx2 [("row", .int ((2 : Nat) : Int))])) a2 (exo a2 CT (some dx2)) = H2
    intro a1 n1 a2 n2 a3 n3
    refine ⟨by show 3 ≤ sizeLine; decide, fun L nL => ?_⟩
    have t3 := same_upd (o := .lst [.ref a1, .ref a2, .ref a3]) nL
    have t2 := (same_upd (o := ExO (.ref ch) a3) n3).trans t3
    have t1 := (same_upd (o := ExO (.ref cp) a2) n2).trans t2
    have h1 := t1 _ _ upd_same
    have h2 := t2 _ _ upd_same
    have h3 := t3 _ _ upd_same
    have hL : upd (upd (upd (upd H2 a1 (ExO (.ref cl) a1)) a2 (ExO (.ref cp) a2)) a3 (ExO (.ref ch) a3)) L (.lst [.ref a1, .ref a2, .ref a3]) L = some (.lst [.ref a1, .ref a2, .ref a3]) := upd_same
    generalize upd (upd (upd (upd H2 a1 (ExO (.ref cl) a1)) a2 (ExO (.ref cp) a2)) a3 (ExO (.ref ch) a3)) L (.lst [.ref a1, .ref a2, .ref a3]) = H3 at h1 h2 h3 hL ⊢
    refine ⟨_, rfl, L, rfl, ⟨_, SqL.of hL⟩, fun B nB => lc_list (xs := [.ref a1, .ref a2, .ref a3]) (fun i H' => Same H3 H' ∧ H' B = some (.lst [])) ⟨same_upd nB, upd_same⟩ (fun i H' _ hp => SqL.of (hp.1 _ _ hL)) (fun i y H4 hy hp => ?_) (fun H4 hp => ?_)⟩
    · obtain ⟨s4, hB⟩ := hp
      match i, hy with
      | 0, hy =>
        cases Option.some.inj hy
        exact ⟨rfl, _, rfl, a1, cl, _, _, true, rfl, s4 _ _ h1, el, fun u h => h, il, true, rfl, s4, hB⟩
      | 1, hy =>
        cases Option.some.inj hy
        exact ⟨rfl, _, rfl, a2, cp, _, _, true, rfl, s4 _ _ h2, ep, fun u h => h, ip, true, rfl, s4, hB⟩
      | 2, hy =>
        cases Option.some.inj hy
        exact ⟨rfl, _, rfl, a3, ch, _, _, true, rfl, s4 _ _ h3, eh, fun u h => h, ih, true, rfl, s4, hB⟩
    · obtain ⟨s4, hB⟩ := hp
      refine ⟨by decide, fun e ne => ?_⟩
      have se := same_upd (o := .lst []) ne
      refine ⟨.list [], .list [], .lst (SqL.of (se _ _ hB)) .nil, .lst (SqL.of upd_same) .nil, by decide +kernel, by decide +kernel, ?_⟩
      exact q _
end
/-! ### how many things -/
theorem menuM {j : Nat} (h : j < 8) : ∃ v : Nat, ([V.int 1, V.int 2, V.int 2, V.int 3, V.int 2, V.int 3, V.int 1, V.int 4] : List V)[j]? = some (.int v) ∧ 1 ≤ v ∧ v ≤ 4 :=
  match j, h with
  | 0, _ => ⟨1, rfl, by decide, by decide⟩
  | 1, _ => ⟨2, rfl, by decide, by decide⟩
  | 2, _ => ⟨2, rfl, by decide, by decide⟩
  | 3, _ => ⟨3, rfl, by decide, by decide⟩
  | 4, _ => ⟨2, rfl, by decide, by decide⟩
  | 5, _ => ⟨3, rfl, by decide, by decide⟩
  | 6, _ => ⟨1, rfl, by decide, by decide⟩
  | 7, _ => ⟨4, rfl, by decide, by decide⟩
theorem LeW.snoc : ∀ {us ws : List Int} {x n : Int}, LeW us ws → 0 ≤ x → x ≤ n → LeW (us ++ [x]) (ws ++ [n])
  | [], [], _, _, _, h0, h1 => ⟨h0, h1, True.intro⟩
  | [], _ :: _, _, _, h, _, _ => h.elim
  | _ :: _, [], _, _, h, _, _ => h.elim
  | a :: r, b :: w, _, _, h, h0, h1 => ⟨h.1, h.2.1, LeW.snoc h.2.2 h0 h1⟩
/-! ### shops with a wrong offer -/
theorem cut_toR (l : List V) (k : Nat) : cutV l none (some (k : Int)) = l.take k := by
  unfold cutV
  rw [HT.sIx_nat, HT.sIx_none, List.drop_zero, Nat.sub_zero]
  exact (List.take_eq_take_iff).mpr (by omega)
theorem refs_ints {c : List Int} {v : Addr} {vs : List Addr} (h : HO.lst (c.map V.int) = HO.lst ((v :: vs).map V.ref)) : False := by
  injection h with h
  cases c with
  | nil => cases h
  | cons n r =>
    rw [List.map_cons, List.map_cons] at h
    injection h with h1 _
    cases h1
theorem ofr_other {H : Hp} {q v0 : Addr} {vs : List Addr} {zs : List V} {w : Str} {r : List V} (hq : H q = some (.lst ((v0 :: vs).map V.ref))) (h0 : H v0 = some (.tup (.str w :: r))) {v : Addr} : ∀ {o : Ofr}, OfrAt H v o → OfrAt (upd H q (.lst zs)) v o
  | .pack c p, ⟨b, h1, h2⟩ => ⟨b, by rw [upd_ne (ne_of h1 hq (fun z => nomatch z))]; exact h1, by rw [upd_ne (fun e => by rw [e, hq] at h2; exact refs_ints (Option.some.inj h2).symm)]; exact h2⟩
  | .add c p k, ⟨b, h1, h2⟩ => ⟨b, by rw [upd_ne (ne_of h1 hq (fun z => nomatch z))]; exact h1, by rw [upd_ne (fun e => by rw [e, hq] at h2; exact refs_ints (Option.some.inj h2).symm)]; exact h2⟩
  | .many c ts, ⟨b, t, h1, h2, us, h3, h4, h5⟩ => by
    have nt : t ≠ q := fun e => by
      rw [e, hq] at h3
      have h3' := Option.some.inj h3
      injection h3' with h6
      cases us with
      | nil => cases h6
      | cons u us =>
        rw [List.map_cons, List.map_cons] at h6
        injection h6 with h7 _
        have h8 : v0 = u := V.ref.inj h7
        have ht : ts[0]? = some (ts[0]'(by rw [← h4]; exact Nat.succ_pos _)) := List.getElem?_eq_getElem _
        have h9 := h5 0 u _ rfl ht
        rw [← h8, h0] at h9
        have h10 := Option.some.inj h9
        injection h10 with h11
        injection h11 with h12 _
        cases h12
    refine ⟨b, t, by rw [upd_ne (ne_of h1 hq (fun z => nomatch z))]; exact h1, by rw [upd_ne (fun e => by rw [e, hq] at h2; exact refs_ints (Option.some.inj h2).symm)]; exact h2, us, by rw [upd_ne nt]; exact h3, h4, fun i u tt a b => ?_⟩
    have h6 := h5 i u tt a b
    rw [upd_ne (ne_of h6 hq (fun z => nomatch z))]
    exact h6
theorem good_tiers_true {ts : List (Int × Int)} (g : GoodT ts) : goodB ts = true := by
  have pos := g.pos
  have few := g.few
  have lb : (begs ts).length = ts.length := List.length_map ..
  have gb : ∀ (i : Nat) t, ts[i]? = some t → (begs ts).getD i 0 = t.1 := fun i t h => by
    unfold begs
    rw [List.getD_eq_getElem?_getD, List.getElem?_map, h]
    rfl
  have at_ : ∀ i, i < ts.length → ∃ t, ts[i]? = some t ∧ (begs ts).getD i 0 = t.1 := fun i hi => ⟨_, List.getElem?_eq_getElem hi, gb i _ (List.getElem?_eq_getElem hi)⟩
  obtain ⟨t0, h0, e0⟩ := at_ 0 (by omega)
  obtain ⟨t1, h1, e1⟩ := at_ (ts.length - 1) (by omega)
  have one := g.one t0 h0
  have most := g.most t1 (List.mem_of_getElem? h1)
  unfold goodB
  rw [decide_eq_true pos, decide_eq_true few, e0, decide_eq_true one, e1, decide_eq_true most, Bool.true_and, Bool.true_and, Bool.true_and, Bool.true_and]
  unfold riseB
  rw [List.all_eq_true]
  intro i hi
  have hi2 := List.mem_range.mp hi
  rw [List.length_drop, lb] at hi2
  obtain ⟨a, ha, ea⟩ := at_ i (by omega)
  obtain ⟨b, hb, eb⟩ := at_ (i + 1) (by omega)
  have := g.rise i a b ha hb
  refine decide_eq_true ?_
  have e : ((begs ts).drop 1).getD i 0 = (begs ts).getD (i + 1) 0 := by
    rw [List.getD_eq_getElem?_getD, List.getElem?_drop, Nat.add_comm 1 i, ← List.getD_eq_getElem?_getD]
  rw [ea, e, eb]
  exact this
theorem good_stand {os : List Ofr} {i : Nat} : ∀ {o : Ofr}, GoodO os i o → standO os i o = true
  | .pack _ _, _ => rfl
  | .many _ ts, h => good_tiers_true h
  | .add _ _ _, ⟨j, e, hj, c, p, h⟩ => by
    show namesB os i _ = true
    subst e
    unfold namesB packB
    rw [Int.toNat_natCast, h, decide_eq_true (by omega), decide_eq_true (by omega)]
    rfl
theorem good_first {os : List Ofr} (g : Good os) : firstBad os = none := find_range_none fun i hi => by
  have h := List.getElem?_eq_getElem hi
  rw [standB_at h, good_stand (g.2 i _ h)]
  rfl
theorem good_size {os : List Ofr} (g : Good os) : SizeO 5 os := fun c ts hm => by
  obtain ⟨i, hi, e⟩ := List.getElem_of_mem hm
  have : GoodT ts := by
    have := g.2 i _ (List.getElem?_eq_getElem hi)
    rw [e] at this
    exact this
  have := this.few
  omega
theorem standB_app {os R : List Ofr} (g : Good os) {i : Nat} (hi : i < os.length) : standB (os ++ R) i = true := by
  have h := List.getElem?_eq_getElem hi
  have h' : (os ++ R)[i]? = some os[i] := by rw [List.getElem?_append_left hi, h]
  rw [standB_at h']
  have gs := good_stand (g.2 i _ h)
  cases e : os[i] with
  | pack c p => rfl
  | many c ts => rw [e] at gs; exact gs
  | add c p k =>
    rw [e] at gs
    have gs' : namesB os i k = true := gs
    show namesB (os ++ R) i k = true
    unfold namesB at gs' ⊢
    rw [Bool.and_eq_true, Bool.and_eq_true] at gs' ⊢
    obtain ⟨⟨g1, g2⟩, g3⟩ := gs'
    have g1' := of_decide_eq_true g1
    have g2' := of_decide_eq_true g2
    refine ⟨⟨g1, g2⟩, ?_⟩
    rw [packB_app (by omega)]
    exact g3
theorem first_wrong {os R : List Ofr} {o : Ofr} (g : Good os) (hb : WrongO os o) : firstBad (os ++ o :: R) = some os.length := by
  refine find_range_some (by rw [List.length_append, List.length_cons]; omega) (fun i hi => by rw [standB_app g hi]; rfl) ?_
  rw [standB_at (o := o) (by rw [List.getElem?_append_right (Nat.le_refl _), Nat.sub_self]; rfl), hb R]
  rfl
theorem shop_cat {d S u : Addr} {G G' : Hp} {vs : List Addr} {os : List Ofr} {o : Ofr} (al : Al (OfrAt (cutH d G)) vs os) (ho : OfrAt (cutH d G) u o) (s : Same G G') (hS : G' S = some (.lst (vs.map V.ref ++ [.ref u]))) (nS : S ≠ d) : ShopAt (cutH d G') S (os ++ [o]) :=
  ShopAt.of_al (vs := vs ++ [u]) (cut_put nS (by rw [hS, List.map_append]; rfl)) (Al.app (al.imp fun _ _ h => h.same (cut_mono s)) (.one (ho.same (cut_mono s))))
theorem sb_upd {H : Hp} {S : Addr} {o : HO} : SameBut S H (upd H S o) := fun b o' ne h => by rw [upd_ne ne]; exact h
theorem shop_app {d S u : Addr} {G : Hp} {xs : List V} {os : List Ofr} {o : Ofr} (hS : ShopAt (cutH d G) S os) (pos : 0 < os.length) (hx : G S = some (.lst xs)) (ho : OfrAt (cutH d G) u o) (nS : S ≠ d) : ShopAt (cutH d (upd G S (.lst (xs ++ [.ref u])))) S (os ++ [o]) := by
  obtain ⟨vs, h1, al⟩ := hS.al
  have lal := al.len
  have e := (cut_le _ _ h1).symm.trans hx
  have ex : vs.map V.ref = xs := by
    injection (Option.some.inj e)
  subst ex
  obtain ⟨_, h1', h2, h3⟩ := id hS
  obtain ⟨v0, vs', e0⟩ : ∃ v0 vs', vs = v0 :: vs' := by
    cases vs with
    | nil => rw [← lal] at pos; exact absurd pos (Nat.not_lt_zero _)
    | cons v0 vs' => exact ⟨v0, vs', rfl⟩
  subst e0
  obtain ⟨o0, os', eo⟩ : ∃ o0 os', os = o0 :: os' := by
    cases os with
    | nil => exact absurd pos (Nat.not_lt_zero _)
    | cons o0 os' => exact ⟨o0, os', rfl⟩
  subst eo
  obtain ⟨b0, r0, hv0, _⟩ := al.1.head
  rw [cut_upd nS]
  refine ShopAt.of_al (vs := (v0 :: vs') ++ [u]) (by rw [upd_same, List.map_append]; rfl) (Al.app (al.imp fun _ _ h => ofr_other h1 hv0 h) (.one (ofr_other h1 hv0 ho)))
theorem sh_good {m : Nat} {os : List Ofr} (gd : Good os) (ft : FitS m os) (hm : m ≤ 4) : ∀ x ∈ os, Sh 1000 (dOfr x) := fun x hx => by
  obtain ⟨i, hi, e⟩ := List.getElem_of_mem hx
  have h8 := gd.1
  exact sh_ofr h8 hm (gd.2 i x (by rw [List.getElem?_eq_getElem hi, e])) (ft x hx) (by omega)
theorem sh_whole {os : List Ofr} (h : ∀ x ∈ os, Sh 1000 (dOfr x)) (h8 : os.length ≤ 8) : Sh 10000 (dShop os) := by
  refine (Sh.list (n := 1000) fun x hx => ?_).mono ?_
  · obtain ⟨o, ho, rfl⟩ := List.mem_map.mp hx
    exact h o ho
  · rw [List.length_map]
    omega
theorem depth_shop (os : List Ofr) : (dShop os).depth ≤ 60 := by
  have h1 := depth_ofrs os
  simp only [PyData.depth]
  omega
-- used defs only
/-! ### the law -/
abbrev s_law : Stmt := topS 79
abbrev N_law : List Str := ["_law_script", "_law_draws_here", "_law_many", "_law_first", "_law_shop_here", "_law_place", "_law_want_here", "_law_kept", "_law_which"]
theorem sc_law : FnScope N_law ["_law_script"] (defScope s_law) := ⟨rfl, rfl, rfl, by decide +kernel, rfl, by decide +kernel, by decide +kernel⟩

def sp_law (K : PySem.W.Frag) (t : Addr) : Sp := fun vs H Q _ => ∃ (a : Addr) (ns : List Int), vs = [.ref a] ∧ SqL K H a (ns.map V.int) ∧ ns.length ≤ 63 ∧ GxR.TabG H t ∧ ∀ H', Q (.bl true) H'
section
variable {P : Program} {w : World} {K : PySem.W.Frag} {mg : Str → Option Value} {base : Heap}
theorem ok_law {f f_names_pack f_good_tiers f_can_stand f_look f_lines f_priced_lines f_all_steps f_cheapest f_least f_cases f_shows f_without f_spared f_thinned f_moves f_fair f_single_prices f_hold_together f_law_mix f_law_draws f_law_pop f_law_cut f_law_content f_law_price f_law_tiers f_law_shop f_law_want f_law_wrong f_law_only f_law_asked f_law_made c t C CP fI CT fT : Addr} {fd fd_names_pack fd_good_tiers fd_can_stand fd_look fd_lines fd_priced_lines fd_all_steps fd_cheapest fd_least fd_cases fd_shows fd_without fd_spared fd_thinned fd_moves fd_fair fd_single_prices fd_hold_together fd_law_mix fd_law_draws fd_law_pop fd_law_cut fd_law_content fd_law_price fd_law_tiers fd_law_shop fd_law_want fd_law_wrong fd_law_only fd_law_asked fd_law_made fdI fdT : FuncData} (M : Names mg) (D : Def K mg "law" s_law ["_law_script"] f fd)
    (D_names_pack : Def K mg "names_pack" s_names_pack ["shop", "at"] f_names_pack fd_names_pack)
    (D_good_tiers : Def K mg "good_tiers" s_good_tiers ["tiers"] f_good_tiers fd_good_tiers)
    (D_can_stand : Def K mg "can_stand" s_can_stand ["shop", "at"] f_can_stand fd_can_stand)
    (D_look : Def K mg "look" s_look ["shop"] f_look fd_look)
    (D_lines : Def K mg "lines" s_lines ["shop"] f_lines fd_lines)
    (D_priced_lines : Def K mg "priced_lines" s_priced_lines ["shop"] f_priced_lines fd_priced_lines)
    (D_all_steps : Def K mg "all_steps" s_all_steps ["priced", "want"] f_all_steps fd_all_steps)
    (D_cheapest : Def K mg "cheapest" s_cheapest ["priced", "want"] f_cheapest fd_cheapest)
    (D_least : Def K mg "least" s_least ["shop", "want"] f_least fd_least)
    (D_cases : Def K mg "cases" s_cases ["shop", "want"] f_cases fd_cases)
    (D_shows : Def K mg "shows" s_shows ["shop", "want", "table"] f_shows fd_shows)
    (D_without : Def K mg "without" s_without ["priced", "place"] f_without fd_without)
    (D_spared : Def K mg "spared" s_spared ["shop"] f_spared fd_spared)
    (D_thinned : Def K mg "thinned" s_thinned ["shop"] f_thinned fd_thinned)
    (D_moves : Def K mg "moves" s_moves ["shop", "want", "place"] f_moves fd_moves)
    (D_fair : Def K mg "fair" s_fair ["shop", "prices"] f_fair fd_fair)
    (D_single_prices : Def K mg "single_prices" s_single_prices ["shop", "want"] f_single_prices fd_single_prices)
    (D_hold_together : Def K mg "hold_together" s_hold_together ["shop", "want", "told"] f_hold_together fd_hold_together)
    (D_law_mix : Def K mg "_law_mix" s_law_mix ["_law_cell", "_law_turn"] f_law_mix fd_law_mix)
    (D_law_draws : Def K mg "_law_draws" s_law_draws ["_law_script", "_law_turn", "_law_many"] f_law_draws fd_law_draws)
    (D_law_pop : Def K mg "_law_pop" s_law_pop ["_law_draws_here"] f_law_pop fd_law_pop)
    (D_law_cut : Def K mg "_law_cut" s_law_cut ["_law_row"] f_law_cut fd_law_cut)
    (D_law_content : Def K mg "_law_content" s_law_content ["_law_draws_here", "_law_many", "_law_most"] f_law_content fd_law_content)
    (D_law_price : Def K mg "_law_price" s_law_price ["_law_draws_here"] f_law_price fd_law_price)
    (D_law_tiers : Def K mg "_law_tiers" s_law_tiers ["_law_draws_here"] f_law_tiers fd_law_tiers)
    (D_law_shop : Def K mg "_law_shop" s_law_shop ["_law_draws_here", "_law_many", "_law_most"] f_law_shop fd_law_shop)
    (D_law_want : Def K mg "_law_want" s_law_want ["_law_draws_here", "_law_many"] f_law_want fd_law_want)
    (D_law_wrong : Def K mg "_law_wrong" s_law_wrong ["_law_draws_here", "_law_many", "_law_shop_here"] f_law_wrong fd_law_wrong)
    (D_law_only : Def K mg "_law_only" s_law_only ["_law_error", "_law_place"] f_law_only fd_law_only)
    (D_law_asked : Def K mg "_law_asked" s_law_asked ["_law_shop_here", "_law_want_here", "_law_place", "_law_which"] f_law_asked fd_law_asked)
    (D_law_made : Def K mg "_law_made" s_law_made [] f_law_made fd_law_made)
    (hc : fd_good_tiers.code = .ref c) (TB : GxR.TabB base mg c t) (X : Exs K mg C CP fI fdI) (Y : ExKit K mg C CP) (Z : ExText K mg CT fT fdT) (ZL : ExPlain K mg CP "NoLine") (ZP : ExPlain K mg CP "NoPlace") (ZT : ExPlain K mg CP "NoThings") :
    FnOkG P w K mg base 8 f fd ["_law_script"] (sp_law K t) := by
  have m1 : t ∈ [t] := List.mem_cons_self
  have LK : ∀ k, FnOk P w K mg base (L2.CX P w) (k + 3) f_look fd_look ["shop"] (sp_look C [t]) := fun k => ok_look M X D_look D_can_stand D_names_pack D_good_tiers hc TB m1
  have LN : ∀ k, FnOk P w K mg base (L2.CX P w) (k + 4) f_lines fd_lines ["shop"] (sp_ref C [t] 0 1) := fun k => ref_lines D_lines D_look (LK k)
  have PL : ∀ k, FnOk P w K mg base (L2.CX P w) (k + 5) f_priced_lines fd_priced_lines ["shop"] (sp_ref C [t] 0 1) := fun k => ref_priced_lines D_priced_lines D_lines (LN k)
  have G_law_asked : FnOk P w K mg base CX0 7 f_law_asked fd_law_asked ["_law_shop_here", "_law_want_here", "_law_place", "_law_which"] (sp_askedP [t]) :=
    ok_askedP M X Y D_law_asked D_law_only (ok_onlyP M X Y D_law_only) D_least (ref_least D_least D_priced_lines (PL 0) D_cheapest) D_cases (ref_cases D_cases D_priced_lines (PL 0) D_all_steps) D_shows (ref_shows D_shows D_priced_lines (PL 0)) D_fair (ref_fair D_fair D_priced_lines (PL 0)) D_single_prices (ref_single_prices D_single_prices D_priced_lines (PL 0)) D_hold_together (ref_hold_together D_hold_together D_priced_lines (PL 0)) D_spared (ref_spared D_spared D_priced_lines (PL 0)) D_thinned (ref_thinned D_thinned D_priced_lines (PL 0)) D_moves (ref_moves D_moves D_priced_lines (PL 0) D_without)
  have G_law_made : FnOk P w K mg base CX0 7 f_law_made fd_law_made [] sp_made := ok_made M X Z ZL ZP ZT D_law_made
  have G_law_draws : FnOk P w K mg base CX0 7 f_law_draws fd_law_draws ["_law_script", "_law_turn", "_law_many"] (sp_draws K) := ok_draws M D_law_draws D_law_mix
  have G_law_pop : FnOk P w K mg base CX0 7 f_law_pop fd_law_pop ["_law_draws_here"] sp_pop := ok_pop D_law_pop
  have G_law_want : FnOk P w K mg base CX0 7 f_law_want fd_law_want ["_law_draws_here", "_law_many"] sp_want := ok_want M D_law_want D_law_pop D_law_cut
  have G_law_content : FnOk P w K mg base CX0 7 f_law_content fd_law_content ["_law_draws_here", "_law_many", "_law_most"] sp_content := ok_content M D_law_content D_law_pop D_law_cut
  have G_law_shop : FnOk P w K mg base CX0 7 f_law_shop fd_law_shop ["_law_draws_here", "_law_many", "_law_most"] sp_shop := ok_shop M D_law_shop D_law_content D_law_price D_law_tiers D_law_cut D_law_pop
  have G_law_wrong : FnOk P w K mg base CX0 7 f_law_wrong fd_law_wrong ["_law_draws_here", "_law_many", "_law_shop_here"] sp_wrong := ok_wrong M D_law_wrong D_law_content (ok_content M D_law_content D_law_pop D_law_cut) D_law_pop (ok_pop D_law_pop)
  refine okG D.F sc_law (fun vs H Q E h => ?_) (fun cdv A outer s H vs Q E gd hr h => ?_)
  · obtain ⟨a, ns, rfl, _⟩ := h
    rfl
  · obtain ⟨a, ns, rfl, hS0, hlen, hT0, q⟩ := h
    have hT : Tb [t] H := fun u hu => by rw [List.mem_singleton.mp hu]; exact hT0
    refine ⟨_, (pss_cons (ps_set (i := 1) sc_law.nd rfl (Or.inl rfl) (pe_call G_law_draws hr (by rfl) D_law_draws.g D_law_draws.F.kp D_law_draws.b .nil pass0 (pa_cons (pv 0) (pa_cons pe_int (pa_cons pe_int pa_nil)))))
  (pss_cons (ps_set (i := 2) sc_law.nd rfl (Or.inl rfl) (pe_ix ix_list (pe_lst (pa_cons pe_int (pa_cons pe_int (pa_cons pe_int (pa_cons pe_int (pa_cons pe_int (pa_cons pe_int (pa_cons pe_int (pa_cons pe_int pa_nil))))))))) (pe_op op_mod (pe_call G_law_pop hr (by rfl) D_law_pop.g D_law_pop.F.kp D_law_pop.b .nil pass0 (pa_cons (pv 1) pa_nil)) pe_int) (fun _ _ => rfl)))
  (pss_cons (ps_set (i := 3) sc_law.nd rfl (Or.inl rfl) (pe_op op_cat (pe_call G_law_shop hr (by rfl) D_law_shop.g D_law_shop.F.kp D_law_shop.b .nil pass0 (pa_cons (pv 1) (pa_cons (pv 2) (pa_cons pe_int pa_nil)))) (pe_lst (pa_cons (pe_tup (pa_cons pe_str (pa_cons (pe_call G_law_content hr (by rfl) D_law_content.g D_law_content.F.kp D_law_content.b .nil pass0 (pa_cons (pv 1) (pa_cons (pv 2) (pa_cons pe_int pa_nil)))) (pa_cons pe_int pa_nil)))) pa_nil))))
  (pss_cons (ps_set (i := 4) sc_law.nd rfl (Or.inl rfl) (pe_op op_cat (pv 3) (pe_lst (pa_cons (pe_call G_law_wrong hr (by rfl) D_law_wrong.g D_law_wrong.F.kp D_law_wrong.b .nil pass0 (pa_cons (pv 1) (pa_cons (pv 2) (pa_cons (pv 3) pa_nil)))) pa_nil))))
  (pss_cons (ps_set (i := 5) sc_law.nd rfl (Or.inl rfl) (pe_callB call_len_seq (by rfl) M.len (by decide +kernel) (pa_cons (pv 3) pa_nil)))
  (pss_cutI (ps_if (pt_cmpR op_eq (pe_op op_mod (pe_call G_law_pop hr (by rfl) D_law_pop.g D_law_pop.F.kp D_law_pop.b .nil pass0 (pa_cons (pv 1) pa_nil)) pe_int) pe_int (nomark _))
   (pss_one (ps_expr (pe_bm PySem.F.plainAttrs_list PySem.F.slot_list_append PySem.F.type_list_append mt_append (pv 4) (pa_cons (pe_call G_law_wrong hr (by rfl) D_law_wrong.g D_law_wrong.F.kp D_law_wrong.b .nil pass0 (pa_cons (pv 1) (pa_cons (pv 2) (pa_cons (pv 4) pa_nil)))) pa_nil))))
   pss_nil)
  (pss_cutI (ps_if (pt_cmpR op_eq (pe_op op_mod (pe_call G_law_pop hr (by rfl) D_law_pop.g D_law_pop.F.kp D_law_pop.b .nil pass0 (pa_cons (pv 1) pa_nil)) pe_int) pe_int (nomark _))
   (pss_one (ps_expr (pe_bm PySem.F.plainAttrs_list PySem.F.slot_list_append PySem.F.type_list_append mt_append (pv 4) (pa_cons (pe_tup (pa_cons pe_str (pa_cons (pe_call G_law_content hr (by rfl) D_law_content.g D_law_content.F.kp D_law_content.b .nil pass0 (pa_cons (pv 1) (pa_cons (pv 2) (pa_cons pe_int pa_nil)))) (pa_cons pe_int pa_nil)))) pa_nil))))
   pss_nil)
  (pss_cons (ps_set (i := 4) sc_law.nd rfl (Or.inl rfl) (pe_slice sl_list (pv 4) po_none (po_some pe_int)))
  (pss_cons (ps_set (i := 6) sc_law.nd rfl (Or.inl rfl) (pe_call G_law_want hr (by rfl) D_law_want.g D_law_want.F.kp D_law_want.b .nil pass0 (pa_cons (pv 1) (pa_cons (pv 2) pa_nil))))
  (pss_cons (ps_set (i := 7) sc_law.nd rfl (Or.inl rfl) (pe_callTy (cr_strD gd hr.units) (by rfl) M.str (by decide +kernel) (pa_cons (pv 4) pa_nil)))
  (pss_cons (ps_for PassesOwn.never rfl (pi_range1 (by rfl) M.range (pa_cons pe_int pa_nil)) (pg_name (i := 8) sc_law.nd rfl (Or.inl rfl))
   (pss_one (ps_if (PW.pt (pw_or (pt_not (pt_val (pe_call G_law_asked hr (by rfl) D_law_asked.g D_law_asked.F.kp D_law_asked.b .nil pass0 (pa_cons (pv 4) (pa_cons (pv 6) (pa_cons (pv 5) (pa_cons (pv 8) pa_nil))))))) (pw_or1 (pt_cmpR op_ne (pe_callTy (cr_strD gd hr.units) (by rfl) M.str (by decide +kernel) (pa_cons (pv 4) pa_nil)) (pv 7) (nomark _)))))
   (pss_one (ps_ret pe_bl))
   pss_nil)))
  (pss_one (ps_ret (pe_call0 G_law_made hr (by rfl) D_law_made.g D_law_made.F.kp D_law_made.b .nil pass0)))))))))))))), ?_⟩
    refine ⟨_, rfl, a, ns, 1, 130, rfl, hS0, by omega, by omega, by omega, fun H1 d ds s1 nd hd => ?_⟩
    refine ⟨by show 8 ≤ sizeLine; decide, fun e ne => ?_⟩
    have se := same_upd (o := .lst [.int 1, .int 2, .int 2, .int 3, .int 2, .int 3, .int 1, .int 4]) ne
    have he : upd H1 e (.lst [.int 1, .int 2, .int 2, .int 3, .int 2, .int 3, .int 1, .int 4]) e = some (.lst [.int 1, .int 2, .int 2, .int 3, .int 2, .int 3, .int 1, .int 4]) := upd_same
    have hd2 := se _ _ hd
    have ned : e ≠ d := fun z => by rw [z, hd] at ne; cases ne
    generalize upd H1 e (.lst [.int 1, .int 2, .int 2, .int 3, .int 2, .int 3, .int 1, .int 4]) = H2 at se he hd2 ⊢
    have hT2 := tb_same (s1.trans se) hT
    refine ⟨_, rfl, d, ds, rfl, hd2, fun H3 s3 hd3 => ?_⟩
    obtain ⟨j, hj, ej⟩ := mod_at (i := ds.headD 0) (n := 8) (by decide)
    obtain ⟨m, hm, hm1, hm4⟩ := menuM hj
    refine ⟨_, _, rfl, rfl, (by show (0 : Int) < _; decide), e, _, _, _, rfl, rfl, SqL.of (s3 _ _ ned he), at_of ej hm, ?_⟩
    have hT3 := tb_but s3 hd2 hT2
    clear hT2 hT hT0 hd2 he
    -- first
    refine ⟨_, rfl, _, rfl, d, _, m, 4, rfl, hd3, hm1, hm4, by decide, fun H4 S0 os ns4 s4 nS0 hsh gd1 ft hl4 hd4 => ?_⟩
    have hT4 := tb_but s4 hd3 hT3
    refine ⟨_, rfl, _, rfl, d, _, m, 3, rfl, hd4, hm1, hm4, by decide, by decide, fun H5 c5 cs ns5 s5 nc ncd hc5 hd5 hlc smc => ⟨by show 3 ≤ sizeLine; decide, fun v nv => ⟨by show 1 ≤ sizeLine; decide, fun l nl => ?_⟩⟩⟩
    have hT5 := tb_but s5 hd4 hT4
    have sv := same_upd (o := .tup [.str "pack", .ref c5, .int 4]) nv
    have sl := same_upd (o := .lst [.ref v]) nl
    obtain ⟨vs, hSl, al⟩ := (hsh.same (cut_same s5)).al
    have lal := al.len
    refine ⟨S0, l, _, _, rfl, rfl, (sv.trans sl) _ _ (cut_le _ _ hSl), upd_same, szL (by rw [List.length_map]; show vs.length + 1 ≤ _; omega), fun S1 nS1 => ?_⟩
    have sS := same_upd (o := .lst (vs.map V.ref ++ [.ref v])) nS1
    have nvd : v ≠ d := fun z => by rw [z, hd5] at nv; cases nv
    have nSd : S1 ≠ d := fun z => by rw [z, (sv.trans sl) _ _ hd5] at nS1; cases nS1
    have ov : OfrAt (cutH d (upd H5 v (.tup [.str "pack", .ref c5, .int 4]))) v (.pack cs 4) := ⟨c5, cut_put nvd upd_same, cut_put ncd (sv _ _ hc5)⟩
    have sh8 : ShopAt (cutH d (upd (upd (upd H5 v (.tup [.str "pack", .ref c5, .int 4])) l (.lst [.ref v])) S1 (.lst (vs.map V.ref ++ [.ref v])))) S1 (os ++ [.pack cs 4]) := shop_cat (al.imp fun _ _ h => h.same (cut_mono sv)) ov (sl.trans sS) upd_same nSd
    have s58 := sv.trans (sl.trans sS)
    generalize upd (upd (upd H5 v (.tup [.str "pack", .ref c5, .int 4])) l (.lst [.ref v])) S1 (.lst (vs.map V.ref ++ [.ref v])) = H8 at sh8 s58 ⊢
    have hd8 := s58 _ _ hd5
    have hT8 := tb_same s58 hT5
    have good1 : Good (os ++ [.pack cs 4]) := gd1.push (by omega) True.intro
    have ft1 : FitS m (os ++ [.pack cs 4]) := ft.push ⟨hlc, smc, by decide, by decide⟩
    have l15 : (os ++ [Ofr.pack cs 4]).length ≤ 5 := by rw [List.length_append]; show os.length + 1 ≤ 5; omega
    have p1 : 0 < (os ++ [Ofr.pack cs 4]).length := by rw [List.length_append]; exact Nat.succ_pos _
    generalize os ++ [Ofr.pack cs 4] = os1 at sh8 good1 ft1 l15 p1
    clear s58 sv sl sS hsh al lal ov hSl nv nl nS1 nvd hd5 hT5 hc5 s5 s4 s3 s1 se ft gd1 hT3 hT4 hd4 hd3
    -- the wrong one
    refine ⟨_, rfl, _, rfl, _, rfl, _, rfl, d, S1, ns5, m, os1, rfl, hd8, sh8, by omega, hm1, hm4, fun H9 u o ns9 s9 nu hd9 ho wr sho szo => ⟨by show 1 ≤ sizeLine; decide, fun l2 nl2 => ?_⟩⟩
    have hT9 := tb_but s9 hd8 hT8
    have sh9 : ShopAt (cutH d H9) S1 os1 := sh8.same (cut_same s9)
    obtain ⟨vs1, k1, al1⟩ := sh9.al
    have lal1 := al1.len
    have sl := same_upd (o := .lst [.ref u]) nl2
    refine ⟨S1, l2, _, _, rfl, rfl, sl _ _ (cut_le _ _ k1), upd_same, szL (by rw [List.length_map]; show vs1.length + 1 ≤ _; omega), fun S2 nS2 => ?_⟩
    have sS := same_upd (o := .lst (vs1.map V.ref ++ [.ref u])) nS2
    have nS2d : S2 ≠ d := fun z => by rw [z, sl _ _ hd9] at nS2; cases nS2
    have sh11 : ShopAt (cutH d (upd (upd H9 l2 (.lst [.ref u])) S2 (.lst (vs1.map V.ref ++ [.ref u])))) S2 (os1 ++ [o]) := shop_cat al1 ho (sl.trans sS) upd_same nS2d
    have s911 := sl.trans sS
    generalize upd (upd H9 l2 (.lst [.ref u])) S2 (.lst (vs1.map V.ref ++ [.ref u])) = H11 at sh11 s911 ⊢
    have hd11 := s911 _ _ hd9
    have hT11 := tb_same s911 hT9
    have hS111 := s911 _ _ (cut_le _ _ k1)
    refine ⟨_, rfl, S1, _, rfl, .inl (SqL.of hS111), ?_⟩
    have lv : (vs1.map V.ref).length = os1.length := by rw [List.length_map]; exact lal1
    have fbw : ∀ R, firstBad (os1 ++ o :: R) = some (vs1.map V.ref).length := fun R => by rw [lv]; exact first_wrong good1 wr
    have n99 : (vs1.map V.ref).length < 100 := by omega
    generalize (vs1.map V.ref).length = n at fbw n99 lv ⊢
    clear hS111 al1 lal1 k1 sh9 sl sS s911 nl2 nS2 hd9 hT9 ho s9 sh8 hd8 hT8
    have lo1 : ∀ R : List Ofr, (os1 ++ o :: R).length = os1.length + R.length + 1 := fun R => by rw [List.length_append, List.length_cons]; omega
    -- perhaps another wrong one
    refine ⟨fun σ H' => ∃ (R : List Ofr) (ds' : List Int), σ = [some (.ref a), some (.ref d), some (.int (m : Int)), some (.ref S1), some (.ref S2), some (.int (n : Int)), none, none, none] ∧ H' d = some (LI ds') ∧ ShopAt (cutH d H') S2 (os1 ++ o :: R) ∧ R.length ≤ 1 ∧ (∀ x ∈ R, Sh 1000 (dOfr x)) ∧ SizeO 1000 R ∧ Tb [t] H', ?_, fun σ' H' hI => ?_⟩
    · refine ⟨_, rfl, d, ns9, rfl, hd11, fun H12 s12 hd12 => ⟨_, _, rfl, rfl, (by show (0 : Int) < _; decide), rfl, _, rfl, ite2 (fun _ => ?_) (fun _ => ?_)⟩⟩
      · have hT12 := tb_but s12 hd11 hT11
        have sh12 := sh11.same (cut_same s12)
        obtain ⟨vs2, k2, _⟩ := sh12.al
        refine ⟨_, rfl, .inl ⟨rfl, _, SqL.of (cut_le _ _ k2)⟩, _, rfl, _, rfl, _, rfl, d, S2, _, m, os1 ++ [o], rfl, hd12, sh12, by rw [lo1 []]; show os1.length + 0 + 1 ≤ 8; omega, hm1, hm4, fun H13 u2 o2 ds13 s13 nu2 hd13 ho2 wr2 sh2 sz2 => ?_⟩
        have sh13 := sh12.same (cut_same s13)
        have k13 := cut_le _ _ ((cut_same s13) _ _ k2)
        have hT13 := tb_but s13 hd12 hT12
        obtain ⟨vs3, k3, al3⟩ := sh13.al
        have lal3 := al3.len
        refine ⟨S2, _, _, rfl, rfl, k13, ?_, [o2], ds13, rfl, by rw [upd_ne (fun z => nS2d z.symm)]; exact hd13, ?_, by show 1 ≤ 1; decide, fun x hx => by rw [List.mem_singleton.mp hx]; exact sh2, fun c ts hm => sz2 c ts (List.mem_singleton.mp hm).symm, tb_but sb_upd k13 hT13⟩
        · have e2 : vs2.map V.ref = vs3.map V.ref := by
            injection (Option.some.inj (k13.symm.trans (cut_le _ _ k3)))
          refine szL' ?_
          rw [e2, List.length_map, lal3, lo1 []]
          show os1.length + 0 + 1 ≤ 100000
          omega
        · have := shop_app sh13 (by rw [lo1 []]; omega) k13 ho2 nS2d
          rw [List.append_assoc] at this
          exact this
      · exact ⟨[], _, rfl, hd12, sh11.same (cut_same s12), by show 0 ≤ 1; decide, (fun x hx => nomatch hx), (fun c ts hm => nomatch hm), tb_but s12 hd11 hT11⟩
    obtain ⟨R, ds12, rfl, hd12, sh12, lR, shR, szR, hT12⟩ := hI
    clear sh11 hd11 hT11
    -- perhaps a pack
    refine ⟨fun σ H' => ∃ (R : List Ofr) (ds' : List Int), σ = [some (.ref a), some (.ref d), some (.int (m : Int)), some (.ref S1), some (.ref S2), some (.int (n : Int)), none, none, none] ∧ H' d = some (LI ds') ∧ ShopAt (cutH d H') S2 (os1 ++ o :: R) ∧ R.length ≤ 2 ∧ (∀ x ∈ R, Sh 1000 (dOfr x)) ∧ SizeO 1000 R ∧ Tb [t] H', ?_, fun σ' H' hI => ?_⟩
    · refine ⟨_, rfl, d, _, rfl, hd12, fun H13 s13 hd13 => ⟨_, _, rfl, rfl, (by show (0 : Int) < _; decide), rfl, _, rfl, ite2 (fun _ => ?_) (fun _ => ?_)⟩⟩
      · have hT13 := tb_but s13 hd12 hT12
        have sh13 := sh12.same (cut_same s13)
        obtain ⟨vs2, k2, _⟩ := sh13.al
        refine ⟨_, rfl, .inl ⟨rfl, _, SqL.of (cut_le _ _ k2)⟩, _, rfl, _, rfl, d, _, m, 3, rfl, hd13, hm1, hm4, by decide, by decide, fun H14 c6 cs6 ns6 s14 nc6 nc6d hc6 hd14 hlc6 smc6 => ⟨by show 3 ≤ sizeLine; decide, fun v nv => ?_⟩⟩
        have sv := same_upd (o := .tup [.str "pack", .ref c6, .int 2]) nv
        have nvd : v ≠ d := fun z => by rw [z, hd14] at nv; cases nv
        have sh14 := (sh13.same (cut_same s14)).same (cut_mono sv)
        have k14 := sv _ _ (cut_le _ _ ((cut_same s14) _ _ k2))
        have hT14 := tb_same sv (tb_but s14 hd13 hT13)
        have hd15 := sv _ _ hd14
        have ov : OfrAt (cutH d (upd H14 v (.tup [.str "pack", .ref c6, .int 2]))) v (.pack cs6 2) := ⟨c6, cut_put nvd upd_same, cut_put nc6d (sv _ _ hc6)⟩
        generalize upd H14 v (.tup [.str "pack", .ref c6, .int 2]) = H15 at sh14 k14 hT14 hd15 ov ⊢
        obtain ⟨vs3, k3, al3⟩ := sh14.al
        have lal3 := al3.len
        refine ⟨S2, _, _, rfl, rfl, k14, ?_, R ++ [.pack cs6 2], ns6, rfl, by rw [upd_ne (fun z => nS2d z.symm)]; exact hd15, ?_, by rw [List.length_append]; show R.length + 1 ≤ 2; omega, fun x hx => ?_, fun c ts hm => ?_, tb_but sb_upd k14 hT14⟩
        · have e2 : vs2.map V.ref = vs3.map V.ref := by
            injection (Option.some.inj (k14.symm.trans (cut_le _ _ k3)))
          refine szL' ?_
          rw [e2, List.length_map, lal3, lo1 R]
          omega
        · have := shop_app sh14 (by rw [lo1 R]; omega) k14 ov nS2d
          rw [List.append_assoc] at this
          exact this
        · rcases List.mem_append.mp hx with z | z
          · exact shR x z
          · rw [List.mem_singleton.mp z]
            exact sh_ofr (os := []) (i := 0) (m := m) (by decide) hm4 True.intro ⟨hlc6, smc6, by decide, by decide⟩ (by decide)
        · rcases List.mem_append.mp hm with z | z
          · exact szR c ts z
          · cases List.mem_singleton.mp z
      · exact ⟨R, _, rfl, hd13, sh12.same (cut_same s13), by omega, shR, szR, tb_but s13 hd12 hT12⟩
    obtain ⟨R2, ds13, rfl, hd13, sh13, lR2, shR2, szR2, hT13⟩ := hI
    clear sh12 hd12 hT12 szR shR lR R
    have l8 : (os1 ++ o :: R2).length ≤ 8 := by rw [lo1]; omega
    have fb := fbw R2
    have shs : ∀ x ∈ os1 ++ o :: R2, Sh 1000 (dOfr x) := fun x hx => by
      rcases List.mem_append.mp hx with z | z
      · exact sh_good good1 ft1 hm4 x z
      · rcases List.mem_cons.mp z with rfl | z
        · exact sho
        · exact shR2 x z
    have szs : SizeO 1000 (os1 ++ o :: R2) := fun c ts hm => by
      rcases List.mem_append.mp hm with z | z
      · exact Nat.le_trans (good_size good1 c ts z) (by decide)
      · rcases List.mem_cons.mp z with z | z
        · exact szo c ts z.symm
        · exact szR2 c ts z
    generalize os1 ++ o :: R2 = osF at sh13 l8 fb shs szs
    -- the slice
    obtain ⟨vsF, kF, alF⟩ := sh13.al
    have lalF := alF.len
    refine ⟨_, rfl, _, rfl, S2, _, rfl, SqL.of (cut_le _ _ kF), fun S3 nS3 => ?_⟩
    have tk8 : cutV (vsF.map V.ref) none (some 8) = vsF.map V.ref := by
      have := cut_toR (vsF.map V.ref) 8
      rw [List.take_of_length_le (by rw [List.length_map]; omega)] at this
      exact this
    rw [tk8]
    have s14 := same_upd (o := .lst (vsF.map V.ref)) nS3
    have nS3d : S3 ≠ d := fun z => by rw [z, hd13] at nS3; cases nS3
    have sh14 : ShopAt (cutH d (upd H' S3 (.lst (vsF.map V.ref)))) S3 osF := ShopAt.of_al (cut_put nS3d upd_same) (alF.imp fun _ _ h => h.same (cut_mono s14))
    have hd14 := s14 _ _ hd13
    have hT14 := tb_same s14 hT13
    generalize upd H' S3 (.lst (vsF.map V.ref)) = H14 at sh14 hd14 hT14 ⊢
    -- the want
    refine ⟨_, rfl, _, rfl, d, _, m, rfl, hd14, hm1, hm4, fun H15 wa ws ds15 s15 nw nwd hw hd15 hlw smw _ => ?_⟩
    have hS15 : ShopAt H15 S3 osF := (sh14.same (cut_same s15)).same cut_le
    have hT15 := tb_but s15 hd14 hT14
    have shF := sh_whole shs l8
    have dpF := depth_shop osF
    have lnF : (dShop osF).shown.length ≤ sizeLine := Nat.le_trans shF.len (by decide)
    refine ⟨_, rfl, S3, dShop osF, rfl, hS15.dp, shF.ok, shF.nd, dpF, lnF, ?_⟩
    refine ⟨_, rfl, by decide, by decide, for_range (n := 9) (fun _ σ H' => ∃ y8, σ = [some (.ref a), some (.ref d), some (.int (m : Int)), some (.ref S1), some (.ref S3), some (.int (n : Int)), some (.ref wa), some (.str (dShop osF).shown), y8] ∧ Ext [t] H15 H') ⟨none, rfl, .refl hT15⟩ (fun i σ H16 hi hp => ?_) (fun σ H16 hp => ?_)⟩
    · obtain ⟨y8, rfl, e16⟩ := hp
      refine ⟨_, rfl, _, rfl, _, rfl, _, rfl, S3, wa, ws, osF, n, _, rfl, by omega, by omega, e16.lst hw, by omega, hS15.ext e16, szs, by omega, fb, n99, e16.t1, fun H17 e17 => ⟨true, rfl, ?_⟩⟩
      have e2 := e16.trans e17
      refine ⟨_, rfl, S3, dShop osF, rfl, (hS15.ext e2).dp, shF.ok, shF.nd, dpF, lnF, _, rfl, rfl, false, ?_, ?_⟩
      · show V.bl (!decide (V.str (dShop osF).shown = V.str (dShop osF).shown)) = _
        rw [decide_eq_true rfl]
        rfl
      · exact ⟨_, rfl, e2⟩
    · exact ⟨rfl, q⟩
end
/-! ### the end, with tables of code objects -/
theorem tabIn_of {K : PySem.W.Frag} {x : Str} {f c P : Addr} {oc e : Value} {od dd : Option Addr} {fd : FuncData} {sl sl' : Array (Option Value)} {vs : Array Value} (a : PySem.W.nsIn K mainGlobals x = some (some (.ref f))) (l : K.lookup f = some ⟨oc, od, .func fd, sl⟩) (hc : fd.code = .ref c)
    (lc : K.lookup c = some ⟨e, dd, .fields vs, sl'⟩) (hv : vs[11]? = some (.ref P)) : PySem.W.tabIn K x = some (c, P) := by
  unfold PySem.W.tabIn
  rw [a]
  simp only [l, hc, lc, hv]
theorem walk_ofG {l : PySem.W.OpenLaw} {n k : Nat} {q : Program} {loose : List Str} {XP : (Str → Option Value) → Heap → Prop} {YP : World → Heap → Prop} {d : DefRec} {K : Params → PySem.W.Frag} {CX : World → CXT} {x : Str}
    (hn : l.most = some n) (hn2 : n ≤ sizeLine) (hdf : d.params.defaults = []) (hr : Room k callerA) (hY : ∀ (w : World) (h : Heap), YP w h → (K w.params).In h)
    (F : ∀ (w : World) (mg : Str → Option Value) (fa : Addr) (h : Heap), (K w.params).In h → h.Ns mainGlobals mg → mg d.name = some (.ref fa) →
      (∀ (y : Str) (c P : Addr), ((recsOf q).find? fun e => e.name == y).isSome = true → PySem.W.tabIn (K w.params) y = some (c, P) → PySem.W.CodeHd h c P ∧ h.get? P = some { cls := .none, data := .fields #[] }) → LamX.LawAtS l w (K w.params) (CX w) k n x mg fa h)
    (hCX : ∀ (w : World) (H : Hp) (s : Shared) (e : Value) (s' : Shared), CX w [] H s (fun _ _ _ => False) e s' → False) :
    PySem.W.WalkO q loose XP YP l.row.toRowW d [] (fun f vs => PySem.call f vs) := by
  refine Att.attach_callB hn hdf fun w s₀ s₁ mg mb fa o pm cd doc a vs ns G Y ho hd hcd hmg hobj hints hlen hbits hg => ?_
  have KX := hY w _ Y
  obtain ⟨fd, cs, sp, hT, nT, C, hb, hsp, hF⟩ := F w mg fa _ KX G.T.g hmg fun y c P hy ht => by
    obtain ⟨dd, hdd⟩ := Option.isSome_iff_exists.mp hy
    exact PySem.W.tab_of G.T KX hdd ht
  exact LamX.law_callTs KX G.T.g G.T.b G.T.builtins G.T.nolimit hg hT nT C G.T.bmain hobj hints (Nat.le_trans hlen hn2) hr hF hb (fun H hH hS => hsp H a ns hlen hbits hH hS) fun H e s' => hCX w H s₁ e s'
/-! ### the end, for a law that shows data as texts -/
section
variable {P : Program} {w : World} {K : PySem.W.Frag} {mg mb : Str → Option Value} {k : Nat} {fa a : Addr} {cs : List (Addr × Addr)} {fd : FuncData} {x : Str} {sp : Sp} {s : Shared} {vs : List Value} {ns : List Int}
/-- a code object's table, as the head leaves it -/
abbrev tab0 : Obj := { cls := .none, data := .fields #[] }
/-- what is followed at the law's start: the tables, and the script unless it is written -/
def heap0 (K : PySem.W.Frag) (cs : List (Addr × Addr)) (a : Addr) (vs : List Value) (ns : List Int) : Hp := fun b =>
  if b ∈ cs.map Prod.snd then some (.tbl #[]) else if b = a ∧ K.lookup a = none then some (.frz { cls := .type "list", data := .seq vs.toArray } (.lst (ns.map V.int))) else none
theorem heap0_tab {b : Addr} (h : b ∈ cs.map Prod.snd) : heap0 K cs a vs ns b = some (.tbl #[]) := if_pos h
theorem heap0_scr (n : a ∉ cs.map Prod.snd) (h : K.lookup a = none) : heap0 K cs a vs ns a = some (.frz { cls := .type "list", data := .seq vs.toArray } (.lst (ns.map V.int))) := by
  unfold heap0
  rw [if_neg n, if_pos ⟨rfl, h⟩]
theorem heap0_cases {b : Addr} {u : HO} (h : heap0 K cs a vs ns b = some u) : (b ∈ cs.map Prod.snd ∧ u = .tbl #[]) ∨ (b = a ∧ K.lookup a = none ∧ u = .frz { cls := .type "list", data := .seq vs.toArray } (.lst (ns.map V.int))) := by
  unfold heap0 at h
  split at h
  · exact .inl ⟨by assumption, (Option.some.inj h).symm⟩
  · split at h
    · rename_i z
      exact .inr ⟨z.1, z.2, (Option.some.inj h).symm⟩
    · cases h
theorem lawG_call (kin : K.In s.heap) (glb : s.heap.Ns mainGlobals mg) (blt : s.heap.Ns builtinsNs mb) (std : ∀ x : Str, x ≠ "__name__" → mb x = bootBuiltins x) (nol : s.heap.NoLimit) (gens : s.gens = #[])
    (tabs : ∀ p ∈ cs, s.heap.get? p.2 = some tab0) (offK : ∀ p ∈ cs, K.lookup p.2 = none) (code : ∀ p ∈ cs, PySem.W.CodeHd s.heap p.1 p.2)
    (bmod : ∃ (bm : Addr) (ob : Obj), mg "__builtins__" = some (.ref bm) ∧ bm ≠ builtinsNs ∧ s.heap.get? bm = some ob ∧ ob.cls = .type "module" ∧ ob.dict = some builtinsNs ∧ ob.data = .plain)
    (scr : s.heap.get? a = some { cls := .type "list", data := .seq vs.toArray }) (areI : IntsAre vs ns) (few : ns.length ≤ sizeLine) (room : Room k callerA)
    (F : ∀ base : Heap, K.In base → base.Ns mainGlobals mg → (∀ p ∈ cs, GxR.TabB base mg p.1 p.2) → FnOkG P w K mg base k fa fd [x] sp) (bnd : ∀ (s : Shared) (u : Value), BindsTo s fd ⟨[u], []⟩ [(x, u)])
    (pre : ∀ H : Hp, (∀ p ∈ cs, H p.2 = some (.tbl #[])) → SqL K H a (ns.map V.int) → sp [.ref a] H (fun v _ => v = .bl true) fun _ _ _ => False) :
    codeAny (model P w) callerA (.call (.ref fa) ⟨[.ref a], []⟩) (fun r s' => r = .ok (.ret (.bool true)) ∧ OldK s.heap s'.heap ∧ s'.os = s.os ∧ AllBare s'.gens) s := by
  have tabT : ∀ {b}, b ∈ cs.map Prod.snd → s.heap.get? b = some tab0 := fun {b} hb => by
    obtain ⟨p, hp, rfl⟩ := List.mem_map.mp hb
    exact tabs p hp
  have inT : ∀ {p}, p ∈ cs → p.2 ∈ cs.map Prod.snd := fun {p} hp => List.mem_map.mpr ⟨p, hp, rfl⟩
  have scrT : a ∉ cs.map Prod.snd := fun hb => by
    have z := scr.symm.trans (tabT hb)
    injection Option.some.inj z with z1 _ _ _
    cases z1
  generalize hH : heap0 K cs a vs ns = H
  have onT : ∀ p ∈ cs, H p.2 = some (.tbl #[]) := fun p hp => by rw [← hH]; exact heap0_tab (inT hp)
  -- what else stands in the heap is not followed
  have off : ∀ {b : Addr} {o : Obj}, s.heap.get? b = some o → (∀ q n, o.data ≠ .seq q n) → o.data ≠ .fields #[] → H b = none := fun {b o} hb n1 n2 => by
    cases z : H b with
    | none => rfl
    | some u =>
      rw [← hH] at z
      rcases heap0_cases z with ⟨t, _⟩ | ⟨e, _, _⟩
      · cases (tabT t).symm.trans hb
        exact (n2 rfl).elim
      · rw [e] at hb
        cases scr.symm.trans hb
        exact (n1 _ _ rfl).elim
  have offD : ∀ {b : Addr} {o : Obj} {es : Array DictEntry} {ep : Nat}, s.heap.get? b = some o → o.data = .dict es ep → H b = none := fun {b o es ep} hb hd => off hb (fun q n z => by rw [hd] at z; cases z) (fun z => by rw [hd] at z; cases z)
  have nsB : ∀ {b : Addr} {m : Str → Option Value}, s.heap.Ns b m → (hidT s.heap H).Ns b m := fun {b m} z => by
    obtain ⟨o, es, ep, h1, h2, h3⟩ := z
    exact ⟨o, es, ep, hidT_get h1 (offD h1 h2), h2, h3⟩
  have seq : SqL K H a (ns.map V.int) := by
    have rel := vals_ints areI
    cases z : K.lookup a with
    | none => exact .inl (.inr ⟨_, by rw [← hH]; exact heap0_scr scrT z⟩)
    | some o =>
      cases scr.symm.trans (kin a o z)
      exact .inr ⟨_, vs.toArray, _, z, rfl, rfl, rfl, by rw [List.size_toArray, areI.length]; exact few, by simpa using rel⟩
  have hok : HOk P w H s.heap := fun b u z => by
    rw [← hH] at z
    rcases heap0_cases z with ⟨t, rfl⟩ | ⟨rfl, _, rfl⟩
    · exact tabT t
    · exact ⟨scr, by rw [List.length_map]; exact few, vs, _, vals_ints areI, scr⟩
  have kinB : K.In (hidT s.heap H) := fun b o z => hidT_get (kin b o z) (by
    cases y : H b with
    | none => rfl
    | some u =>
      rw [← hH] at y
      rcases heap0_cases y with ⟨t, _⟩ | ⟨e, n, _⟩
      · obtain ⟨p, hp, rfl⟩ := List.mem_map.mp t
        rw [offK p hp] at z
        cases z
      · rw [e, n] at z
        cases z)
  have tbB : ∀ p ∈ cs, GxR.TabB (hidT s.heap H) mg p.1 p.2 := fun p hp => by
    have tp := tabs p hp
    obtain ⟨og, eg, pg, g1, g2, _⟩ := id glb
    refine ⟨?_, ?_, fun z => ?_⟩
    · obtain ⟨o, q, y1, y2, y3, y4, y5, y6, y7, h1, h2, h3, h4, h5⟩ := code p hp
      refine ⟨o, q, y1, y2, y3, y4, y5, y6, y7, hidT_get h1 (off h1 (fun q n z => by rw [h3] at z; cases z) fun z => ?_), h2, h3, h4, h5⟩
      rw [h3] at z
      cases z
      simp at h4
    · obtain ⟨bm, ob, b1, b2, b3, b4, b5, b6⟩ := bmod
      have d1 : bm ≠ mainGlobals := fun z => by
        rw [z] at b3
        cases g1.symm.trans b3
        rw [g2] at b6
        cases b6
      have d2 : bm ≠ p.2 := fun z => by
        rw [z] at b3
        cases tp.symm.trans b3
        cases b6
      exact ⟨bm, ob, b1, b2, d1, d2, hidT_get b3 (off b3 (fun q n z => by rw [b6] at z; cases z) fun z => by rw [b6] at z; cases z), b4, b5, b6⟩
    · rw [z] at g1
      cases tp.symm.trans g1
      cases g2
  have env : Env0 P w K mg (hidT s.heap H) callerA [] s H := by
    refine ⟨rfl, ⟨kinB, nsB glb, ⟨mb, nsB blt, std⟩, ?_⟩, fun b o z => of_hidT z, Nat.le_of_eq (hidT_size _ _), trivial, fun b hb => absurd (show b ∈ ([] : List Addr) from hb) (List.not_mem_nil), hok, .of_eq gens⟩
    obtain ⟨mc, l1, l2⟩ := nol
    exact ⟨mc, nsB l1, l2⟩
  refine codeAny_mono ((F _ kinB (nsB glb) tbB).go callerA [] s H ⟨[.ref a], []⟩ [.ref a] [.ref a] _ _ rfl room env (bnd s (.ref a)) (.cons rfl .nil) (pre H onT seq)) fun r s' res => ?_
  match r, res with
  | .error e, z => exact z.elim
  | .ok (.ret u), ⟨v, H', os, bare, un, hok', rel, val⟩ =>
    have val' : v = .bl true := val
    subst val'
    obtain rfl : u = Value.bool true := rel
    have stay : ∀ {b : Addr} {o : Obj}, b ∉ cs.map Prod.snd → s.heap.get? b = some o → s'.heap.get? b = some o := fun {b o} nb hb => by
      cases z : H b with
      | none => exact un.keep b o hb z (fun y => absurd (show b ∈ ([] : List Addr) from y) List.not_mem_nil) (by simp)
      | some c =>
        have z0 := z
        rw [← hH] at z0
        rcases heap0_cases z0 with ⟨t, _⟩ | ⟨rfl, _, rfl⟩
        · exact absurd t nb
        · obtain ⟨y, _⟩ := hok' _ _ (un.frzs _ _ _ z)
          cases scr.symm.trans hb
          exact y
    have grow : ∀ {b : Addr}, b ∈ cs.map Prod.snd → isCodeTable s.heap b ∧ ∃ more : Array Value, s'.heap.get? b = some { cls := .none, data := .fields more } := fun {b} hb => by
      obtain ⟨p, hp, rfl⟩ := List.mem_map.mp hb
      obtain ⟨more, z⟩ := un.tbls p.2 #[] (onT p hp)
      exact ⟨((code p hp).tab (tabs p hp)).isCodeTable, _, hok' p.2 _ z⟩
    refine ⟨rfl, ⟨fun b o hb => ?_, fun b o hb => ?_⟩, os, bare⟩
    · by_cases t : b ∈ cs.map Prod.snd
      · obtain ⟨c1, more, c2⟩ := grow t
        cases (tabT t).symm.trans hb
        exact .inr (.inl ⟨c1, rfl, #[], more, rfl, by rw [Array.empty_append]; exact c2⟩)
      · exact .inl (stay t hb)
    · by_cases t : b ∈ cs.map Prod.snd
      · obtain ⟨_, more, c2⟩ := grow t
        exact ⟨_, c2⟩
      · exact ⟨o, stay t hb⟩
end
/-- the law's promise, for a law that shows data -/
def LawAtG (l : PySem.W.OpenLaw) (w : World) (K : PySem.W.Frag) (k n : Nat) (x : Str) (mg : Str → Option Value) (fa : Addr) (h : Heap) : Prop :=
  ∃ (fd : FuncData) (cs : List (Addr × Addr)) (sp : Sp), (∀ p ∈ cs, h.get? p.2 = some tab0) ∧ (∀ p ∈ cs, K.lookup p.2 = none) ∧ (∀ p ∈ cs, PySem.W.CodeHd h p.1 p.2) ∧ (∀ (s : Shared) (u : Value), BindsTo s fd ⟨[u], []⟩ [(x, u)]) ∧
    (∀ (H : Hp) (a : Addr) (ns : List Int), ns.length ≤ n → (∀ p ∈ cs, H p.2 = some (.tbl #[])) → SqL K H a (ns.map V.int) → sp [.ref a] H (fun v _ => v = .bl true) fun _ _ _ => False) ∧
    ∀ base : Heap, K.In base → base.Ns mainGlobals mg → (∀ p ∈ cs, GxR.TabB base mg p.1 p.2) → FnOkG l.prog w K mg base k fa fd [x] sp
theorem walk_ofH {l : PySem.W.OpenLaw} {n k : Nat} {q : Program} {loose : List Str} {XP : (Str → Option Value) → Heap → Prop} {YP : World → Heap → Prop} {d : DefRec} {K : Params → PySem.W.Frag} {x : Str}
    (most : l.most = some n) (few : n ≤ sizeLine) (nodef : d.params.defaults = []) (room : Room k callerA) (hK : ∀ (w : World) (h : Heap), YP w h → (K w.params).In h)
    (F : ∀ (w : World) (mg : Str → Option Value) (fa : Addr) (h : Heap), (K w.params).In h → h.Ns mainGlobals mg → mg d.name = some (.ref fa) →
      (∀ (y : Str) (c P : Addr), ((recsOf q).find? fun e => e.name == y).isSome = true → PySem.W.tabIn (K w.params) y = some (c, P) → PySem.W.CodeHd h c P ∧ h.get? P = some tab0) → LawAtG l w (K w.params) k n x mg fa h) :
    PySem.W.WalkO q loose XP YP l.row.toRowW d [] (fun f vs => PySem.call f vs) := by
  refine Att.attach_callB most nodef fun w s₀ s₁ mg mb fa o pm cd doc a vs ns gr Y _ _ _ named scr areI len _ gens => ?_
  have kin := hK w _ Y
  obtain ⟨fd, cs, sp, h1, h2, h3, h4, h5, h6⟩ := F w mg fa _ kin gr.T.g named fun y c P isR tb => by
    obtain ⟨rec, e⟩ := Option.isSome_iff_exists.mp isR
    exact PySem.W.tab_of gr.T kin e tb
  exact lawG_call kin gr.T.g gr.T.b gr.T.builtins gr.T.nolimit gens h1 h2 h3 gr.T.bmain scr areI (Nat.le_trans len few) room h6 h4 fun H t z => h5 H a ns len t z
/-! ### what the top has written -/
theorem all_mk {l : PySem.W.OpenLaw} {w : World} {q : Program} {K : PySem.W.Frag} {h : Heap} {mg : Str → Option Value} {fa f1 f2 f3 f4 f5 f6 f7 f8 f9 f10 f11 f12 f13 f14 f15 f16 f17 f18 f19 f20 f21 f22 f23 f24 f25 f26 f27 f28 f29 f30 f31 f32 : Addr} (X : K.In h) (G : h.Ns mainGlobals mg) (hfa : mg "law" = some (.ref fa))
    (tabs : ∀ (y : Str) (c P : Addr), ((recsOf q).find? fun e => e.name == y).isSome = true → PySem.W.tabIn K y = some (c, P) → PySem.W.CodeHd h c P ∧ h.get? P = some { cls := .none, data := .fields #[] })
    {od1 an1 od2 an2 od3 an3 od4 an4 od5 an5 od6 an6 od7 an7 od8 an8 od9 an9 od10 an10 od11 an11 od12 an12 od13 an13 od14 an14 od15 an15 od16 an16 od17 an17 od18 an18 od19 an19 od20 an20 od21 an21 od22 an22 od23 an23 od24 an24 od25 an25 od26 an26 od27 an27 od28 an28 od29 an29 od30 an30 od31 an31 od32 an32 : Option Addr} {sl1 sl2 sl3 sl4 sl5 sl6 sl7 sl8 sl9 sl10 sl11 sl12 sl13 sl14 sl15 sl16 sl17 sl18 sl19 sl20 sl21 sl22 sl23 sl24 sl25 sl26 sl27 sl28 sl29 sl30 sl31 sl32 : Array (Option Value)} {oc1 kV1 dc1 pm1 ct1 cd1 oc2 kV2 dc2 pm2 ct2 cd2 oc3 kV3 dc3 pm3 ct3 oc4 kV4 dc4 pm4 ct4 cd4 oc5 kV5 dc5 pm5 ct5 cd5 oc6 kV6 dc6 pm6 ct6 cd6 oc7 kV7 dc7 pm7 ct7 cd7 oc8 kV8 dc8 pm8 ct8 cd8 oc9 kV9 dc9 pm9 ct9 cd9 oc10 kV10 dc10 pm10 ct10 cd10 oc11 kV11 dc11 pm11 ct11 cd11 oc12 kV12 dc12 pm12 ct12 cd12 oc13 kV13 dc13 pm13 ct13 cd13 oc14 kV14 dc14 pm14 ct14 cd14 oc15 kV15 dc15 pm15 ct15 cd15 oc16 kV16 dc16 pm16 ct16 cd16 oc17 kV17 dc17 pm17 ct17 cd17 oc18 kV18 dc18 pm18 ct18 cd18 oc19 kV19 dc19 pm19 ct19 cd19 oc20 kV20 dc20 pm20 ct20 cd20 oc21 kV21 dc21 pm21 ct21 cd21 oc22 kV22 dc22 pm22 ct22 cd22 oc23 kV23 dc23 pm23 ct23 cd23 oc24 kV24 dc24 pm24 ct24 cd24 oc25 kV25 dc25 pm25 ct25 cd25 oc26 kV26 dc26 pm26 ct26 cd26 oc27 kV27 dc27 pm27 ct27 cd27 oc28 kV28 dc28 pm28 ct28 cd28 oc29 kV29 dc29 pm29 ct29 cd29 oc30 kV30 dc30 pm30 ct30 cd30 oc31 kV31 dc31 pm31 ct31 cd31 oc32 kV32 dc32 pm32 ct32 cd32 : Value}
    {cT3 PT3 : Addr} {eT3 : Value} {dT3 : Option Addr} {vT3 : Array Value} {sT3 : Array (Option Value)}
    {C CP fI cNoLine cNoPlace cNoText cNoThings : Addr} {nmC qC : Str} {NC : Addr} {bsC : List Value} {snC : List Str} {subC : List Value} {abC : Bool} {colC : Option Bool} {ddC : Option Addr} {mC0 mC1 mC2 mC3 mC5 : Option Value} {odI anI : Option Addr} {slI : Array (Option Value)} {ocI kVI dcI pmI cdI ctI : Value}
    (xaC : PySem.W.nsIn K mainGlobals "NoOffer" = some (some (.ref C)))
    (xaP : PySem.W.nsIn K mainGlobals "PackError" = some (some (.ref CP)))
    (xL : K.lookup C = some (excClassObj nmC qC C NC bsC [.ref CP, .type "ValueError", .type "Exception", .type "BaseException", .type "object"] true snC subC abC colC ddC mC0 mC1 mC2 mC3 mC5 "ValueError.__new__"))
    (xsa : PySem.W.findIn K (.ref C) "__setattr__" = some (some (.builtin "object.__setattr__")))
    (xex : PySem.W.subIn K (.ref C) (.type "BaseException") = some true)
    (xty : PySem.W.typeIn K (.ref C) = some (.type "type"))
    (xkC : PySem.W.keepIn K (.ref C) = true)
    (xrP : PySem.W.readsIn K CP (.type "type") = true)
    (xgP : PySem.W.specialIn K (.ref CP) "__getattribute__" = some (some (.builtin "type.__getattribute__")))
    (xvP : PySem.W.findCls K (.ref CP) (.type "type") "__init__" = some (.val (.builtin "ValueError.__init__")))
    (xnp : PySem.W.findIn K (.ref C) "place" = some none)
    (xiC : PySem.W.findIn K (.ref C) "__init__" = some (some (.ref fI)))
    (xtI : PySem.W.typeIn K (.ref fI) = some (.type "function"))
    (xlI : K.lookup fI = some ⟨ocI, odI, .func (PySem.W.fnOf "__init__" "NoOffer.__init__" (defArgs s_ninit) (defBody s_ninit) (defScope s_ninit) .none kVI dcI pmI anI cdI ctI), slI⟩)
    (xcI : PySem.W.codeIn K cdI "NoOffer.__init__" = true)
    (xkI : PySem.W.keepIn K (.ref fI) = true)
    (xhg : PySem.W.findIn K (.ref C) "__getattribute__" = some (some (.builtin "BaseException.__getattribute__")))
    (xhk : PySem.W.findIn K (.ref C) "__getattr__" = some none)
    (xhd : PySem.W.hasDictIn K C = true)
    (xha : PySem.W.findIn K (.ref C) "__class__" = some (some (.builtin "object.__class__")))
    (xhn : PySem.W.specialIn K (.builtin "object.__class__") "__get__" = some (some (.builtin "getset_descriptor.__get__")))
    (xht : PySem.W.takesIn K (.builtin "object.__class__") = some true)
    (xhm : PySem.W.mroIn K C (.type "object") = some true)
    (xv : PySem.W.nsIn K mainGlobals "ValueError" = some none)
    (xkv : PySem.W.kitOne K (.ref C) (.type "ValueError") = some true)
    (xkp : PySem.W.kitOne K (.ref C) (.ref CP) = some true)
    (xkn : PySem.W.kitOne K (.ref C) (.ref C) = some true)
    (xem : PySem.W.exmOne K (.ref C) (.ref CP) = some true)
    (xen : PySem.W.exmOne K (.ref C) (.ref C) = some true)
    (xaNoLine : PySem.W.nsIn K mainGlobals "NoLine" = some (some (.ref cNoLine)))
    (xkNoLine : PySem.W.kitOne K (.ref C) (.ref cNoLine) = some false)
    (xaNoPlace : PySem.W.nsIn K mainGlobals "NoPlace" = some (some (.ref cNoPlace)))
    (xkNoPlace : PySem.W.kitOne K (.ref C) (.ref cNoPlace) = some false)
    (xaNoText : PySem.W.nsIn K mainGlobals "NoText" = some (some (.ref cNoText)))
    (xkNoText : PySem.W.kitOne K (.ref C) (.ref cNoText) = some false)
    (xaNoThings : PySem.W.nsIn K mainGlobals "NoThings" = some (some (.ref cNoThings)))
    (xkNoThings : PySem.W.kitOne K (.ref C) (.ref cNoThings) = some false)
    {fT : Addr} {nmT qT : Str} {NT : Addr} {bsT : List Value} {snT : List Str} {subT : List Value} {abT : Bool} {colT : Option Bool} {ddT : Option Addr} {mT0 mT1 mT2 mT3 mT5 : Option Value} {odT anT : Option Addr} {slT : Array (Option Value)} {ocT kVT dcT pmT cdT ctT : Value}
    (yL : K.lookup cNoText = some (excClassObj nmT qT cNoText NT bsT [.ref CP, .type "ValueError", .type "Exception", .type "BaseException", .type "object"] true snT subT abT colT ddT mT0 mT1 mT2 mT3 mT5 "ValueError.__new__"))
    (ysa : PySem.W.findIn K (.ref cNoText) "__setattr__" = some (some (.builtin "object.__setattr__")))
    (yex : PySem.W.subIn K (.ref cNoText) (.type "BaseException") = some true)
    (yty : PySem.W.typeIn K (.ref cNoText) = some (.type "type"))
    (ykC : PySem.W.keepIn K (.ref cNoText) = true)
    (ynr : PySem.W.findIn K (.ref cNoText) "row" = some none)
    (yiC : PySem.W.findIn K (.ref cNoText) "__init__" = some (some (.ref fT)))
    (ytI : PySem.W.typeIn K (.ref fT) = some (.type "function"))
    (ylI : K.lookup fT = some ⟨ocT, odT, .func (PySem.W.fnOf "__init__" "NoText.__init__" (defArgs s_tinit) (defBody s_tinit) (defScope s_tinit) .none kVT dcT pmT anT cdT ctT), slT⟩)
    (ycI : PySem.W.codeIn K cdT "NoText.__init__" = true)
    (ykI : PySem.W.keepIn K (.ref fT) = true)
    (yhg : PySem.W.findIn K (.ref cNoText) "__getattribute__" = some (some (.builtin "BaseException.__getattribute__")))
    (yhk : PySem.W.findIn K (.ref cNoText) "__getattr__" = some none)
    (yhd : PySem.W.hasDictIn K cNoText = true)
    (peNoLine : PySem.W.excIn K cNoLine [.type "ValueError", .type "Exception", .type "BaseException", .type "object"] "ValueError.__new__" = true)
    (pkNoLine : PySem.W.keepIn K (.ref cNoLine) = true)
    (pgNoLine : PySem.W.findIn K (.ref cNoLine) "__getattribute__" = some (some (.builtin "BaseException.__getattribute__")))
    (phNoLine : PySem.W.findIn K (.ref cNoLine) "__getattr__" = some none)
    (pxNoLine : PySem.W.subIn K (.ref cNoLine) (.type "BaseException") = some true)
    (pdNoLine : PySem.W.hasDictIn K cNoLine = true)
    (paNoLine : PySem.W.findIn K (.ref cNoLine) "__class__" = some (some (.builtin "object.__class__")))
    (pmNoLine : PySem.W.mroIn K cNoLine (.type "object") = some true)
    (ppNoLine : PySem.W.kitOne K (.ref cNoLine) (.ref CP) = some true)
    (peNoPlace : PySem.W.excIn K cNoPlace [.type "ValueError", .type "Exception", .type "BaseException", .type "object"] "ValueError.__new__" = true)
    (pkNoPlace : PySem.W.keepIn K (.ref cNoPlace) = true)
    (pgNoPlace : PySem.W.findIn K (.ref cNoPlace) "__getattribute__" = some (some (.builtin "BaseException.__getattribute__")))
    (phNoPlace : PySem.W.findIn K (.ref cNoPlace) "__getattr__" = some none)
    (pxNoPlace : PySem.W.subIn K (.ref cNoPlace) (.type "BaseException") = some true)
    (pdNoPlace : PySem.W.hasDictIn K cNoPlace = true)
    (paNoPlace : PySem.W.findIn K (.ref cNoPlace) "__class__" = some (some (.builtin "object.__class__")))
    (pmNoPlace : PySem.W.mroIn K cNoPlace (.type "object") = some true)
    (ppNoPlace : PySem.W.kitOne K (.ref cNoPlace) (.ref CP) = some true)
    (peNoThings : PySem.W.excIn K cNoThings [.type "ValueError", .type "Exception", .type "BaseException", .type "object"] "ValueError.__new__" = true)
    (pkNoThings : PySem.W.keepIn K (.ref cNoThings) = true)
    (pgNoThings : PySem.W.findIn K (.ref cNoThings) "__getattribute__" = some (some (.builtin "BaseException.__getattribute__")))
    (phNoThings : PySem.W.findIn K (.ref cNoThings) "__getattr__" = some none)
    (pxNoThings : PySem.W.subIn K (.ref cNoThings) (.type "BaseException") = some true)
    (pdNoThings : PySem.W.hasDictIn K cNoThings = true)
    (paNoThings : PySem.W.findIn K (.ref cNoThings) "__class__" = some (some (.builtin "object.__class__")))
    (pmNoThings : PySem.W.mroIn K cNoThings (.type "object") = some true)
    (ppNoThings : PySem.W.kitOne K (.ref cNoThings) (.ref CP) = some true)
    (a1 : PySem.W.nsIn K mainGlobals "law" = some (some (.ref f1))) (l1 : K.lookup f1 = some ⟨oc1, od1, .func (PySem.W.fnOf "law" "law" (defArgs s_law) (defBody s_law) (defScope s_law) .none kV1 dc1 pm1 an1 cd1 ct1), sl1⟩) (c1 : PySem.W.codeIn K cd1 "law" = true) (k1 : PySem.W.keepIn K (.ref f1) = true)
    (a2 : PySem.W.nsIn K mainGlobals "names_pack" = some (some (.ref f2))) (l2 : K.lookup f2 = some ⟨oc2, od2, .func (PySem.W.fnOf "names_pack" "names_pack" (defArgs s_names_pack) (defBody s_names_pack) (defScope s_names_pack) .none kV2 dc2 pm2 an2 cd2 ct2), sl2⟩) (c2 : PySem.W.codeIn K cd2 "names_pack" = true) (k2 : PySem.W.keepIn K (.ref f2) = true)
    (a3 : PySem.W.nsIn K mainGlobals "good_tiers" = some (some (.ref f3))) (l3 : K.lookup f3 = some ⟨oc3, od3, .func (PySem.W.fnOf "good_tiers" "good_tiers" (defArgs s_good_tiers) (defBody s_good_tiers) (defScope s_good_tiers) .none kV3 dc3 pm3 an3 (.ref cT3) ct3), sl3⟩) (c3 : PySem.W.codeIn K (.ref cT3) "good_tiers" = true) (k3 : PySem.W.keepIn K (.ref f3) = true)
    (a4 : PySem.W.nsIn K mainGlobals "can_stand" = some (some (.ref f4))) (l4 : K.lookup f4 = some ⟨oc4, od4, .func (PySem.W.fnOf "can_stand" "can_stand" (defArgs s_can_stand) (defBody s_can_stand) (defScope s_can_stand) .none kV4 dc4 pm4 an4 cd4 ct4), sl4⟩) (c4 : PySem.W.codeIn K cd4 "can_stand" = true) (k4 : PySem.W.keepIn K (.ref f4) = true)
    (a5 : PySem.W.nsIn K mainGlobals "look" = some (some (.ref f5))) (l5 : K.lookup f5 = some ⟨oc5, od5, .func (PySem.W.fnOf "look" "look" (defArgs s_look) (defBody s_look) (defScope s_look) .none kV5 dc5 pm5 an5 cd5 ct5), sl5⟩) (c5 : PySem.W.codeIn K cd5 "look" = true) (k5 : PySem.W.keepIn K (.ref f5) = true)
    (a6 : PySem.W.nsIn K mainGlobals "lines" = some (some (.ref f6))) (l6 : K.lookup f6 = some ⟨oc6, od6, .func (PySem.W.fnOf "lines" "lines" (defArgs s_lines) (defBody s_lines) (defScope s_lines) .none kV6 dc6 pm6 an6 cd6 ct6), sl6⟩) (c6 : PySem.W.codeIn K cd6 "lines" = true) (k6 : PySem.W.keepIn K (.ref f6) = true)
    (a7 : PySem.W.nsIn K mainGlobals "priced_lines" = some (some (.ref f7))) (l7 : K.lookup f7 = some ⟨oc7, od7, .func (PySem.W.fnOf "priced_lines" "priced_lines" (defArgs s_priced_lines) (defBody s_priced_lines) (defScope s_priced_lines) .none kV7 dc7 pm7 an7 cd7 ct7), sl7⟩) (c7 : PySem.W.codeIn K cd7 "priced_lines" = true) (k7 : PySem.W.keepIn K (.ref f7) = true)
    (a8 : PySem.W.nsIn K mainGlobals "all_steps" = some (some (.ref f8))) (l8 : K.lookup f8 = some ⟨oc8, od8, .func (PySem.W.fnOf "all_steps" "all_steps" (defArgs s_all_steps) (defBody s_all_steps) (defScope s_all_steps) .none kV8 dc8 pm8 an8 cd8 ct8), sl8⟩) (c8 : PySem.W.codeIn K cd8 "all_steps" = true) (k8 : PySem.W.keepIn K (.ref f8) = true)
    (a9 : PySem.W.nsIn K mainGlobals "cheapest" = some (some (.ref f9))) (l9 : K.lookup f9 = some ⟨oc9, od9, .func (PySem.W.fnOf "cheapest" "cheapest" (defArgs s_cheapest) (defBody s_cheapest) (defScope s_cheapest) .none kV9 dc9 pm9 an9 cd9 ct9), sl9⟩) (c9 : PySem.W.codeIn K cd9 "cheapest" = true) (k9 : PySem.W.keepIn K (.ref f9) = true)
    (a10 : PySem.W.nsIn K mainGlobals "least" = some (some (.ref f10))) (l10 : K.lookup f10 = some ⟨oc10, od10, .func (PySem.W.fnOf "least" "least" (defArgs s_least) (defBody s_least) (defScope s_least) .none kV10 dc10 pm10 an10 cd10 ct10), sl10⟩) (c10 : PySem.W.codeIn K cd10 "least" = true) (k10 : PySem.W.keepIn K (.ref f10) = true)
    (a11 : PySem.W.nsIn K mainGlobals "cases" = some (some (.ref f11))) (l11 : K.lookup f11 = some ⟨oc11, od11, .func (PySem.W.fnOf "cases" "cases" (defArgs s_cases) (defBody s_cases) (defScope s_cases) .none kV11 dc11 pm11 an11 cd11 ct11), sl11⟩) (c11 : PySem.W.codeIn K cd11 "cases" = true) (k11 : PySem.W.keepIn K (.ref f11) = true)
    (a12 : PySem.W.nsIn K mainGlobals "shows" = some (some (.ref f12))) (l12 : K.lookup f12 = some ⟨oc12, od12, .func (PySem.W.fnOf "shows" "shows" (defArgs s_shows) (defBody s_shows) (defScope s_shows) .none kV12 dc12 pm12 an12 cd12 ct12), sl12⟩) (c12 : PySem.W.codeIn K cd12 "shows" = true) (k12 : PySem.W.keepIn K (.ref f12) = true)
    (a13 : PySem.W.nsIn K mainGlobals "without" = some (some (.ref f13))) (l13 : K.lookup f13 = some ⟨oc13, od13, .func (PySem.W.fnOf "without" "without" (defArgs s_without) (defBody s_without) (defScope s_without) .none kV13 dc13 pm13 an13 cd13 ct13), sl13⟩) (c13 : PySem.W.codeIn K cd13 "without" = true) (k13 : PySem.W.keepIn K (.ref f13) = true)
    (a14 : PySem.W.nsIn K mainGlobals "spared" = some (some (.ref f14))) (l14 : K.lookup f14 = some ⟨oc14, od14, .func (PySem.W.fnOf "spared" "spared" (defArgs s_spared) (defBody s_spared) (defScope s_spared) .none kV14 dc14 pm14 an14 cd14 ct14), sl14⟩) (c14 : PySem.W.codeIn K cd14 "spared" = true) (k14 : PySem.W.keepIn K (.ref f14) = true)
    (a15 : PySem.W.nsIn K mainGlobals "thinned" = some (some (.ref f15))) (l15 : K.lookup f15 = some ⟨oc15, od15, .func (PySem.W.fnOf "thinned" "thinned" (defArgs s_thinned) (defBody s_thinned) (defScope s_thinned) .none kV15 dc15 pm15 an15 cd15 ct15), sl15⟩) (c15 : PySem.W.codeIn K cd15 "thinned" = true) (k15 : PySem.W.keepIn K (.ref f15) = true)
    (a16 : PySem.W.nsIn K mainGlobals "moves" = some (some (.ref f16))) (l16 : K.lookup f16 = some ⟨oc16, od16, .func (PySem.W.fnOf "moves" "moves" (defArgs s_moves) (defBody s_moves) (defScope s_moves) .none kV16 dc16 pm16 an16 cd16 ct16), sl16⟩) (c16 : PySem.W.codeIn K cd16 "moves" = true) (k16 : PySem.W.keepIn K (.ref f16) = true)
    (a17 : PySem.W.nsIn K mainGlobals "fair" = some (some (.ref f17))) (l17 : K.lookup f17 = some ⟨oc17, od17, .func (PySem.W.fnOf "fair" "fair" (defArgs s_fair) (defBody s_fair) (defScope s_fair) .none kV17 dc17 pm17 an17 cd17 ct17), sl17⟩) (c17 : PySem.W.codeIn K cd17 "fair" = true) (k17 : PySem.W.keepIn K (.ref f17) = true)
    (a18 : PySem.W.nsIn K mainGlobals "single_prices" = some (some (.ref f18))) (l18 : K.lookup f18 = some ⟨oc18, od18, .func (PySem.W.fnOf "single_prices" "single_prices" (defArgs s_single_prices) (defBody s_single_prices) (defScope s_single_prices) .none kV18 dc18 pm18 an18 cd18 ct18), sl18⟩) (c18 : PySem.W.codeIn K cd18 "single_prices" = true) (k18 : PySem.W.keepIn K (.ref f18) = true)
    (a19 : PySem.W.nsIn K mainGlobals "hold_together" = some (some (.ref f19))) (l19 : K.lookup f19 = some ⟨oc19, od19, .func (PySem.W.fnOf "hold_together" "hold_together" (defArgs s_hold_together) (defBody s_hold_together) (defScope s_hold_together) .none kV19 dc19 pm19 an19 cd19 ct19), sl19⟩) (c19 : PySem.W.codeIn K cd19 "hold_together" = true) (k19 : PySem.W.keepIn K (.ref f19) = true)
    (a20 : PySem.W.nsIn K mainGlobals "_law_mix" = some (some (.ref f20))) (l20 : K.lookup f20 = some ⟨oc20, od20, .func (PySem.W.fnOf "_law_mix" "_law_mix" (defArgs s_law_mix) (defBody s_law_mix) (defScope s_law_mix) .none kV20 dc20 pm20 an20 cd20 ct20), sl20⟩) (c20 : PySem.W.codeIn K cd20 "_law_mix" = true) (k20 : PySem.W.keepIn K (.ref f20) = true)
    (a21 : PySem.W.nsIn K mainGlobals "_law_draws" = some (some (.ref f21))) (l21 : K.lookup f21 = some ⟨oc21, od21, .func (PySem.W.fnOf "_law_draws" "_law_draws" (defArgs s_law_draws) (defBody s_law_draws) (defScope s_law_draws) .none kV21 dc21 pm21 an21 cd21 ct21), sl21⟩) (c21 : PySem.W.codeIn K cd21 "_law_draws" = true) (k21 : PySem.W.keepIn K (.ref f21) = true)
    (a22 : PySem.W.nsIn K mainGlobals "_law_pop" = some (some (.ref f22))) (l22 : K.lookup f22 = some ⟨oc22, od22, .func (PySem.W.fnOf "_law_pop" "_law_pop" (defArgs s_law_pop) (defBody s_law_pop) (defScope s_law_pop) .none kV22 dc22 pm22 an22 cd22 ct22), sl22⟩) (c22 : PySem.W.codeIn K cd22 "_law_pop" = true) (k22 : PySem.W.keepIn K (.ref f22) = true)
    (a23 : PySem.W.nsIn K mainGlobals "_law_cut" = some (some (.ref f23))) (l23 : K.lookup f23 = some ⟨oc23, od23, .func (PySem.W.fnOf "_law_cut" "_law_cut" (defArgs s_law_cut) (defBody s_law_cut) (defScope s_law_cut) .none kV23 dc23 pm23 an23 cd23 ct23), sl23⟩) (c23 : PySem.W.codeIn K cd23 "_law_cut" = true) (k23 : PySem.W.keepIn K (.ref f23) = true)
    (a24 : PySem.W.nsIn K mainGlobals "_law_content" = some (some (.ref f24))) (l24 : K.lookup f24 = some ⟨oc24, od24, .func (PySem.W.fnOf "_law_content" "_law_content" (defArgs s_law_content) (defBody s_law_content) (defScope s_law_content) .none kV24 dc24 pm24 an24 cd24 ct24), sl24⟩) (c24 : PySem.W.codeIn K cd24 "_law_content" = true) (k24 : PySem.W.keepIn K (.ref f24) = true)
    (a25 : PySem.W.nsIn K mainGlobals "_law_price" = some (some (.ref f25))) (l25 : K.lookup f25 = some ⟨oc25, od25, .func (PySem.W.fnOf "_law_price" "_law_price" (defArgs s_law_price) (defBody s_law_price) (defScope s_law_price) .none kV25 dc25 pm25 an25 cd25 ct25), sl25⟩) (c25 : PySem.W.codeIn K cd25 "_law_price" = true) (k25 : PySem.W.keepIn K (.ref f25) = true)
    (a26 : PySem.W.nsIn K mainGlobals "_law_tiers" = some (some (.ref f26))) (l26 : K.lookup f26 = some ⟨oc26, od26, .func (PySem.W.fnOf "_law_tiers" "_law_tiers" (defArgs s_law_tiers) (defBody s_law_tiers) (defScope s_law_tiers) .none kV26 dc26 pm26 an26 cd26 ct26), sl26⟩) (c26 : PySem.W.codeIn K cd26 "_law_tiers" = true) (k26 : PySem.W.keepIn K (.ref f26) = true)
    (a27 : PySem.W.nsIn K mainGlobals "_law_shop" = some (some (.ref f27))) (l27 : K.lookup f27 = some ⟨oc27, od27, .func (PySem.W.fnOf "_law_shop" "_law_shop" (defArgs s_law_shop) (defBody s_law_shop) (defScope s_law_shop) .none kV27 dc27 pm27 an27 cd27 ct27), sl27⟩) (c27 : PySem.W.codeIn K cd27 "_law_shop" = true) (k27 : PySem.W.keepIn K (.ref f27) = true)
    (a28 : PySem.W.nsIn K mainGlobals "_law_want" = some (some (.ref f28))) (l28 : K.lookup f28 = some ⟨oc28, od28, .func (PySem.W.fnOf "_law_want" "_law_want" (defArgs s_law_want) (defBody s_law_want) (defScope s_law_want) .none kV28 dc28 pm28 an28 cd28 ct28), sl28⟩) (c28 : PySem.W.codeIn K cd28 "_law_want" = true) (k28 : PySem.W.keepIn K (.ref f28) = true)
    (a29 : PySem.W.nsIn K mainGlobals "_law_wrong" = some (some (.ref f29))) (l29 : K.lookup f29 = some ⟨oc29, od29, .func (PySem.W.fnOf "_law_wrong" "_law_wrong" (defArgs s_law_wrong) (defBody s_law_wrong) (defScope s_law_wrong) .none kV29 dc29 pm29 an29 cd29 ct29), sl29⟩) (c29 : PySem.W.codeIn K cd29 "_law_wrong" = true) (k29 : PySem.W.keepIn K (.ref f29) = true)
    (a30 : PySem.W.nsIn K mainGlobals "_law_only" = some (some (.ref f30))) (l30 : K.lookup f30 = some ⟨oc30, od30, .func (PySem.W.fnOf "_law_only" "_law_only" (defArgs s_law_only) (defBody s_law_only) (defScope s_law_only) .none kV30 dc30 pm30 an30 cd30 ct30), sl30⟩) (c30 : PySem.W.codeIn K cd30 "_law_only" = true) (k30 : PySem.W.keepIn K (.ref f30) = true)
    (a31 : PySem.W.nsIn K mainGlobals "_law_asked" = some (some (.ref f31))) (l31 : K.lookup f31 = some ⟨oc31, od31, .func (PySem.W.fnOf "_law_asked" "_law_asked" (defArgs s_law_asked) (defBody s_law_asked) (defScope s_law_asked) .none kV31 dc31 pm31 an31 cd31 ct31), sl31⟩) (c31 : PySem.W.codeIn K cd31 "_law_asked" = true) (k31 : PySem.W.keepIn K (.ref f31) = true)
    (a32 : PySem.W.nsIn K mainGlobals "_law_made" = some (some (.ref f32))) (l32 : K.lookup f32 = some ⟨oc32, od32, .func (PySem.W.fnOf "_law_made" "_law_made" (defArgs s_law_made) (defBody s_law_made) (defScope s_law_made) .none kV32 dc32 pm32 an32 cd32 ct32), sl32⟩) (c32 : PySem.W.codeIn K cd32 "_law_made" = true) (k32 : PySem.W.keepIn K (.ref f32) = true)
    (lc3 : K.lookup cT3 = some ⟨eT3, dT3, .fields vT3, sT3⟩) (hv3 : vT3[11]? = some (.ref PT3)) (nt3 : (K.lookup PT3).isNone = true) (rc3 : ((recsOf q).find? fun e => e.name == ("good_tiers" : Str)).isSome = true)
    (z1 : PySem.W.nsIn K mainGlobals "len" = some none)
    (z2 : PySem.W.nsIn K mainGlobals "range" = some none)
    (z3 : PySem.W.nsIn K mainGlobals "max" = some none)
    (z4 : PySem.W.nsIn K mainGlobals "list" = some none)
    (z5 : PySem.W.nsIn K mainGlobals "isinstance" = some none)
    (z6 : PySem.W.nsIn K mainGlobals "int" = some none)
    (z7 : PySem.W.nsIn K mainGlobals "bool" = some none)
    (z8 : PySem.W.nsIn K mainGlobals "enumerate" = some none)
    (z9 : PySem.W.nsIn K mainGlobals "all" = some none)
    (z10 : PySem.W.nsIn K mainGlobals "zip" = some none)
    (z11 : PySem.W.nsIn K mainGlobals "reversed" = some none)
    (z12 : PySem.W.nsIn K mainGlobals "sum" = some none)
    (z13 : PySem.W.nsIn K mainGlobals "sorted" = some none)
    (z14 : PySem.W.nsIn K mainGlobals "tuple" = some none)
    (z15 : PySem.W.nsIn K mainGlobals "any" = some none)
    (z16 : PySem.W.nsIn K mainGlobals "min" = some none)
    (z17 : PySem.W.nsIn K mainGlobals "str" = some none)
    (z18 : PySem.W.nsIn K mainGlobals "abs" = some none)
    {tk1 : Tok} (q1 : PySem.W.nsIn K mainGlobals "MOST_TIERS" = some (some (.int 4 tk1)))
    {tk2 : Tok} (q2 : PySem.W.nsIn K mainGlobals "MOST_PIECES" = some (some (.int 12 tk2)))
    : LawAtG l w K 8 63 "_law_script" mg fa h := by
  have e := hfa.symm.trans (PySem.W.mg_of X G a1)
  cases e
  have F1 := fun_mk (st := s_law) l1 c1 k1
  have b1 := F1.binds (ps := ["_law_script"]) fun _ _ _ _ _ _ us hl => match us, hl with | [_], _ => rfl
  have F2 := fun_mk (st := s_names_pack) l2 c2 k2
  have b2 := F2.binds (ps := ["shop", "at"]) fun _ _ _ _ _ _ us hl => match us, hl with | [_, _], _ => rfl
  have F3 := fun_mk (st := s_good_tiers) l3 c3 k3
  have b3 := F3.binds (ps := ["tiers"]) fun _ _ _ _ _ _ us hl => match us, hl with | [_], _ => rfl
  have F4 := fun_mk (st := s_can_stand) l4 c4 k4
  have b4 := F4.binds (ps := ["shop", "at"]) fun _ _ _ _ _ _ us hl => match us, hl with | [_, _], _ => rfl
  have F5 := fun_mk (st := s_look) l5 c5 k5
  have b5 := F5.binds (ps := ["shop"]) fun _ _ _ _ _ _ us hl => match us, hl with | [_], _ => rfl
  have F6 := fun_mk (st := s_lines) l6 c6 k6
  have b6 := F6.binds (ps := ["shop"]) fun _ _ _ _ _ _ us hl => match us, hl with | [_], _ => rfl
  have F7 := fun_mk (st := s_priced_lines) l7 c7 k7
  have b7 := F7.binds (ps := ["shop"]) fun _ _ _ _ _ _ us hl => match us, hl with | [_], _ => rfl
  have F8 := fun_mk (st := s_all_steps) l8 c8 k8
  have b8 := F8.binds (ps := ["priced", "want"]) fun _ _ _ _ _ _ us hl => match us, hl with | [_, _], _ => rfl
  have F9 := fun_mk (st := s_cheapest) l9 c9 k9
  have b9 := F9.binds (ps := ["priced", "want"]) fun _ _ _ _ _ _ us hl => match us, hl with | [_, _], _ => rfl
  have F10 := fun_mk (st := s_least) l10 c10 k10
  have b10 := F10.binds (ps := ["shop", "want"]) fun _ _ _ _ _ _ us hl => match us, hl with | [_, _], _ => rfl
  have F11 := fun_mk (st := s_cases) l11 c11 k11
  have b11 := F11.binds (ps := ["shop", "want"]) fun _ _ _ _ _ _ us hl => match us, hl with | [_, _], _ => rfl
  have F12 := fun_mk (st := s_shows) l12 c12 k12
  have b12 := F12.binds (ps := ["shop", "want", "table"]) fun _ _ _ _ _ _ us hl => match us, hl with | [_, _, _], _ => rfl
  have F13 := fun_mk (st := s_without) l13 c13 k13
  have b13 := F13.binds (ps := ["priced", "place"]) fun _ _ _ _ _ _ us hl => match us, hl with | [_, _], _ => rfl
  have F14 := fun_mk (st := s_spared) l14 c14 k14
  have b14 := F14.binds (ps := ["shop"]) fun _ _ _ _ _ _ us hl => match us, hl with | [_], _ => rfl
  have F15 := fun_mk (st := s_thinned) l15 c15 k15
  have b15 := F15.binds (ps := ["shop"]) fun _ _ _ _ _ _ us hl => match us, hl with | [_], _ => rfl
  have F16 := fun_mk (st := s_moves) l16 c16 k16
  have b16 := F16.binds (ps := ["shop", "want", "place"]) fun _ _ _ _ _ _ us hl => match us, hl with | [_, _, _], _ => rfl
  have F17 := fun_mk (st := s_fair) l17 c17 k17
  have b17 := F17.binds (ps := ["shop", "prices"]) fun _ _ _ _ _ _ us hl => match us, hl with | [_, _], _ => rfl
  have F18 := fun_mk (st := s_single_prices) l18 c18 k18
  have b18 := F18.binds (ps := ["shop", "want"]) fun _ _ _ _ _ _ us hl => match us, hl with | [_, _], _ => rfl
  have F19 := fun_mk (st := s_hold_together) l19 c19 k19
  have b19 := F19.binds (ps := ["shop", "want", "told"]) fun _ _ _ _ _ _ us hl => match us, hl with | [_, _, _], _ => rfl
  have F20 := fun_mk (st := s_law_mix) l20 c20 k20
  have b20 := F20.binds (ps := ["_law_cell", "_law_turn"]) fun _ _ _ _ _ _ us hl => match us, hl with | [_, _], _ => rfl
  have F21 := fun_mk (st := s_law_draws) l21 c21 k21
  have b21 := F21.binds (ps := ["_law_script", "_law_turn", "_law_many"]) fun _ _ _ _ _ _ us hl => match us, hl with | [_, _, _], _ => rfl
  have F22 := fun_mk (st := s_law_pop) l22 c22 k22
  have b22 := F22.binds (ps := ["_law_draws_here"]) fun _ _ _ _ _ _ us hl => match us, hl with | [_], _ => rfl
  have F23 := fun_mk (st := s_law_cut) l23 c23 k23
  have b23 := F23.binds (ps := ["_law_row"]) fun _ _ _ _ _ _ us hl => match us, hl with | [_], _ => rfl
  have F24 := fun_mk (st := s_law_content) l24 c24 k24
  have b24 := F24.binds (ps := ["_law_draws_here", "_law_many", "_law_most"]) fun _ _ _ _ _ _ us hl => match us, hl with | [_, _, _], _ => rfl
  have F25 := fun_mk (st := s_law_price) l25 c25 k25
  have b25 := F25.binds (ps := ["_law_draws_here"]) fun _ _ _ _ _ _ us hl => match us, hl with | [_], _ => rfl
  have F26 := fun_mk (st := s_law_tiers) l26 c26 k26
  have b26 := F26.binds (ps := ["_law_draws_here"]) fun _ _ _ _ _ _ us hl => match us, hl with | [_], _ => rfl
  have F27 := fun_mk (st := s_law_shop) l27 c27 k27
  have b27 := F27.binds (ps := ["_law_draws_here", "_law_many", "_law_most"]) fun _ _ _ _ _ _ us hl => match us, hl with | [_, _, _], _ => rfl
  have F28 := fun_mk (st := s_law_want) l28 c28 k28
  have b28 := F28.binds (ps := ["_law_draws_here", "_law_many"]) fun _ _ _ _ _ _ us hl => match us, hl with | [_, _], _ => rfl
  have F29 := fun_mk (st := s_law_wrong) l29 c29 k29
  have b29 := F29.binds (ps := ["_law_draws_here", "_law_many", "_law_shop_here"]) fun _ _ _ _ _ _ us hl => match us, hl with | [_, _, _], _ => rfl
  have F30 := fun_mk (st := s_law_only) l30 c30 k30
  have b30 := F30.binds (ps := ["_law_error", "_law_place"]) fun _ _ _ _ _ _ us hl => match us, hl with | [_, _], _ => rfl
  have F31 := fun_mk (st := s_law_asked) l31 c31 k31
  have b31 := F31.binds (ps := ["_law_shop_here", "_law_want_here", "_law_place", "_law_which"]) fun _ _ _ _ _ _ us hl => match us, hl with | [_, _, _, _], _ => rfl
  have F32 := fun_mk (st := s_law_made) l32 c32 k32
  have b32 := F32.binds (ps := []) fun _ _ _ _ _ _ us hl => match us, hl with | [], _ => rfl
  have FI := fun_mk (st := s_ninit) xlI xcI xkI
  have bI := FI.binds (ps := ["self", "place"]) fun _ _ _ _ _ _ us hl => match us, hl with | [_, _], _ => rfl
  have X0 : Exs K mg C CP fI _ := ⟨PySem.W.mg_of X G xaC, PySem.W.mg_of X G xaP, ⟨⟨nmC, qC, NC, bsC, _, snC, subC, abC, colC, ddC, mC0, mC1, mC2, mC3, mC5, xL, (show PySem.HandSPX.refsVE [.type "ValueError", .type "Exception", .type "BaseException", .type "object"] = true by decide +kernel)⟩, xsa, xex, xty, xkC⟩, xrP, xgP, xvP, xnp, xiC, xtI, FI, bI, ⟨xhg, xhk, xex, xhd, xha, xhn, xht, xhm⟩, ⟨xhg, xhk, xex, xhd⟩⟩
  have Y0 : ExKit K mg C CP := ⟨⟨_, PySem.W.mg_of X G xaNoLine, xkNoLine⟩, ⟨_, PySem.W.mg_of X G xaNoPlace, xkNoPlace⟩, ⟨_, PySem.W.mg_of X G xaNoText, xkNoText⟩, ⟨_, PySem.W.mg_of X G xaNoThings, xkNoThings⟩, PySem.W.mg_none_of X G xv, xkv, xkp, xkn, xem, xen⟩
  have FT := fun_mk (st := s_tinit) ylI ycI ykI
  have bT := FT.binds (ps := ["self", "row"]) fun _ _ _ _ _ _ us hl => match us, hl with | [_, _], _ => rfl
  have Z0 : ExText K mg cNoText fT _ := ⟨PySem.W.mg_of X G xaNoText, ⟨⟨nmT, qT, NT, bsT, _, snT, subT, abT, colT, ddT, mT0, mT1, mT2, mT3, mT5, yL, (show PySem.HandSPX.refsVE [.type "ValueError", .type "Exception", .type "BaseException", .type "object"] = true by decide +kernel)⟩, ysa, yex, yty, ykC⟩, ynr, yiC, ytI, FT, bT, ⟨yhg, yhk, yex, yhd⟩⟩
  have ZNoLine : ExPlain K mg CP "NoLine" := ⟨⟨_, PySem.W.mg_of X G xaNoLine, peNoLine, pkNoLine, ⟨pgNoLine, phNoLine, pxNoLine, pdNoLine, paNoLine, xhn, xht, pmNoLine⟩, ppNoLine⟩⟩
  have ZNoPlace : ExPlain K mg CP "NoPlace" := ⟨⟨_, PySem.W.mg_of X G xaNoPlace, peNoPlace, pkNoPlace, ⟨pgNoPlace, phNoPlace, pxNoPlace, pdNoPlace, paNoPlace, xhn, xht, pmNoPlace⟩, ppNoPlace⟩⟩
  have ZNoThings : ExPlain K mg CP "NoThings" := ⟨⟨_, PySem.W.mg_of X G xaNoThings, peNoThings, pkNoThings, ⟨pgNoThings, phNoThings, pxNoThings, pdNoThings, paNoThings, xhn, xht, pmNoThings⟩, ppNoThings⟩⟩
  have M : Names mg := ⟨PySem.W.mg_none_of X G z1, PySem.W.mg_none_of X G z2, PySem.W.mg_none_of X G z3, PySem.W.mg_none_of X G z4, PySem.W.mg_none_of X G z5, PySem.W.mg_none_of X G z6, PySem.W.mg_none_of X G z7, PySem.W.mg_none_of X G z8, PySem.W.mg_none_of X G z9, PySem.W.mg_none_of X G z10, PySem.W.mg_none_of X G z11, PySem.W.mg_none_of X G z12, PySem.W.mg_none_of X G z13, PySem.W.mg_none_of X G z14, PySem.W.mg_none_of X G z15, PySem.W.mg_none_of X G z16, PySem.W.mg_none_of X G z17, PySem.W.mg_none_of X G z18, ⟨_, PySem.W.mg_of X G q1⟩, ⟨_, PySem.W.mg_of X G q2⟩⟩
  obtain ⟨hd3, ht3⟩ := tabs "good_tiers" cT3 PT3 rc3 (tabIn_of a3 l3 rfl lc3 hv3)
  refine ⟨PySem.W.fnOf "law" "law" (defArgs s_law) (defBody s_law) (defScope s_law) .none kV1 dc1 pm1 an1 cd1 ct1, [(cT3, PT3)], sp_law K PT3, ?hT, ?nT, ?hC, fun s v => .of_eq rfl, fun H a ns hl hT hS => ⟨a, ns, rfl, hS, hl, ⟨#[], hT (cT3, PT3) List.mem_cons_self, True.intro⟩, fun _ => rfl⟩, fun base _ _ hB => ?_⟩
  case hT =>
    exact fun p hp => by
      rcases List.mem_cons.mp hp with rfl | hp
      · exact ht3
      cases hp
  case nT =>
    exact fun p hp => by
      rcases List.mem_cons.mp hp with rfl | hp
      · exact Option.isNone_iff_eq_none.mp nt3
      cases hp
  case hC =>
    exact fun p hp => by
      rcases List.mem_cons.mp hp with rfl | hp
      · exact hd3
      cases hp
  have T3 := hB (cT3, PT3) List.mem_cons_self
  exact ok_law M ⟨F1, PySem.W.mg_of X G a1, b1⟩ ⟨F2, PySem.W.mg_of X G a2, b2⟩ ⟨F3, PySem.W.mg_of X G a3, b3⟩ ⟨F4, PySem.W.mg_of X G a4, b4⟩ ⟨F5, PySem.W.mg_of X G a5, b5⟩ ⟨F6, PySem.W.mg_of X G a6, b6⟩ ⟨F7, PySem.W.mg_of X G a7, b7⟩ ⟨F8, PySem.W.mg_of X G a8, b8⟩ ⟨F9, PySem.W.mg_of X G a9, b9⟩ ⟨F10, PySem.W.mg_of X G a10, b10⟩ ⟨F11, PySem.W.mg_of X G a11, b11⟩ ⟨F12, PySem.W.mg_of X G a12, b12⟩ ⟨F13, PySem.W.mg_of X G a13, b13⟩ ⟨F14, PySem.W.mg_of X G a14, b14⟩ ⟨F15, PySem.W.mg_of X G a15, b15⟩ ⟨F16, PySem.W.mg_of X G a16, b16⟩ ⟨F17, PySem.W.mg_of X G a17, b17⟩ ⟨F18, PySem.W.mg_of X G a18, b18⟩ ⟨F19, PySem.W.mg_of X G a19, b19⟩ ⟨F20, PySem.W.mg_of X G a20, b20⟩ ⟨F21, PySem.W.mg_of X G a21, b21⟩ ⟨F22, PySem.W.mg_of X G a22, b22⟩ ⟨F23, PySem.W.mg_of X G a23, b23⟩ ⟨F24, PySem.W.mg_of X G a24, b24⟩ ⟨F25, PySem.W.mg_of X G a25, b25⟩ ⟨F26, PySem.W.mg_of X G a26, b26⟩ ⟨F27, PySem.W.mg_of X G a27, b27⟩ ⟨F28, PySem.W.mg_of X G a28, b28⟩ ⟨F29, PySem.W.mg_of X G a29, b29⟩ ⟨F30, PySem.W.mg_of X G a30, b30⟩ ⟨F31, PySem.W.mg_of X G a31, b31⟩ ⟨F32, PySem.W.mg_of X G a32, b32⟩ rfl ⟨T3.code, T3.bm, T3.gP⟩ X0 Y0 Z0 ZNoLine ZNoPlace ZNoThings
end Pk
open PySem PySem.W PyProof.Rows
set_option maxHeartbeats 0 in
theorem PySem.Challenge.cw_packwants_k29_functions_refuse_shops_holds : PySem.Challenge.rw_packwants_k29_functions_refuse_shops.Holds := by
  w_on; o_law; k_head; (case hw => w_witness2)
  k_fill
  refine Pk.walk_ofH (l := PySem.Challenge.rw_packwants_k29_functions_refuse_shops) (n := 63) (k := 8) (x := "_law_script") rfl (by decide) rfl ⟨rfl, by decide, by decide⟩ (fun w h Y => PySem.W.kIn_of Y) ?F
  case F =>
    intro w mg fa h KX G hmg tabs
    refine' Pk.all_mk KX G hmg tabs ?xaC ?xaP ?xL ?xsa ?xex ?xty ?xkC ?xrP ?xgP ?xvP ?xnp ?xiC ?xtI ?xlI ?xcI ?xkI ?xhg ?xhk ?xhd ?xha ?xhn ?xht ?xhm ?xv ?xkv ?xkp ?xkn ?xem ?xen ?xaNoLine ?xkNoLine ?xaNoPlace ?xkNoPlace ?xaNoText ?xkNoText ?xaNoThings ?xkNoThings ?yL ?ysa ?yex ?yty ?ykC ?ynr ?yiC ?ytI ?ylI ?ycI ?ykI ?yhg ?yhk ?yhd ?peNoLine ?pkNoLine ?pgNoLine ?phNoLine ?pxNoLine ?pdNoLine ?paNoLine ?pmNoLine ?ppNoLine ?peNoPlace ?pkNoPlace ?pgNoPlace ?phNoPlace ?pxNoPlace ?pdNoPlace ?paNoPlace ?pmNoPlace ?ppNoPlace ?peNoThings ?pkNoThings ?pgNoThings ?phNoThings ?pxNoThings ?pdNoThings ?paNoThings ?pmNoThings ?ppNoThings ?a1 ?l1 ?c1 ?k1 ?a2 ?l2 ?c2 ?k2 ?a3 ?l3 ?c3 ?k3 ?a4 ?l4 ?c4 ?k4 ?a5 ?l5 ?c5 ?k5 ?a6 ?l6 ?c6 ?k6 ?a7 ?l7 ?c7 ?k7 ?a8 ?l8 ?c8 ?k8 ?a9 ?l9 ?c9 ?k9 ?a10 ?l10 ?c10 ?k10 ?a11 ?l11 ?c11 ?k11 ?a12 ?l12 ?c12 ?k12 ?a13 ?l13 ?c13 ?k13 ?a14 ?l14 ?c14 ?k14 ?a15 ?l15 ?c15 ?k15 ?a16 ?l16 ?c16 ?k16 ?a17 ?l17 ?c17 ?k17 ?a18 ?l18 ?c18 ?k18 ?a19 ?l19 ?c19 ?k19 ?a20 ?l20 ?c20 ?k20 ?a21 ?l21 ?c21 ?k21 ?a22 ?l22 ?c22 ?k22 ?a23 ?l23 ?c23 ?k23 ?a24 ?l24 ?c24 ?k24 ?a25 ?l25 ?c25 ?k25 ?a26 ?l26 ?c26 ?k26 ?a27 ?l27 ?c27 ?k27 ?a28 ?l28 ?c28 ?k28 ?a29 ?l29 ?c29 ?k29 ?a30 ?l30 ?c30 ?k30 ?a31 ?l31 ?c31 ?k31 ?a32 ?l32 ?c32 ?k32 ?lc3 ?hv3 ?nt3 ?rc3 ?z1 ?z2 ?z3 ?z4 ?z5 ?z6 ?z7 ?z8 ?z9 ?z10 ?z11 ?z12 ?z13 ?z14 ?z15 ?z16 ?z17 ?z18 ?q1 ?q2
    (case xaC => first | k_is | rfl); (case xaP => first | k_is | rfl); (case xL => first | k_is | rfl); (case xsa => first | k_is | rfl); (case xex => first | k_is | rfl); (case xty => first | k_is | rfl); (case xkC => first | k_is | rfl); (case xrP => first | k_is | rfl); (case xgP => first | k_is | rfl); (case xvP => first | k_is | rfl); (case xnp => first | k_is | rfl); (case xiC => first | k_is | rfl); (case xtI => first | k_is | rfl); (case xlI => first | k_is | rfl); (case xcI => first | k_is | rfl); (case xkI => first | k_is | rfl); (case xhg => first | k_is | rfl); (case xhk => first | k_is | rfl); (case xhd => first | k_is | rfl); (case xha => first | k_is | rfl); (case xhn => first | k_is | rfl); (case xht => first | k_is | rfl); (case xhm => first | k_is | rfl); (case xv => first | k_is | rfl); (case xkv => first | k_is | rfl); (case xkp => first | k_is | rfl); (case xkn => first | k_is | rfl); (case xem => first | k_is | rfl); (case xen => first | k_is | rfl); (case xaNoLine => first | k_is | rfl); (case xkNoLine => first | k_is | rfl); (case xaNoPlace => first | k_is | rfl); (case xkNoPlace => first | k_is | rfl); (case xaNoText => first | k_is | rfl); (case xkNoText => first | k_is | rfl); (case xaNoThings => first | k_is | rfl); (case xkNoThings => first | k_is | rfl)
    (case yL => first | k_is | k_exc | rfl); (case ysa => first | k_is | k_exc | rfl); (case yex => first | k_is | k_exc | rfl); (case yty => first | k_is | k_exc | rfl); (case ykC => first | k_is | k_exc | rfl); (case ynr => first | k_is | k_exc | rfl); (case yiC => first | k_is | k_exc | rfl); (case ytI => first | k_is | k_exc | rfl); (case ylI => first | k_is | k_exc | rfl); (case ycI => first | k_is | k_exc | rfl); (case ykI => first | k_is | k_exc | rfl); (case yhg => first | k_is | k_exc | rfl); (case yhk => first | k_is | k_exc | rfl); (case yhd => first | k_is | k_exc | rfl); (case peNoLine => first | k_is | k_exc | rfl); (case pkNoLine => first | k_is | k_exc | rfl); (case pgNoLine => first | k_is | k_exc | rfl); (case phNoLine => first | k_is | k_exc | rfl); (case pxNoLine => first | k_is | k_exc | rfl); (case pdNoLine => first | k_is | k_exc | rfl); (case paNoLine => first | k_is | k_exc | rfl); (case pmNoLine => first | k_is | k_exc | rfl); (case ppNoLine => first | k_is | k_exc | rfl); (case peNoPlace => first | k_is | k_exc | rfl); (case pkNoPlace => first | k_is | k_exc | rfl); (case pgNoPlace => first | k_is | k_exc | rfl); (case phNoPlace => first | k_is | k_exc | rfl); (case pxNoPlace => first | k_is | k_exc | rfl); (case pdNoPlace => first | k_is | k_exc | rfl); (case paNoPlace => first | k_is | k_exc | rfl); (case pmNoPlace => first | k_is | k_exc | rfl); (case ppNoPlace => first | k_is | k_exc | rfl); (case peNoThings => first | k_is | k_exc | rfl); (case pkNoThings => first | k_is | k_exc | rfl); (case pgNoThings => first | k_is | k_exc | rfl); (case phNoThings => first | k_is | k_exc | rfl); (case pxNoThings => first | k_is | k_exc | rfl); (case pdNoThings => first | k_is | k_exc | rfl); (case paNoThings => first | k_is | k_exc | rfl); (case pmNoThings => first | k_is | k_exc | rfl); (case ppNoThings => first | k_is | k_exc | rfl)
    (case a1 => k_is); (case l1 => k_is); (case c1 => k_is); (case k1 => k_is); (case a2 => k_is); (case l2 => k_is); (case c2 => k_is); (case k2 => k_is); (case a3 => k_is); (case l3 => k_is); (case c3 => k_is); (case k3 => k_is); (case a4 => k_is); (case l4 => k_is); (case c4 => k_is); (case k4 => k_is); (case a5 => k_is); (case l5 => k_is); (case c5 => k_is); (case k5 => k_is); (case a6 => k_is); (case l6 => k_is); (case c6 => k_is); (case k6 => k_is); (case a7 => k_is); (case l7 => k_is); (case c7 => k_is); (case k7 => k_is); (case a8 => k_is); (case l8 => k_is); (case c8 => k_is); (case k8 => k_is); (case a9 => k_is); (case l9 => k_is); (case c9 => k_is); (case k9 => k_is); (case a10 => k_is); (case l10 => k_is); (case c10 => k_is); (case k10 => k_is); (case a11 => k_is); (case l11 => k_is); (case c11 => k_is); (case k11 => k_is); (case a12 => k_is); (case l12 => k_is); (case c12 => k_is); (case k12 => k_is); (case a13 => k_is); (case l13 => k_is); (case c13 => k_is); (case k13 => k_is); (case a14 => k_is); (case l14 => k_is); (case c14 => k_is); (case k14 => k_is); (case a15 => k_is); (case l15 => k_is); (case c15 => k_is); (case k15 => k_is); (case a16 => k_is); (case l16 => k_is); (case c16 => k_is); (case k16 => k_is); (case a17 => k_is); (case l17 => k_is); (case c17 => k_is); (case k17 => k_is); (case a18 => k_is); (case l18 => k_is); (case c18 => k_is); (case k18 => k_is); (case a19 => k_is); (case l19 => k_is); (case c19 => k_is); (case k19 => k_is); (case a20 => k_is); (case l20 => k_is); (case c20 => k_is); (case k20 => k_is); (case a21 => k_is); (case l21 => k_is); (case c21 => k_is); (case k21 => k_is); (case a22 => k_is); (case l22 => k_is); (case c22 => k_is); (case k22 => k_is); (case a23 => k_is); (case l23 => k_is); (case c23 => k_is); (case k23 => k_is); (case a24 => k_is); (case l24 => k_is); (case c24 => k_is); (case k24 => k_is); (case a25 => k_is); (case l25 => k_is); (case c25 => k_is); (case k25 => k_is); (case a26 => k_is); (case l26 => k_is); (case c26 => k_is); (case k26 => k_is); (case a27 => k_is); (case l27 => k_is); (case c27 => k_is); (case k27 => k_is); (case a28 => k_is); (case l28 => k_is); (case c28 => k_is); (case k28 => k_is); (case a29 => k_is); (case l29 => k_is); (case c29 => k_is); (case k29 => k_is); (case a30 => k_is); (case l30 => k_is); (case c30 => k_is); (case k30 => k_is); (case a31 => k_is); (case l31 => k_is); (case c31 => k_is); (case k31 => k_is); (case a32 => k_is); (case l32 => k_is); (case c32 => k_is); (case k32 => k_is); (case lc3 => k_is); (case hv3 => rfl); (case nt3 => rfl); (case rc3 => rfl); (case z1 => k_is); (case z2 => k_is); (case z3 => k_is); (case z4 => k_is); (case z5 => k_is); (case z6 => k_is); (case z7 => k_is); (case z8 => k_is); (case z9 => k_is); (case z10 => k_is); (case z11 => k_is); (case z12 => k_is); (case z13 => k_is); (case z14 => k_is); (case z15 => k_is); (case z16 => k_is); (case z17 => k_is); (case z18 => k_is); (case q1 => k_is); (case q2 => k_is)
